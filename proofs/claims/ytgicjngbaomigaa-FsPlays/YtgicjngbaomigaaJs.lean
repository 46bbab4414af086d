/- texts: two lists of strings that are the same; every name in a file system is a good one. It proves no statement by itself. No conditions. -/
import Derived.Test.YtgicjngbaomigaaHs
import Derived.Test.YtgicjngbaomigaaGp
import Derived.Test.YtgicjngbaomigaaJa
namespace Go.Proofs.Ytgicjngbaomigaa
open Go Go.Vx
set_option linter.all false
variable [W0]
set_option maxRecDepth 4000

theorem texts_same (xs : List ByteArray) (va vb : Value) (Ca Cb : Chunk) (L : List Chunk) (ha : Ow 9 1 va xs.length (xs.map Value.string) Ca) (hb : Ow 9 1 vb xs.length (xs.map Value.string) Cb) :
    GvP Try.prog 25 [va, vb].toArray (Ca :: Cb :: L) (.bool true) := by
  refine Gv.of_body Try.func25 rfl rfl ?_
  by_cases h0 : xs.length = 0
  · obtain ⟨a1, c1, rfl⟩ := ow_slc ha
    obtain ⟨a2, c2, rfl⟩ := ow_slc hb
    rw [h0]
    (repeat' (first | (show WL _ _ _ _ _ _ _; first | (refine WL_plain rfl ?_) | (refine WL_nil ?_) | (refine WL_on rfl rfl ?_) | (refine WL_off rfl rfl rfl rfl ?_) | (refine WL_offu rfl rfl rfl rfl ?_) | (refine WL_off' rfl rfl rfl ?_) | ((refine WL_split rfl rfl (fun hc => ?_) (fun hc => ?_)) <;> (rw [hc]; (try simp only [nrB] at hc); (try (exfalso; first | omega | exact hc trivial | exact hc rfl))))) | (show OW _ _ _ _ _ _; refine OW_E ?_) | (show OW _ _ ⟨_, .store .., _, _, _, _⟩ _ _ _; first | (refine OW_store rfl rfl rfl (by repeat (first | exact Upd.here | apply Upd.there)) (by first | (simp; done) | (simp; omega)) ?_) | (refine OW_storeAgg rfl rfl rfl rfl (by repeat (first | exact Upd.here | apply Upd.there)) (by first | (simp [Value.cells]; done) | (simp [Value.cells]; omega)) ?_)) | (show OW _ _ ⟨_, .alloc _, _, _, _, _⟩ _ _ _; first | (refine OW_alloc rfl (fun bk => ?_))) | (show OW _ _ ⟨_, .box .., _, _, _, _⟩ _ _ _; first | (refine OW_box rfl rfl (fun bk => ?_))) | (show WC _ _ _ _ _ _; first | (refine WC_seq ?_) | (refine WC_region ?_) | (refine WC_true rfl ?_) | (refine WC_false rfl ?_) | ((refine WC_cond rfl (fun hc => ?_) (fun hc => ?_)) <;> (try simp only [nrB] at hc) <;> (try (exfalso; first | omega | exact hc trivial | exact hc rfl))) | (refine WC_skip ?_) | (refine WC_ret ?_) | (refine WC_exit ?_) | (refine WC_block ?_)) | (show WQ _ _ _ _; first | (with_reducible refine WQ_then_normal ?_) | (with_reducible refine WQ_code ?_) | (with_reducible refine WQ_then_ret ?_) | (with_reducible refine WQ_block_ret ?_) | (with_reducible refine WQ_then_exit ?_) | (with_reducible refine WQ_block_hit ?_) | (with_reducible refine WQ_block_miss rfl ?_) | (with_reducible refine WQ_block_normal ?_))))
    refine WC_loop (X := Unit) (fun _ => [(0, .slice a1 0 c1), (1, .slice a2 0 c2), (5, .int .i64 0)]) (fun _ => Ca :: Cb :: L) (fun _ => True) (fun _ => 0) () trivial (by repeat (first | exact Sub.nil | refine Sub.cons rfl ?_ | refine Sub.cons (lk_int rfl (by first | omega | (dsimp only; omega))) ?_)) (fun w h => h) ?_
    intro _ _
    (repeat' (first | (show WL _ _ _ _ _ _ _; first | (refine WL_plain rfl ?_) | (refine WL_nil ?_) | (refine WL_on rfl rfl ?_) | (refine WL_off rfl rfl rfl rfl ?_) | (refine WL_offu rfl rfl rfl rfl ?_) | (refine WL_off' rfl rfl rfl ?_) | ((refine WL_split rfl rfl (fun hc => ?_) (fun hc => ?_)) <;> (rw [hc]; (try simp only [nrB] at hc); (try (exfalso; first | omega | exact hc trivial | exact hc rfl))))) | (show OW _ _ _ _ _ _; refine OW_E ?_) | (show OW _ _ ⟨_, .store .., _, _, _, _⟩ _ _ _; first | (refine OW_store rfl rfl rfl (by repeat (first | exact Upd.here | apply Upd.there)) (by first | (simp; done) | (simp; omega)) ?_) | (refine OW_storeAgg rfl rfl rfl rfl (by repeat (first | exact Upd.here | apply Upd.there)) (by first | (simp [Value.cells]; done) | (simp [Value.cells]; omega)) ?_)) | (show OW _ _ ⟨_, .alloc _, _, _, _, _⟩ _ _ _; first | (refine OW_alloc rfl (fun bk => ?_))) | (show OW _ _ ⟨_, .box .., _, _, _, _⟩ _ _ _; first | (refine OW_box rfl rfl (fun bk => ?_))) | (show WC _ _ _ _ _ _; first | (refine WC_seq ?_) | (refine WC_region ?_) | (refine WC_true rfl ?_) | (refine WC_false rfl ?_) | ((refine WC_cond rfl (fun hc => ?_) (fun hc => ?_)) <;> (try simp only [nrB] at hc) <;> (try (exfalso; first | omega | exact hc trivial | exact hc rfl))) | (refine WC_skip ?_) | (refine WC_ret ?_) | (refine WC_exit ?_) | (refine WC_block ?_)) | (show WQ _ _ _ _; first | (with_reducible refine WQ_then_normal ?_) | (with_reducible refine WQ_code ?_) | (with_reducible refine WQ_then_ret ?_) | (with_reducible refine WQ_block_ret ?_) | (with_reducible refine WQ_then_exit ?_) | (with_reducible refine WQ_block_hit ?_) | (with_reducible refine WQ_block_miss rfl ?_) | (with_reducible refine WQ_block_normal ?_))))
    ((first | refine WQ_retI rfl rfl ?_ | refine WQ_endI rfl rfl ?_); exact ⟨_, (by repeat (first | exact Inc.refl | exact Inc.nil | refine Inc.cons (by repeat (first | exact Take.here | apply Take.there)) ?_ | refine Inc.skip ?_)), rfl, rfl⟩)
  · rcases ha with ⟨_, h1, _⟩ | ⟨b1, c1, r1, rfl, rfl, hx1, _, hm1, hm2⟩
    · exact absurd h1 h0
    rcases hb with ⟨_, h1, _⟩ | ⟨b2, c2, r2, rfl, rfl, hx2, _, _, _⟩
    · exact absurd h1 h0
    have hxl : xs.length ≤ 9223372036854775807 := by
      have : maxLen = 9223372036854775807 := by decide
      omega
    (repeat' (first | (show WL _ _ _ _ _ _ _; first | (refine WL_plain rfl ?_) | (refine WL_nil ?_) | (refine WL_on rfl rfl ?_) | (refine WL_off rfl rfl rfl rfl ?_) | (refine WL_offu rfl rfl rfl rfl ?_) | (refine WL_off' rfl rfl rfl ?_) | ((refine WL_split rfl rfl (fun hc => ?_) (fun hc => ?_)) <;> (rw [hc]; (try simp only [nrB] at hc); (try (exfalso; first | omega | exact hc trivial | exact hc rfl))))) | (show OW _ _ _ _ _ _; refine OW_E ?_) | (show OW _ _ ⟨_, .store .., _, _, _, _⟩ _ _ _; first | (refine OW_store rfl rfl rfl (by repeat (first | exact Upd.here | apply Upd.there)) (by first | (simp; done) | (simp; omega)) ?_) | (refine OW_storeAgg rfl rfl rfl rfl (by repeat (first | exact Upd.here | apply Upd.there)) (by first | (simp [Value.cells]; done) | (simp [Value.cells]; omega)) ?_)) | (show OW _ _ ⟨_, .alloc _, _, _, _, _⟩ _ _ _; first | (refine OW_alloc rfl (fun bk => ?_))) | (show OW _ _ ⟨_, .box .., _, _, _, _⟩ _ _ _; first | (refine OW_box rfl rfl (fun bk => ?_))) | (show WC _ _ _ _ _ _; first | (refine WC_seq ?_) | (refine WC_region ?_) | (refine WC_true rfl ?_) | (refine WC_false rfl ?_) | ((refine WC_cond rfl (fun hc => ?_) (fun hc => ?_)) <;> (try simp only [nrB] at hc) <;> (try (exfalso; first | omega | exact hc trivial | exact hc rfl))) | (refine WC_skip ?_) | (refine WC_ret ?_) | (refine WC_exit ?_) | (refine WC_block ?_)) | (show WQ _ _ _ _; first | (with_reducible refine WQ_then_normal ?_) | (with_reducible refine WQ_code ?_) | (with_reducible refine WQ_then_ret ?_) | (with_reducible refine WQ_block_ret ?_) | (with_reducible refine WQ_then_exit ?_) | (with_reducible refine WQ_block_hit ?_) | (with_reducible refine WQ_block_miss rfl ?_) | (with_reducible refine WQ_block_normal ?_))))
    all_goals (try (exfalso; (first | contradiction | (rename_i hcc; exact hcc trivial) | (rename_i hcc; exact hcc rfl))))
    refine WC_loop (X := Nat) (fun i => [(0, .slice (some ⟨b1, 0, none⟩) xs.length c1), (1, .slice (some ⟨b2, 0, none⟩) xs.length c2), (5, .int .i64 (i : Int))]) (fun _ => [(b1, cl (xs.map Value.string ++ r1) 9)] :: [(b2, cl (xs.map Value.string ++ r2) 9)] :: L) (fun i => i ≤ xs.length) (fun i => xs.length - i) 0 (Nat.zero_le _) (by repeat (first | exact Sub.nil | refine Sub.cons rfl ?_ | refine Sub.cons (lk_int rfl (by first | omega | (dsimp only; omega))) ?_)) (fun w h => h) ?_
    intro i hi
    (repeat' (first | (show WL _ _ _ _ _ _ _; first | (refine WL_plain rfl ?_) | (refine WL_nil ?_) | (refine WL_on rfl rfl ?_) | (refine WL_off rfl rfl rfl rfl ?_) | (refine WL_offu rfl rfl rfl rfl ?_) | (refine WL_off' rfl rfl rfl ?_) | ((refine WL_split rfl rfl (fun hc => ?_) (fun hc => ?_)) <;> (rw [hc]; (try simp only [nrB] at hc); (try (exfalso; first | omega | exact hc trivial | exact hc rfl))))) | (show OW _ _ _ _ _ _; refine OW_E ?_) | (show OW _ _ ⟨_, .store .., _, _, _, _⟩ _ _ _; first | (refine OW_store rfl rfl rfl (by repeat (first | exact Upd.here | apply Upd.there)) (by first | (simp; done) | (simp; omega)) ?_) | (refine OW_storeAgg rfl rfl rfl rfl (by repeat (first | exact Upd.here | apply Upd.there)) (by first | (simp [Value.cells]; done) | (simp [Value.cells]; omega)) ?_)) | (show OW _ _ ⟨_, .alloc _, _, _, _, _⟩ _ _ _; first | (refine OW_alloc rfl (fun bk => ?_))) | (show OW _ _ ⟨_, .box .., _, _, _, _⟩ _ _ _; first | (refine OW_box rfl rfl (fun bk => ?_))) | (show WC _ _ _ _ _ _; first | (refine WC_seq ?_) | (refine WC_region ?_) | (refine WC_true rfl ?_) | (refine WC_false rfl ?_) | ((refine WC_cond rfl (fun hc => ?_) (fun hc => ?_)) <;> (try simp only [nrB] at hc) <;> (try (exfalso; first | omega | exact hc trivial | exact hc rfl))) | (refine WC_skip ?_) | (refine WC_ret ?_) | (refine WC_exit ?_) | (refine WC_block ?_)) | (show WQ _ _ _ _; first | (with_reducible refine WQ_then_normal ?_) | (with_reducible refine WQ_code ?_) | (with_reducible refine WQ_then_ret ?_) | (with_reducible refine WQ_block_ret ?_) | (with_reducible refine WQ_then_exit ?_) | (with_reducible refine WQ_block_hit ?_) | (with_reducible refine WQ_block_miss rfl ?_) | (with_reducible refine WQ_block_normal ?_))))
    · have hlt : i < xs.length := by omega
      obtain ⟨s, hs⟩ : ∃ s, xs[i]? = some s := ⟨xs[i], by simp [hlt]⟩
      have hv : (xs.map Value.string)[i]? = some (.string s) := by simp [hs]
      refine WC_drawAll [] mixed ?_
      (refine WR_t 0 ?_; refine WR_t 1 ?_)
      (refine WR_take 2 rfl rfl (by kernel_rfl) (by repeat (first | exact PO.body | refine PO.then ?_ | refine PO.block ?_)) (by repeat (first | exact Inc.refl | exact Inc.nil | refine Inc.cons (by repeat (first | exact Take.here | apply Take.there)) ?_ | refine Inc.skip ?_)) (EV_indexAddr0 (j := i) rfl rfl rfl hlt) (by rfl) ?_)
      (refine WR_take 3 rfl rfl (by kernel_rfl) (by repeat (first | exact PO.body | refine PO.then ?_ | refine PO.block ?_)) (by repeat (first | exact Inc.refl | exact Inc.nil | refine Inc.cons (by repeat (first | exact Take.here | apply Take.there)) ?_ | refine Inc.skip ?_)) (EV_loadc (v := .string s) rfl (by repeat (first | assumption | exact Fnd.here | refine Fnd.there ?_)) (by rw [nth_eq, Nat.mul_one]; exact getE_app hv)) (by rfl) ?_)
      (refine WR_t 4 ?_; refine WR_t 5 ?_)
      (refine WR_take 6 rfl rfl (by kernel_rfl) (by repeat (first | exact PO.body | refine PO.then ?_ | refine PO.block ?_)) (by repeat (first | exact Inc.refl | exact Inc.nil | refine Inc.cons (by repeat (first | exact Take.here | apply Take.there)) ?_ | refine Inc.skip ?_)) (EV_indexAddr0 (j := i) rfl rfl rfl hlt) (by rfl) ?_)
      (refine WR_take 7 rfl rfl (by kernel_rfl) (by repeat (first | exact PO.body | refine PO.then ?_ | refine PO.block ?_)) (by repeat (first | exact Inc.refl | exact Inc.nil | refine Inc.cons (by repeat (first | exact Take.here | apply Take.there)) ?_ | refine Inc.skip ?_)) (EV_loadc (v := .string s) rfl (by repeat (first | assumption | exact Fnd.here | refine Fnd.there ?_)) (by rw [nth_eq, Nat.mul_one]; exact getE_app hv)) (by rfl) ?_)
      (refine WR_t 8 ?_)
      (refine WR_done (by kernel_rfl) ?_)
      (repeat' (first | (show WL _ _ _ _ _ _ _; first | (refine WL_plain rfl ?_) | (refine WL_nil ?_) | (refine WL_on rfl rfl ?_) | (refine WL_off rfl rfl rfl rfl ?_) | (refine WL_offu rfl rfl rfl rfl ?_) | (refine WL_off' rfl rfl rfl ?_) | ((refine WL_split rfl rfl (fun hc => ?_) (fun hc => ?_)) <;> (rw [hc]; (try simp only [nrB] at hc); (try (exfalso; first | omega | exact hc trivial | exact hc rfl))))) | (show OW _ _ _ _ _ _; refine OW_E ?_) | (show OW _ _ ⟨_, .store .., _, _, _, _⟩ _ _ _; first | (refine OW_store rfl rfl rfl (by repeat (first | exact Upd.here | apply Upd.there)) (by first | (simp; done) | (simp; omega)) ?_) | (refine OW_storeAgg rfl rfl rfl rfl (by repeat (first | exact Upd.here | apply Upd.there)) (by first | (simp [Value.cells]; done) | (simp [Value.cells]; omega)) ?_)) | (show OW _ _ ⟨_, .alloc _, _, _, _, _⟩ _ _ _; first | (refine OW_alloc rfl (fun bk => ?_))) | (show OW _ _ ⟨_, .box .., _, _, _, _⟩ _ _ _; first | (refine OW_box rfl rfl (fun bk => ?_))) | (show WC _ _ _ _ _ _; first | (refine WC_seq ?_) | (refine WC_region ?_) | (refine WC_true rfl ?_) | (refine WC_false rfl ?_) | ((refine WC_cond rfl (fun hc => ?_) (fun hc => ?_)) <;> (try simp only [nrB] at hc) <;> (try (exfalso; first | omega | exact hc trivial | exact hc rfl))) | (refine WC_skip ?_) | (refine WC_ret ?_) | (refine WC_exit ?_) | (refine WC_block ?_)) | (show WQ _ _ _ _; first | (with_reducible refine WQ_then_normal ?_) | (with_reducible refine WQ_code ?_) | (with_reducible refine WQ_then_ret ?_) | (with_reducible refine WQ_block_ret ?_) | (with_reducible refine WQ_then_exit ?_) | (with_reducible refine WQ_block_hit ?_) | (with_reducible refine WQ_block_miss rfl ?_) | (with_reducible refine WQ_block_normal ?_))))
      all_goals (try (exfalso; (first | contradiction | (rename_i hcc; exact hcc trivial) | (rename_i hcc; exact hcc rfl))))
      refine WQ_round (i + 1) (by omega) (by omega) (by repeat (first | exact Sub.nil | refine Sub.cons rfl ?_ | refine Sub.cons (lk_int rfl (by first | omega | (dsimp only; omega))) ?_)) (fun w h => ((by repeat (first | exact Inc.refl | exact Inc.nil | refine Inc.cons (by repeat (first | exact Take.here | apply Take.there)) ?_ | refine Inc.skip ?_)) : Inc _ _).holds h)
    · ((first | refine WQ_retI rfl rfl ?_ | refine WQ_endI rfl rfl ?_); exact ⟨_, (by repeat (first | exact Inc.refl | exact Inc.nil | refine Inc.cons (by repeat (first | exact Take.here | apply Take.there)) ?_ | refine Inc.skip ?_)), rfl, rfl⟩)
omit [W0] in
def chNm : Ch → Prop
  | .cr s _ => nameOk s = true
  | .rn _ b => nameOk b = true
  | .rm _ => True
structure NmOk (S : Fsy) : Prop where
  n : ∀ e ∈ S.names, nameOk e.name = true
  d : ∀ e ∈ S.durable, nameOk e.name = true
  j : ∀ c ∈ S.journal, chNm c
theorem after_ok {es : List En} {c : Ch} (h : ∀ e ∈ es, nameOk e.name = true) (hc : chNm c) : ∀ e ∈ afterE es c, nameOk e.name = true := by
  intro e he
  cases c with
  | cr s f =>
    rcases mem_put he with h1 | h1
    · subst h1; exact hc
    · exact h e h1
  | rn a b =>
    rcases mem_put he with h1 | h1
    · subst h1; exact hc
    · exact h e (mem_dropE h1)
  | rm a => exact h e (mem_dropE he)
theorem fold_ok : ∀ (l : List Ch) (es : List En), (∀ c ∈ l, chNm c) → (∀ e ∈ es, nameOk e.name = true) → ∀ e ∈ l.foldl afterE es, nameOk e.name = true
  | [], _, _, h => h
  | c :: l, es, hl, h => by
    simp only [List.foldl_cons]
    exact fold_ok l _ (fun x hx => hl x (by simp [hx])) (after_ok h (hl c (by simp)))
theorem jr_ok {S : Fsy} (h : NmOk S) (k : Nat) : ∀ e ∈ jr S k, nameOk e.name = true :=
  fold_ok _ _ (fun c hc => h.j c (List.mem_of_mem_take hc)) h.d
theorem nm_note {S S' : Fsy} {c : Ch} (h : NmOk S) (hc : chNm c) (h1 : S'.names = afterE S.names c) (h2 : S'.durable = S.durable) (h3 : S'.journal = S.journal ++ [c]) : NmOk S' := by
  refine ⟨by rw [h1]; exact after_ok h.n hc, by rw [h2]; exact h.d, by rw [h3]; intro x hx; rcases List.mem_append.1 hx with hx | hx; exact h.j x hx; simp at hx; subst hx; exact hc⟩
theorem nm_same {S S' : Fsy} (h : NmOk S) (h1 : S'.names = S.names) (h2 : S'.durable = S.durable) (h3 : S'.journal = S.journal) : NmOk S' :=
  ⟨by rw [h1]; exact h.n, by rw [h2]; exact h.d, by rw [h3]; exact h.j⟩
theorem renum_ok {es : List En} (h : ∀ e ∈ es, nameOk e.name = true) : ∀ e ∈ renum 0 es, nameOk e.name = true := by
  intro e he
  obtain ⟨k, hk⟩ := List.getElem?_of_mem he
  rw [renum_get] at hk
  cases hg : es[k]? with
  | none => simp [hg] at hk
  | some x =>
    simp [hg] at hk
    subst hk
    exact h x (List.mem_of_getElem? hg)
theorem nm_spend {S : Fsy} (h : NmOk S) : NmOk (spendS S) := by
  obtain ⟨e1, e2, e3, e4, e5⟩ := spend_same S
  exact nm_same h e2 e3 e4
theorem nm_create {S : Fsy} {s : ByteArray} (h : NmOk S) : NmOk (createS S s).2 := by
  obtain ⟨e1, e2, e3, e4, e5⟩ := spend_same S
  unfold createS
  split
  · exact h
  split
  · exact h
  rename_i _ h1
  split
  · exact nm_spend h
  · exact nm_note (c := .cr s S.files.length) h (openE_none (by simpa using h1)).2.1 rfl e3 rfl
theorem nm_append {S : Fsy} {s : ByteArray} {b : List UInt8} (h : NmOk S) : NmOk (appendS S s b).2 := by
  unfold appendS
  split
  · exact h
  split
  · exact h
  split
  · exact nm_spend h
  · exact nm_same (nm_spend h) rfl rfl rfl
theorem nm_sync {S : Fsy} {s : ByteArray} (h : NmOk S) : NmOk (syncS S s).2 := by
  unfold syncS
  split
  · exact h
  split
  · exact nm_spend h
  · exact nm_same (nm_spend h) rfl rfl rfl
theorem nm_rename {S : Fsy} {a b : ByteArray} (h : NmOk S) : NmOk (renameS S a b).2 := by
  obtain ⟨e1, e2, e3, e4, e5⟩ := spend_same S
  unfold renameS
  split
  · exact h
  rename_i h1
  split
  · exact h
  rename_i h2
  split
  · exact nm_spend h
  split
  · exact nm_spend h
  · have h2' : openE S a = 0 := by simpa using h2
    have hb : nameOk b = true := by
      cases hb : nameOk b
      · exact absurd ⟨by rw [h2']; decide, hb⟩ h1
      · rfl
    exact nm_note (c := .rn a b) h hb rfl e3 rfl
theorem nm_remove {S : Fsy} {a : ByteArray} (h : NmOk S) : NmOk (removeS S a).2 := by
  obtain ⟨e1, e2, e3, e4, e5⟩ := spend_same S
  unfold removeS
  split
  · exact h
  split
  · exact nm_spend h
  · exact nm_note (c := .rm a) h trivial rfl e3 rfl
theorem nm_settle {S : Fsy} (h : ∀ e ∈ S.names, nameOk e.name = true) : NmOk (settleS S) :=
  ⟨renum_ok h, renum_ok h, fun c hc => by simp [settleS] at hc⟩
theorem nm_syncNames {S : Fsy} (h : NmOk S) : NmOk (syncNamesS S).2 := by
  unfold syncNamesS
  split
  · exact nm_spend h
  · exact nm_settle (nm_spend h).n
theorem nm_crash {S : Fsy} {n : Int} {d : List Int} (h : NmOk S) : NmOk (crashS S n d) := by
  have h1 := jr_ok h (crashK S n)
  exact ⟨renum_ok h1, renum_ok h1, fun c hc => by simp [crashS, settleS] at hc⟩
theorem list_opens {S : Fsy} {e : En} {pre : ByteArray} (h : NmOk S) (he : e ∈ listS S pre) : openE S e.name = 0 := by
  unfold listS at he
  split at he
  · simp at he
  · rename_i hd
    have hm : e ∈ S.names := by
      unfold listE at he
      exact List.mem_of_mem_drop ((List.takeWhile_sublist _).subset he)
    have hh : has S.names e.name = true := by unfold has; rw [List.any_eq_true]; exact ⟨e, hm, by simp⟩
    simp [openE, hd, h.n e hm, hh]

end Go.Proofs.Ytgicjngbaomigaa
