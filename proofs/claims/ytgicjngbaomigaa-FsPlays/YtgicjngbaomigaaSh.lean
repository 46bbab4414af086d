/- The document's own file system: Crash. It proves no statement by itself. No conditions. -/
import Derived.Test.YtgicjngbaomigaaSg
namespace Go.Proofs.Ytgicjngbaomigaa
open Go Go.Vx
set_option linter.all false
variable [W0]
set_option maxRecDepth 4000

theorem chcl_at : ∀ {l : List Cg} {k : Nat} {c : Cg}, l[k]? = some c → (chcl l)[k * 3]? = some (.string c.name) ∧ (chcl l)[k * 3 + 1]? = some (.string c.src) ∧ (chcl l)[k * 3 + 2]? = some (.int .i64 c.f)
  | [], _, _, h => by simp at h
  | x :: r, 0, c, h => by simp at h; subst h; simp [chcl]
  | x :: r, k + 1, c, h => by
    have := chcl_at (l := r) (k := k) (by simpa using h)
    simpa [chcl, Nat.add_mul, Nat.add_assoc] using this
theorem rdCg {L : List Chunk} {b : Nat} {l : List Cg} {rest : List Value} {k : Nat} {c : Cg} {T : TypeId} (hf : Fnd L b (cl (chcl l ++ rest) T)) (hk : l[k]? = some c) : RdAt L ⟨b, k * 3, none⟩ [.string c.name, .string c.src, .int .i64 c.f] := by
  obtain ⟨a0, a1, a2⟩ := chcl_at hk
  refine .inr ⟨b, k * 3, _, T, (0, 0), rfl, hf, fun j u hj => ?_⟩
  match j, hj with
  | 0, hj => simp at hj; subst hj; simpa using getE_app a0
  | 1, hj => simp at hj; subst hj; simpa using getE_app a1
  | 2, hj => simp at hj; subst hj; simpa using getE_app a2
  | j + 3, hj => simp at hj
theorem rdRf {L : List Chunk} {b : Nat} {l : List Fi} {rest : List Value} {k : Nat} {f : Fi} {T : TypeId} (hf : Fnd L b (cl (rfcl l ++ rest) T)) (hk : l[k]? = some f) : RdAt L ⟨b, k * 2, none⟩ [.string ⟨f.data.toArray⟩, .int .i64 (f.synced : Int)] := by
  obtain ⟨a0, a1⟩ := rfcl_at hk
  refine .inr ⟨b, k * 2, _, T, (0, 0), rfl, hf, fun j u hj => ?_⟩
  match j, hj with
  | 0, hj => simp at hj; subst hj; simpa using getE_app a0
  | 1, hj => simp at hj; subst hj; simpa using getE_app a1
  | j + 2, hj => simp at hj
theorem ba_take (l : List UInt8) (n : Nat) : (⟨l.toArray⟩ : ByteArray).extract 0 n = ⟨(l.take n).toArray⟩ := by
  apply ByteArray.ext
  simp [ByteArray.data_extract]
theorem rfcl_patch {fs : List Fi} {i : Nat} {f f' : Fi} {rest : List Value} (h : fs[i]? = some f) : patch (rfcl fs ++ rest) (i * 2) [.string ⟨f'.data.toArray⟩, .int .i64 (f'.synced : Int)] = rfcl (fs.set i f') ++ rest := by
  obtain ⟨hk, e1⟩ := get_split h
  have e2 : rfcl fs = rfcl (fs.take i) ++ ([.string ⟨f.data.toArray⟩, .int .i64 (f.synced : Int)] ++ rfcl (fs.drop (i + 1))) := by
    conv => lhs; rw [e1]
    rw [rfcl_app]; rfl
  have e3 : rfcl (fs.set i f') = rfcl (fs.take i) ++ ([.string ⟨f'.data.toArray⟩, .int .i64 (f'.synced : Int)] ++ rfcl (fs.drop (i + 1))) := by
    rw [List.set_eq_take_append_cons_drop, if_pos hk, rfcl_app]; rfl
  have hl : (rfcl (fs.take i)).length = i * 2 := by rw [rfcl_len, List.length_take]; congr 1; omega
  have h9 := Go.Vx.patch_mid (Z := [.string ⟨f.data.toArray⟩, .int .i64 (f.synced : Int)]) (R := rfcl (fs.drop (i + 1)) ++ rest) (zz := [.string ⟨f'.data.toArray⟩, .int .i64 (f'.synced : Int)]) hl rfl
  rw [e2, e3]
  simpa using h9

omit [W0] in
def rfold (R : Rf) (i : Nat) : List En := (R.wait.take i).foldl rapply R.lasts
omit [W0] in
def rcrash (R : Rf) (names : Int) (data : List Int) : Rf :=
  ⟨R.quota, cutAll data 0 (rfold R (min (max names 0) (R.wait.length : Int)).toNat) R.files, rfold R (min (max names 0) (R.wait.length : Int)).toNat, rfold R (min (max names 0) (R.wait.length : Int)).toNat, [], -1, false⟩
theorem rfold_succ {R : Rf} {i : Nat} {c : Cg} (h : R.wait[i]? = some c) : rfold R (i + 1) = rapply (rfold R i) c := by
  unfold rfold
  rw [List.take_succ, h]
  simp
theorem asc_rfold {R : Rf} (ha : Asc R.lasts) : ∀ i, Asc (rfold R i)
  | 0 => by simpa [rfold] using ha
  | i + 1 => by
    cases h : R.wait[i]? with
    | none =>
      have : rfold R (i + 1) = rfold R i := by unfold rfold; rw [List.take_succ, h]; simp
      rw [this]; exact asc_rfold ha i
    | some c => rw [rfold_succ h]; exact asc_rapply c (asc_rfold ha i)
theorem ints_at {L : List Chunk} {v : Value} {xs : List Int} (h : Sl L 1 v xs.length (intsV xs)) {i : Nat} {x : Int} (hx : xs[i]? = some x) :
    ∃ b off cap c T fr, v = .slice (some ⟨b, off, none⟩) xs.length cap ∧ Fnd L b (.cells c T fr) ∧ c[off + i * 1]? = some (.int .i64 x) := by
  rcases sl_open h with ⟨h0, _⟩ | ⟨b, off, cap, c, T, fr, h1, h2, h3⟩
  · have : xs = [] := List.eq_nil_of_length_eq_zero h0
    subst this; simp at hx
  · exact ⟨b, off, cap, c, T, fr, h1, h2, by rw [Nat.mul_one]; exact h3 i _ (by simp [intsV, hx])⟩
theorem fnd_two {Ck D X Y Z : Chunk} {L : List Chunk} {b : Nat} {o : Obj} (h : Fnd [Ck ++ D] b o) : Fnd (Ck :: X :: Y :: Z :: D :: L) b o := by
  unfold Fnd at *
  simp only [List.flatten_cons, List.flatten_nil, List.append_nil, List.mem_append] at h ⊢
  rcases h with h | h
  · exact .inl h
  · exact .inr (.inr (.inr (.inr (.inl h))))
theorem ns_two {Ck D : Chunk} {v : Value} {es : List En} {X Y Z : Chunk} {L : List Chunk} (h : NS [Ck ++ D] v es) : NS (Ck :: X :: Y :: Z :: D :: L) v es :=
  ns_sub (fun x hx => by
    simp only [List.flatten_cons, List.flatten_nil, List.append_nil, List.mem_append] at hx ⊢
    rcases hx with hx | hx
    · exact .inl hx
    · exact .inr (.inr (.inr (.inr (.inl hx))))) h

set_option maxHeartbeats 4000000 in
theorem rcrash_1 (R : Rf) (p : Nat) (names : Int) (data : List Int) (v : Value) (C : Chunk) (L : List Chunk) (hA : RfAt R p C) (hG : RG R) (hv : Sl L 1 v data.length (intsV data))
    (hfo : ∀ i, i ≤ R.wait.length → (rfold R i).length ≤ 98000 ∧ ∀ e ∈ rfold R i, e.file < R.files.length) :
    Gv Try.prog 70 [.pointer (some ⟨p, 0, none⟩), .int .i64 names, v].toArray (C :: L) (fun r L' => ∃ C', r = .tuple #[] ∧ L' = C' :: L ∧ RfAt (rcrash R names data) p C') := by
  obtain ⟨fv, nv, lv, wv, Cf, Cw, D, rfl, hf, hwt, hn, hla⟩ := hA
  refine Gv.holds (L' := rhd R p fv nv lv wv :: Cf :: Cw :: D :: L) ?_ (fun w h => four.1 h)
  obtain ⟨da, dc, rfl⟩ := sl_slice hv
  obtain ⟨wa, wc, rfl⟩ := ow_slc hwt
  have hlw := hG.lw
  have hlf := hG.lf
  refine Gv.of_body Try.func70 rfl rfl ?_
  simp only [rhd, rhdO]
  (repeat' (first | (show WL _ _ _ _ _ _ _; first | (refine WL_plain rfl ?_) | (refine WL_nil ?_) | (refine WL_on rfl rfl ?_) | (refine WL_off rfl rfl rfl rfl ?_) | (refine WL_offu rfl rfl rfl rfl ?_) | (refine WL_off' rfl rfl rfl ?_) | ((refine WL_split rfl rfl (fun hc => ?_) (fun hc => ?_)) <;> (rw [hc]; (try simp only [nrB] at hc); (try (exfalso; first | omega | exact hc trivial | exact hc rfl))))) | (show OW _ _ _ _ _ _; refine OW_E ?_) | (show OW _ _ ⟨_, .store .., _, _, _, _⟩ _ _ _; first | (refine OW_store rfl rfl rfl (by repeat (first | exact Upd.here | apply Upd.there)) (by first | (simp; done) | (simp; omega)) ?_) | (refine OW_storeAgg rfl rfl rfl rfl (by repeat (first | exact Upd.here | apply Upd.there)) (by first | (simp [Value.cells]; done) | (simp [Value.cells]; omega)) ?_)) | (show OW _ _ ⟨_, .alloc _, _, _, _, _⟩ _ _ _; first | (refine OW_alloc rfl (fun bk => ?_))) | (show OW _ _ ⟨_, .box .., _, _, _, _⟩ _ _ _; first | (refine OW_box rfl rfl (fun bk => ?_))) | (show WC _ _ _ _ _ _; first | (refine WC_seq ?_) | (refine WC_region ?_) | (refine WC_true rfl ?_) | (refine WC_false rfl ?_) | ((refine WC_cond rfl (fun hc => ?_) (fun hc => ?_)) <;> (try simp only [nrB] at hc) <;> (try (exfalso; first | omega | exact hc trivial | exact hc rfl))) | (refine WC_skip ?_) | (refine WC_ret ?_) | (refine WC_exit ?_) | (refine WC_block ?_)) | (show WQ _ _ _ _; first | (with_reducible refine WQ_then_normal ?_) | (with_reducible refine WQ_code ?_) | (with_reducible refine WQ_then_ret ?_) | (with_reducible refine WQ_block_ret ?_) | (with_reducible refine WQ_then_exit ?_) | (with_reducible refine WQ_block_hit ?_) | (with_reducible refine WQ_block_miss rfl ?_) | (with_reducible refine WQ_block_normal ?_))))
  refine WC_loop (X := Nat × Value × Chunk) (fun x => [(0, .pointer (some ⟨p, 0, none⟩)), (1, .int .i64 names), (2, .slice da data.length dc), (6, x.2.1), (7, .int .i64 (x.1 : Int))]) (fun x => x.2.2 :: [(p, cl [.int .i64 (R.quota : Int), fv, nv, lv, .slice wa R.wait.length wc, .int .i64 R.fuse, .bool R.dead] 116)] :: Cf :: Cw :: D :: L)
    (fun x => x.1 ≤ R.wait.length ∧ (x.1 : Int) ≤ max names 0 ∧ NS [x.2.2 ++ D] x.2.1 (rfold R x.1)) (fun x => R.wait.length - x.1) (0, lv, []) ⟨Nat.zero_le _, by simp only; omega, by simpa [rfold] using hla⟩ (by repeat (first | exact Sub.nil | refine Sub.cons rfl ?_ | refine Sub.cons (lk_int rfl (by first | omega | (dsimp only; omega))) ?_)) (fun w h => Holds.nil.2 h) ?_
  rintro ⟨i, lw, Ck⟩ ⟨hi1, hi2, hns⟩
  simp only at hi1 hi2 hns ⊢
  (repeat' (first | (show WL _ _ _ _ _ _ _; first | (refine WL_plain rfl ?_) | (refine WL_nil ?_) | (refine WL_on rfl rfl ?_) | (refine WL_off rfl rfl rfl rfl ?_) | (refine WL_offu rfl rfl rfl rfl ?_) | (refine WL_off' rfl rfl rfl ?_) | ((refine WL_split rfl rfl (fun hc => ?_) (fun hc => ?_)) <;> (rw [hc]; (try simp only [nrB] at hc); (try (exfalso; first | omega | exact hc trivial | exact hc rfl))))) | (show OW _ _ _ _ _ _; refine OW_E ?_) | (show OW _ _ ⟨_, .store .., _, _, _, _⟩ _ _ _; first | (refine OW_store rfl rfl rfl (by repeat (first | exact Upd.here | apply Upd.there)) (by first | (simp; done) | (simp; omega)) ?_) | (refine OW_storeAgg rfl rfl rfl rfl (by repeat (first | exact Upd.here | apply Upd.there)) (by first | (simp [Value.cells]; done) | (simp [Value.cells]; omega)) ?_)) | (show OW _ _ ⟨_, .alloc _, _, _, _, _⟩ _ _ _; first | (refine OW_alloc rfl (fun bk => ?_))) | (show OW _ _ ⟨_, .box .., _, _, _, _⟩ _ _ _; first | (refine OW_box rfl rfl (fun bk => ?_))) | (show WC _ _ _ _ _ _; first | (refine WC_seq ?_) | (refine WC_region ?_) | (refine WC_true rfl ?_) | (refine WC_false rfl ?_) | ((refine WC_cond rfl (fun hc => ?_) (fun hc => ?_)) <;> (try simp only [nrB] at hc) <;> (try (exfalso; first | omega | exact hc trivial | exact hc rfl))) | (refine WC_skip ?_) | (refine WC_ret ?_) | (refine WC_exit ?_) | (refine WC_block ?_)) | (show WQ _ _ _ _; first | (with_reducible refine WQ_then_normal ?_) | (with_reducible refine WQ_code ?_) | (with_reducible refine WQ_then_ret ?_) | (with_reducible refine WQ_block_ret ?_) | (with_reducible refine WQ_then_exit ?_) | (with_reducible refine WQ_block_hit ?_) | (with_reducible refine WQ_block_miss rfl ?_) | (with_reducible refine WQ_block_normal ?_))))
  · have hlt : i < R.wait.length := by omega
    obtain ⟨c, hc⟩ : ∃ c, R.wait[i]? = some c := ⟨R.wait[i], by simp [hlt]⟩
    rcases id hwt with ⟨_, h0, _⟩ | ⟨wb, wcap, wrest, hwq, hCw, hwxl, hwrl, hwmc, hwcm⟩
    · omega
    injection hwq with e1 e2 e3
    subst e1 e3 hCw
    refine OW_EV (EV_indexAddr0 (j := i) rfl rfl rfl hlt) rfl ?_
    (repeat' (first | (show WL _ _ _ _ _ _ _; first | (refine WL_plain rfl ?_) | (refine WL_nil ?_) | (refine WL_on rfl rfl ?_) | (refine WL_off rfl rfl rfl rfl ?_) | (refine WL_offu rfl rfl rfl rfl ?_) | (refine WL_off' rfl rfl rfl ?_) | ((refine WL_split rfl rfl (fun hc => ?_) (fun hc => ?_)) <;> (rw [hc]; (try simp only [nrB] at hc); (try (exfalso; first | omega | exact hc trivial | exact hc rfl))))) | (show OW _ _ _ _ _ _; refine OW_E ?_) | (show OW _ _ ⟨_, .store .., _, _, _, _⟩ _ _ _; first | (refine OW_store rfl rfl rfl (by repeat (first | exact Upd.here | apply Upd.there)) (by first | (simp; done) | (simp; omega)) ?_) | (refine OW_storeAgg rfl rfl rfl rfl (by repeat (first | exact Upd.here | apply Upd.there)) (by first | (simp [Value.cells]; done) | (simp [Value.cells]; omega)) ?_)) | (show OW _ _ ⟨_, .alloc _, _, _, _, _⟩ _ _ _; first | (refine OW_alloc rfl (fun bk => ?_))) | (show OW _ _ ⟨_, .box .., _, _, _, _⟩ _ _ _; first | (refine OW_box rfl rfl (fun bk => ?_))) | (show WC _ _ _ _ _ _; first | (refine WC_seq ?_) | (refine WC_region ?_) | (refine WC_true rfl ?_) | (refine WC_false rfl ?_) | ((refine WC_cond rfl (fun hc => ?_) (fun hc => ?_)) <;> (try simp only [nrB] at hc) <;> (try (exfalso; first | omega | exact hc trivial | exact hc rfl))) | (refine WC_skip ?_) | (refine WC_ret ?_) | (refine WC_exit ?_) | (refine WC_block ?_)) | (show WQ _ _ _ _; first | (with_reducible refine WQ_then_normal ?_) | (with_reducible refine WQ_code ?_) | (with_reducible refine WQ_then_ret ?_) | (with_reducible refine WQ_block_ret ?_) | (with_reducible refine WQ_then_exit ?_) | (with_reducible refine WQ_block_hit ?_) | (with_reducible refine WQ_block_miss rfl ?_) | (with_reducible refine WQ_block_normal ?_))))
    refine OW_EV (EV_loadAgg rfl (rdCg (Fnd.there (Fnd.there (Fnd.there Fnd.here))) hc) rfl) rfl ?_
    (repeat' (first | (show WL _ _ _ _ _ _ _; first | (refine WL_plain rfl ?_) | (refine WL_nil ?_) | (refine WL_on rfl rfl ?_) | (refine WL_off rfl rfl rfl rfl ?_) | (refine WL_offu rfl rfl rfl rfl ?_) | (refine WL_off' rfl rfl rfl ?_) | ((refine WL_split rfl rfl (fun hc => ?_) (fun hc => ?_)) <;> (rw [hc]; (try simp only [nrB] at hc); (try (exfalso; first | omega | exact hc trivial | exact hc rfl))))) | (show OW _ _ _ _ _ _; refine OW_E ?_) | (show OW _ _ ⟨_, .store .., _, _, _, _⟩ _ _ _; first | (refine OW_store rfl rfl rfl (by repeat (first | exact Upd.here | apply Upd.there)) (by first | (simp; done) | (simp; omega)) ?_) | (refine OW_storeAgg rfl rfl rfl rfl (by repeat (first | exact Upd.here | apply Upd.there)) (by first | (simp [Value.cells]; done) | (simp [Value.cells]; omega)) ?_)) | (show OW _ _ ⟨_, .alloc _, _, _, _, _⟩ _ _ _; first | (refine OW_alloc rfl (fun bk => ?_))) | (show OW _ _ ⟨_, .box .., _, _, _, _⟩ _ _ _; first | (refine OW_box rfl rfl (fun bk => ?_))) | (show WC _ _ _ _ _ _; first | (refine WC_seq ?_) | (refine WC_region ?_) | (refine WC_true rfl ?_) | (refine WC_false rfl ?_) | ((refine WC_cond rfl (fun hc => ?_) (fun hc => ?_)) <;> (try simp only [nrB] at hc) <;> (try (exfalso; first | omega | exact hc trivial | exact hc rfl))) | (refine WC_skip ?_) | (refine WC_ret ?_) | (refine WC_exit ?_) | (refine WC_block ?_)) | (show WQ _ _ _ _; first | (with_reducible refine WQ_then_normal ?_) | (with_reducible refine WQ_code ?_) | (with_reducible refine WQ_then_ret ?_) | (with_reducible refine WQ_block_ret ?_) | (with_reducible refine WQ_then_exit ?_) | (with_reducible refine WQ_block_hit ?_) | (with_reducible refine WQ_block_miss rfl ?_) | (with_reducible refine WQ_block_normal ?_))))
    refine OW_call rfl rfl rfl (rapply_1 _ (rfold R i) c _ (ns_two hns) (asc_rfold hG.al i) (by have := (hfo i hi1).1; omega)) rfl (fun r L' hp => ?_)
    obtain ⟨C2, rfl, ho2⟩ := hp
    (repeat' (first | (show WL _ _ _ _ _ _ _; first | (refine WL_plain rfl ?_) | (refine WL_nil ?_) | (refine WL_on rfl rfl ?_) | (refine WL_off rfl rfl rfl rfl ?_) | (refine WL_offu rfl rfl rfl rfl ?_) | (refine WL_off' rfl rfl rfl ?_) | ((refine WL_split rfl rfl (fun hc => ?_) (fun hc => ?_)) <;> (rw [hc]; (try simp only [nrB] at hc); (try (exfalso; first | omega | exact hc trivial | exact hc rfl))))) | (show OW _ _ _ _ _ _; refine OW_E ?_) | (show OW _ _ ⟨_, .store .., _, _, _, _⟩ _ _ _; first | (refine OW_store rfl rfl rfl (by repeat (first | exact Upd.here | apply Upd.there)) (by first | (simp; done) | (simp; omega)) ?_) | (refine OW_storeAgg rfl rfl rfl rfl (by repeat (first | exact Upd.here | apply Upd.there)) (by first | (simp [Value.cells]; done) | (simp [Value.cells]; omega)) ?_)) | (show OW _ _ ⟨_, .alloc _, _, _, _, _⟩ _ _ _; first | (refine OW_alloc rfl (fun bk => ?_))) | (show OW _ _ ⟨_, .box .., _, _, _, _⟩ _ _ _; first | (refine OW_box rfl rfl (fun bk => ?_))) | (show WC _ _ _ _ _ _; first | (refine WC_seq ?_) | (refine WC_region ?_) | (refine WC_true rfl ?_) | (refine WC_false rfl ?_) | ((refine WC_cond rfl (fun hc => ?_) (fun hc => ?_)) <;> (try simp only [nrB] at hc) <;> (try (exfalso; first | omega | exact hc trivial | exact hc rfl))) | (refine WC_skip ?_) | (refine WC_ret ?_) | (refine WC_exit ?_) | (refine WC_block ?_)) | (show WQ _ _ _ _; first | (with_reducible refine WQ_then_normal ?_) | (with_reducible refine WQ_code ?_) | (with_reducible refine WQ_then_ret ?_) | (with_reducible refine WQ_block_ret ?_) | (with_reducible refine WQ_then_exit ?_) | (with_reducible refine WQ_block_hit ?_) | (with_reducible refine WQ_block_miss rfl ?_) | (with_reducible refine WQ_block_normal ?_))))
    refine WQ_round (X := Nat × Value × Chunk) (μ := fun x => R.wait.length - x.1) (x := (i, lw, Ck)) (i + 1, r, C2) (by simp only; omega) ⟨by simp only; omega, by simp only; omega, ?_⟩ (by repeat (first | exact Sub.nil | refine Sub.cons rfl ?_ | refine Sub.cons (lk_int rfl (by first | omega | (dsimp only; omega))) ?_)) (fun w h => ((by repeat (first | exact Inc.refl | exact Inc.nil | refine Inc.cons (by repeat (first | exact Take.here | apply Take.there)) ?_ | refine Inc.skip ?_)) : Inc _ _).holds h)
    simp only
    rw [rfold_succ hc]
    exact ns_part (fun x hx => by simp [hx]) (ns_of (L := []) ho2)
  all_goals (
    have hki : i = (min (max names 0) (R.wait.length : Int)).toNat := by omega
    obtain ⟨hl1, hl2⟩ := hfo i hi1
    have hcr : rcrash R names data = ⟨R.quota, cutAll data 0 (rfold R i) R.files, rfold R i, rfold R i, [], -1, false⟩ := by unfold rcrash; rw [← hki]
    generalize rfold R i = l at *
    obtain ⟨la, lc, rfl⟩ := ns_slc hns
    rcases id hf with ⟨rfl, hz, _, rfl⟩ | ⟨fb, fcap, frest, rfl, rfl, hfxl, hfrl, hfmc, hfcm⟩
    · have hl0 : l = [] := by
        cases l with
        | nil => rfl
        | cons e r => have := hl2 e (by simp); omega
      subst hl0
      (repeat' (first | (show WL _ _ _ _ _ _ _; first | (refine WL_plain rfl ?_) | (refine WL_nil ?_) | (refine WL_on rfl rfl ?_) | (refine WL_off rfl rfl rfl rfl ?_) | (refine WL_offu rfl rfl rfl rfl ?_) | (refine WL_off' rfl rfl rfl ?_) | ((refine WL_split rfl rfl (fun hc => ?_) (fun hc => ?_)) <;> (rw [hc]; (try simp only [nrB] at hc); (try (exfalso; first | omega | exact hc trivial | exact hc rfl))))) | (show OW _ _ _ _ _ _; refine OW_E ?_) | (show OW _ _ ⟨_, .store .., _, _, _, _⟩ _ _ _; first | (refine OW_store rfl rfl rfl (by repeat (first | exact Upd.here | apply Upd.there)) (by first | (simp; done) | (simp; omega)) ?_) | (refine OW_storeAgg rfl rfl rfl rfl (by repeat (first | exact Upd.here | apply Upd.there)) (by first | (simp [Value.cells]; done) | (simp [Value.cells]; omega)) ?_)) | (show OW _ _ ⟨_, .alloc _, _, _, _, _⟩ _ _ _; first | (refine OW_alloc rfl (fun bk => ?_))) | (show OW _ _ ⟨_, .box .., _, _, _, _⟩ _ _ _; first | (refine OW_box rfl rfl (fun bk => ?_))) | (show WC _ _ _ _ _ _; first | (refine WC_seq ?_) | (refine WC_region ?_) | (refine WC_true rfl ?_) | (refine WC_false rfl ?_) | ((refine WC_cond rfl (fun hc => ?_) (fun hc => ?_)) <;> (try simp only [nrB] at hc) <;> (try (exfalso; first | omega | exact hc trivial | exact hc rfl))) | (refine WC_skip ?_) | (refine WC_ret ?_) | (refine WC_exit ?_) | (refine WC_block ?_)) | (show WQ _ _ _ _; first | (with_reducible refine WQ_then_normal ?_) | (with_reducible refine WQ_code ?_) | (with_reducible refine WQ_then_ret ?_) | (with_reducible refine WQ_block_ret ?_) | (with_reducible refine WQ_then_exit ?_) | (with_reducible refine WQ_block_hit ?_) | (with_reducible refine WQ_block_miss rfl ?_) | (with_reducible refine WQ_block_normal ?_))))
      refine WC_loop (X := Unit) (fun _ => [(0, .pointer (some ⟨p, 0, none⟩)), (6, .slice la ([] : List En).length lc), (8, .int .i64 0)]) (fun _ => Ck :: [(p, cl [.int .i64 (R.quota : Int), .slice none 0 0, .slice la ([] : List En).length lc, .slice la ([] : List En).length lc, .slice none 0 0, .int .i64 (-1), .bool false] 116)] :: ([] : Chunk) :: Cw :: D :: L) (fun _ => True) (fun _ => 0) () trivial (by repeat (first | exact Sub.nil | refine Sub.cons rfl ?_ | refine Sub.cons (lk_int rfl (by first | omega | (dsimp only; omega))) ?_)) (fun w h => ((by repeat (first | exact Inc.refl | exact Inc.nil | refine Inc.cons (by repeat (first | exact Take.here | apply Take.there)) ?_ | refine Inc.skip ?_)) : Inc _ _).holds h) ?_
      intro _ _
      (repeat' (first | (show WL _ _ _ _ _ _ _; first | (refine WL_plain rfl ?_) | (refine WL_nil ?_) | (refine WL_on rfl rfl ?_) | (refine WL_off rfl rfl rfl rfl ?_) | (refine WL_offu rfl rfl rfl rfl ?_) | (refine WL_off' rfl rfl rfl ?_) | ((refine WL_split rfl rfl (fun hc => ?_) (fun hc => ?_)) <;> (rw [hc]; (try simp only [nrB] at hc); (try (exfalso; first | omega | exact hc trivial | exact hc rfl))))) | (show OW _ _ _ _ _ _; refine OW_E ?_) | (show OW _ _ ⟨_, .store .., _, _, _, _⟩ _ _ _; first | (refine OW_store rfl rfl rfl (by repeat (first | exact Upd.here | apply Upd.there)) (by first | (simp; done) | (simp; omega)) ?_) | (refine OW_storeAgg rfl rfl rfl rfl (by repeat (first | exact Upd.here | apply Upd.there)) (by first | (simp [Value.cells]; done) | (simp [Value.cells]; omega)) ?_)) | (show OW _ _ ⟨_, .alloc _, _, _, _, _⟩ _ _ _; first | (refine OW_alloc rfl (fun bk => ?_))) | (show OW _ _ ⟨_, .box .., _, _, _, _⟩ _ _ _; first | (refine OW_box rfl rfl (fun bk => ?_))) | (show WC _ _ _ _ _ _; first | (refine WC_seq ?_) | (refine WC_region ?_) | (refine WC_true rfl ?_) | (refine WC_false rfl ?_) | ((refine WC_cond rfl (fun hc => ?_) (fun hc => ?_)) <;> (try simp only [nrB] at hc) <;> (try (exfalso; first | omega | exact hc trivial | exact hc rfl))) | (refine WC_skip ?_) | (refine WC_ret ?_) | (refine WC_exit ?_) | (refine WC_block ?_)) | (show WQ _ _ _ _; first | (with_reducible refine WQ_then_normal ?_) | (with_reducible refine WQ_code ?_) | (with_reducible refine WQ_then_ret ?_) | (with_reducible refine WQ_block_ret ?_) | (with_reducible refine WQ_then_exit ?_) | (with_reducible refine WQ_block_hit ?_) | (with_reducible refine WQ_block_miss rfl ?_) | (with_reducible refine WQ_block_normal ?_))))
      first | refine WQ_retH rfl rfl ?_ | refine WQ_endH rfl rfl ?_
      rw [hcr]
      refine ⟨_, fun w h => (four (A := [(p, cl [.int .i64 (R.quota : Int), .slice none 0 0, .slice la ([] : List En).length lc, .slice la ([] : List En).length lc, .slice none 0 0, .int .i64 (-1), .bool false] 116)]) (B := []) (C := []) (D := Ck ++ D)).2 ?_, _, rfl, rfl, .slice none 0 0, .slice la ([] : List En).length lc, .slice la ([] : List En).length lc, .slice none 0 0, [], [], Ck ++ D, rfl, .inl ⟨rfl, by simpa [cutAll] using hz, by rw [List.eq_nil_of_length_eq_zero hz]; rfl, rfl⟩, .inl ⟨rfl, rfl, rfl, rfl⟩, hns, hns⟩
      have h1 := ((by repeat (first | exact Inc.refl | exact Inc.nil | refine Inc.cons (by repeat (first | exact Take.here | apply Take.there)) ?_ | refine Inc.skip ?_)) : Inc (Ck :: D :: [(p, cl [.int .i64 (R.quota : Int), .slice none 0 0, .slice la ([] : List En).length lc, .slice la ([] : List En).length lc, .slice none 0 0, .int .i64 (-1), .bool false] 116)] :: [] :: L) _).holds h
      have h2 := Holds.perm (Holds.nil.2 (two.2 h1)) (show List.Perm ([] :: (Ck ++ D) :: [(p, cl [.int .i64 (R.quota : Int), .slice none 0 0, .slice la ([] : List En).length lc, .slice la ([] : List En).length lc, .slice none 0 0, .int .i64 (-1), .bool false] 116)] :: [] :: L) ([(p, cl [.int .i64 (R.quota : Int), .slice none 0 0, .slice la ([] : List En).length lc, .slice la ([] : List En).length lc, .slice none 0 0, .int .i64 (-1), .bool false] 116)] :: [] :: [] :: (Ck ++ D) :: L) from by
        refine List.Perm.trans (List.Perm.cons _ (.swap _ _ _)) ?_
        refine List.Perm.trans (.swap _ _ _) (.cons _ ?_)
        refine List.Perm.trans (List.Perm.cons _ (.swap _ _ _)) ?_
        exact .swap _ _ _)
      exact h2
    · (repeat' (first | (show WL _ _ _ _ _ _ _; first | (refine WL_plain rfl ?_) | (refine WL_nil ?_) | (refine WL_on rfl rfl ?_) | (refine WL_off rfl rfl rfl rfl ?_) | (refine WL_offu rfl rfl rfl rfl ?_) | (refine WL_off' rfl rfl rfl ?_) | ((refine WL_split rfl rfl (fun hc => ?_) (fun hc => ?_)) <;> (rw [hc]; (try simp only [nrB] at hc); (try (exfalso; first | omega | exact hc trivial | exact hc rfl))))) | (show OW _ _ _ _ _ _; refine OW_E ?_) | (show OW _ _ ⟨_, .store .., _, _, _, _⟩ _ _ _; first | (refine OW_store rfl rfl rfl (by repeat (first | exact Upd.here | apply Upd.there)) (by first | (simp; done) | (simp; omega)) ?_) | (refine OW_storeAgg rfl rfl rfl rfl (by repeat (first | exact Upd.here | apply Upd.there)) (by first | (simp [Value.cells]; done) | (simp [Value.cells]; omega)) ?_)) | (show OW _ _ ⟨_, .alloc _, _, _, _, _⟩ _ _ _; first | (refine OW_alloc rfl (fun bk => ?_))) | (show OW _ _ ⟨_, .box .., _, _, _, _⟩ _ _ _; first | (refine OW_box rfl rfl (fun bk => ?_))) | (show WC _ _ _ _ _ _; first | (refine WC_seq ?_) | (refine WC_region ?_) | (refine WC_true rfl ?_) | (refine WC_false rfl ?_) | ((refine WC_cond rfl (fun hc => ?_) (fun hc => ?_)) <;> (try simp only [nrB] at hc) <;> (try (exfalso; first | omega | exact hc trivial | exact hc rfl))) | (refine WC_skip ?_) | (refine WC_ret ?_) | (refine WC_exit ?_) | (refine WC_block ?_)) | (show WQ _ _ _ _; first | (with_reducible refine WQ_then_normal ?_) | (with_reducible refine WQ_code ?_) | (with_reducible refine WQ_then_ret ?_) | (with_reducible refine WQ_block_ret ?_) | (with_reducible refine WQ_then_exit ?_) | (with_reducible refine WQ_block_hit ?_) | (with_reducible refine WQ_block_miss rfl ?_) | (with_reducible refine WQ_block_normal ?_))))
      refine WC_loop (X := Nat × List Fi) (fun x => [(0, .pointer (some ⟨p, 0, none⟩)), (2, .slice da data.length dc), (6, .slice la l.length lc), (8, .int .i64 (x.1 : Int))]) (fun x => Ck :: [(p, cl [.int .i64 (R.quota : Int), .slice (some ⟨fb, 0, none⟩) R.files.length fcap, .slice la l.length lc, .slice la l.length lc, .slice none 0 0, .int .i64 (-1), .bool false] 116)] :: [(fb, cl (rfcl x.2 ++ frest) 139)] :: Cw :: D :: L)
        (fun x => x.1 ≤ l.length ∧ cutAll data 0 l R.files = cutAll data x.1 (l.drop x.1) x.2 ∧ x.2.length = R.files.length ∧ ∀ f ∈ x.2, f.data.length ≤ 16777216 ∧ f.synced ≤ f.data.length) (fun x => l.length - x.1) (0, R.files) ⟨Nat.zero_le _, rfl, rfl, hG.dl⟩ (by repeat (first | exact Sub.nil | refine Sub.cons rfl ?_ | refine Sub.cons (lk_int rfl (by first | omega | (dsimp only; omega))) ?_)) (fun w h => ((by repeat (first | exact Inc.refl | exact Inc.nil | refine Inc.cons (by repeat (first | exact Take.here | apply Take.there)) ?_ | refine Inc.skip ?_)) : Inc _ _).holds h) ?_
      rintro ⟨j, F⟩ ⟨hj1, hj2, hj3, hj4⟩
      simp only at hj1 hj2 hj3 hj4 ⊢
      have hFl : (rfcl F).length = R.files.length * 2 := by rw [rfcl_len, hj3]
      (repeat' (first | (show WL _ _ _ _ _ _ _; first | (refine WL_plain rfl ?_) | (refine WL_nil ?_) | (refine WL_on rfl rfl ?_) | (refine WL_off rfl rfl rfl rfl ?_) | (refine WL_offu rfl rfl rfl rfl ?_) | (refine WL_off' rfl rfl rfl ?_) | ((refine WL_split rfl rfl (fun hc => ?_) (fun hc => ?_)) <;> (rw [hc]; (try simp only [nrB] at hc); (try (exfalso; first | omega | exact hc trivial | exact hc rfl))))) | (show OW _ _ _ _ _ _; refine OW_E ?_) | (show OW _ _ ⟨_, .store .., _, _, _, _⟩ _ _ _; first | (refine OW_store rfl rfl rfl (by repeat (first | exact Upd.here | apply Upd.there)) (by first | (simp; done) | (simp; omega)) ?_) | (refine OW_storeAgg rfl rfl rfl rfl (by repeat (first | exact Upd.here | apply Upd.there)) (by first | (simp [Value.cells]; done) | (simp [Value.cells]; omega)) ?_)) | (show OW _ _ ⟨_, .alloc _, _, _, _, _⟩ _ _ _; first | (refine OW_alloc rfl (fun bk => ?_))) | (show OW _ _ ⟨_, .box .., _, _, _, _⟩ _ _ _; first | (refine OW_box rfl rfl (fun bk => ?_))) | (show WC _ _ _ _ _ _; first | (refine WC_seq ?_) | (refine WC_region ?_) | (refine WC_true rfl ?_) | (refine WC_false rfl ?_) | ((refine WC_cond rfl (fun hc => ?_) (fun hc => ?_)) <;> (try simp only [nrB] at hc) <;> (try (exfalso; first | omega | exact hc trivial | exact hc rfl))) | (refine WC_skip ?_) | (refine WC_ret ?_) | (refine WC_exit ?_) | (refine WC_block ?_)) | (show WQ _ _ _ _; first | (with_reducible refine WQ_then_normal ?_) | (with_reducible refine WQ_code ?_) | (with_reducible refine WQ_then_ret ?_) | (with_reducible refine WQ_block_ret ?_) | (with_reducible refine WQ_then_exit ?_) | (with_reducible refine WQ_block_hit ?_) | (with_reducible refine WQ_block_miss rfl ?_) | (with_reducible refine WQ_block_normal ?_))))
      · have hlt2 : j < l.length := by omega
        obtain ⟨e, he⟩ := getE hlt2
        have hef : e.file < R.files.length := hl2 e (List.mem_of_getElem? he)
        have hfi : F[e.file]? = some (fiAt F e) := fi_at (by omega)
        obtain ⟨f, hfe⟩ : ∃ f, fiAt F e = f := ⟨_, rfl⟩
        rw [hfe] at hfi
        obtain ⟨hd1, hd2⟩ := hj4 f (List.mem_of_getElem? hfi)
        rcases id hns with ⟨_, h0⟩ | ⟨lb, lcap, lrest, hlq, hlm, hlf2⟩
        · rw [h0] at hlt2; simp at hlt2
        injection hlq with g1 g2 g3
        subst g1 g3
        refine WC_drawAll [] mixed ?_
        (refine WR_t 0 ?_; refine WR_t 1 ?_; refine WR_t 2 ?_; refine WR_t 3 ?_; refine WR_t 4 ?_; refine WR_t 5 ?_)
        (refine WR_take 6 rfl rfl (by kernel_rfl) (by repeat (first | exact PO.body | refine PO.then ?_ | refine PO.block ?_)) (by repeat (first | exact Inc.refl | exact Inc.nil | refine Inc.cons (by repeat (first | exact Take.here | apply Take.there)) ?_ | refine Inc.skip ?_)) (EV_indexAddr0 (j := j) rfl rfl rfl hlt2) (by rfl) ?_)
        (refine WR_t 7 ?_)
        (refine WR_take 8 rfl rfl (by kernel_rfl) (by repeat (first | exact PO.body | refine PO.then ?_ | refine PO.block ?_)) (by repeat (first | exact Inc.refl | exact Inc.nil | refine Inc.cons (by repeat (first | exact Take.here | apply Take.there)) ?_ | refine Inc.skip ?_)) (EV_loadc (v := .int .i64 (e.file : Int)) rfl (fnd_two hlf2) (by rw [nth_eq]; exact getE_app (ents_at he).2)) (by rfl) ?_)
        (refine WR_take 9 rfl rfl (by kernel_rfl) (by repeat (first | exact PO.body | refine PO.then ?_ | refine PO.block ?_)) (by repeat (first | exact Inc.refl | exact Inc.nil | refine Inc.cons (by repeat (first | exact Take.here | apply Take.there)) ?_ | refine Inc.skip ?_)) (EV_indexAddr0 (j := e.file) rfl rfl rfl hef) (by rfl) ?_)
        (refine WR_take 10 rfl rfl (by kernel_rfl) (by repeat (first | exact PO.body | refine PO.then ?_ | refine PO.block ?_)) (by repeat (first | exact Inc.refl | exact Inc.nil | refine Inc.cons (by repeat (first | exact Take.here | apply Take.there)) ?_ | refine Inc.skip ?_)) (EV_loadAgg rfl (rdRf (Fnd.there (Fnd.there Fnd.here)) hfi) rfl) (by rfl) ?_)
        (refine WR_one 11 (by kernel_rfl) rfl rfl ?_)
        refine OW_alloc rfl (fun bk => ?_)
        refine ⟨(by repeat (first | exact Inc.refl | exact Inc.nil | refine Inc.cons (by repeat (first | exact Take.here | apply Take.there)) ?_ | refine Inc.skip ?_)), ?_⟩
        (refine WR_one 12 (by kernel_rfl) rfl rfl ?_)
        refine OW_storeAggTo (l := [.string .empty, .int .i64 0]) (vs := [.string ⟨f.data.toArray⟩, .int .i64 (f.synced : Int)]) [.string ⟨f.data.toArray⟩, .int .i64 (f.synced : Int)] rfl rfl rfl rfl (by simp [patch, Value.cells]) (by repeat (first | exact Upd.here | apply Upd.there)) (by simp [Value.cells]) ?_
        refine ⟨(by repeat (first | exact Inc.refl | exact Inc.nil | refine Inc.cons (by repeat (first | exact Take.here | apply Take.there)) ?_ | refine Inc.skip ?_)), ?_⟩
        (refine WR_done (by kernel_rfl) ?_)
        (repeat' (first | (show WL _ _ _ _ _ _ _; first | (refine WL_plain rfl ?_) | (refine WL_nil ?_) | (refine WL_on rfl rfl ?_) | (refine WL_off rfl rfl rfl rfl ?_) | (refine WL_offu rfl rfl rfl rfl ?_) | (refine WL_off' rfl rfl rfl ?_) | ((refine WL_split rfl rfl (fun hc => ?_) (fun hc => ?_)) <;> (rw [hc]; (try simp only [nrB] at hc); (try (exfalso; first | omega | exact hc trivial | exact hc rfl))))) | (show OW _ _ _ _ _ _; refine OW_E ?_) | (show OW _ _ ⟨_, .store .., _, _, _, _⟩ _ _ _; first | (refine OW_store rfl rfl rfl (by repeat (first | exact Upd.here | apply Upd.there)) (by first | (simp; done) | (simp; omega)) ?_) | (refine OW_storeAgg rfl rfl rfl rfl (by repeat (first | exact Upd.here | apply Upd.there)) (by first | (simp [Value.cells]; done) | (simp [Value.cells]; omega)) ?_)) | (show OW _ _ ⟨_, .alloc _, _, _, _, _⟩ _ _ _; first | (refine OW_alloc rfl (fun bk => ?_))) | (show OW _ _ ⟨_, .box .., _, _, _, _⟩ _ _ _; first | (refine OW_box rfl rfl (fun bk => ?_))) | (show WC _ _ _ _ _ _; first | (refine WC_seq ?_) | (refine WC_region ?_) | (refine WC_true rfl ?_) | (refine WC_false rfl ?_) | ((refine WC_cond rfl (fun hc => ?_) (fun hc => ?_)) <;> (try simp only [nrB] at hc) <;> (try (exfalso; first | omega | exact hc trivial | exact hc rfl))) | (refine WC_skip ?_) | (refine WC_ret ?_) | (refine WC_exit ?_) | (refine WC_block ?_)) | (show WQ _ _ _ _; first | (with_reducible refine WQ_then_normal ?_) | (with_reducible refine WQ_code ?_) | (with_reducible refine WQ_then_ret ?_) | (with_reducible refine WQ_block_ret ?_) | (with_reducible refine WQ_then_exit ?_) | (with_reducible refine WQ_block_hit ?_) | (with_reducible refine WQ_block_miss rfl ?_) | (with_reducible refine WQ_block_normal ?_))))
        · have hltd : j < data.length := by omega
          obtain ⟨y, hyi⟩ : ∃ y, data[j]? = some y := ⟨data[j], by simp [hltd]⟩
          have hgd : data.getD j 0 = y := by rw [List.getD_eq_getElem?_getD, hyi]; rfl
          obtain ⟨yb, yoff, ycap, yc2, yT, yfr, hye, hyf, hycell⟩ := ints_at hv hyi
          injection hye with f1 f2 f3
          subst f1 f3
          refine WC_drawAll [] mixed ?_
          (refine WR_t 0 ?_; refine WR_t 1 ?_)
          (refine WR_take 2 rfl rfl (by kernel_rfl) (by repeat (first | exact PO.body | refine PO.then ?_ | refine PO.block ?_)) (by repeat (first | exact Inc.refl | exact Inc.nil | refine Inc.cons (by repeat (first | exact Take.here | apply Take.there)) ?_ | refine Inc.skip ?_)) (EV_indexAddr (j := j) rfl rfl rfl hltd) (by rfl) ?_)
          (refine WR_take 3 rfl rfl (by kernel_rfl) (by repeat (first | exact PO.body | refine PO.then ?_ | refine PO.block ?_)) (by repeat (first | exact Inc.refl | exact Inc.nil | refine Inc.cons (by repeat (first | exact Take.here | apply Take.there)) ?_ | refine Inc.skip ?_)) (EV_load rfl (by exact hyf.there.there.there.there.there.there) hycell) (by rfl) ?_)
          (refine WR_t 4 ?_; refine WR_t 5 ?_; refine WR_t 6 ?_; refine WR_t 7 ?_)
          rw [ba_size]
          (refine WR_t 8 ?_; refine WR_t 9 ?_; refine WR_t 10 ?_; refine WR_t 11 ?_; refine WR_t 12 ?_)
          (refine WR_done (by kernel_rfl) ?_)
          (repeat' (first | (show WL _ _ _ _ _ _ _; first | (refine WL_plain rfl ?_) | (refine WL_nil ?_) | (refine WL_on rfl rfl ?_) | (refine WL_off rfl rfl rfl rfl ?_) | (refine WL_offu rfl rfl rfl rfl ?_) | (refine WL_off' rfl rfl rfl ?_) | ((refine WL_split rfl rfl (fun hc => ?_) (fun hc => ?_)) <;> (rw [hc]; (try simp only [nrB] at hc); (try (exfalso; first | omega | exact hc trivial | exact hc rfl))))) | (show OW _ _ _ _ _ _; refine OW_E ?_) | (show OW _ _ ⟨_, .store .., _, _, _, _⟩ _ _ _; first | (refine OW_store rfl rfl rfl (by repeat (first | exact Upd.here | apply Upd.there)) (by first | (simp; done) | (simp; omega)) ?_) | (refine OW_storeAgg rfl rfl rfl rfl (by repeat (first | exact Upd.here | apply Upd.there)) (by first | (simp [Value.cells]; done) | (simp [Value.cells]; omega)) ?_)) | (show OW _ _ ⟨_, .alloc _, _, _, _, _⟩ _ _ _; first | (refine OW_alloc rfl (fun bk => ?_))) | (show OW _ _ ⟨_, .box .., _, _, _, _⟩ _ _ _; first | (refine OW_box rfl rfl (fun bk => ?_))) | (show WC _ _ _ _ _ _; first | (refine WC_seq ?_) | (refine WC_region ?_) | (refine WC_true rfl ?_) | (refine WC_false rfl ?_) | ((refine WC_cond rfl (fun hc => ?_) (fun hc => ?_)) <;> (try simp only [nrB] at hc) <;> (try (exfalso; first | omega | exact hc trivial | exact hc rfl))) | (refine WC_skip ?_) | (refine WC_ret ?_) | (refine WC_exit ?_) | (refine WC_block ?_)) | (show WQ _ _ _ _; first | (with_reducible refine WQ_then_normal ?_) | (with_reducible refine WQ_code ?_) | (with_reducible refine WQ_then_ret ?_) | (with_reducible refine WQ_block_ret ?_) | (with_reducible refine WQ_then_exit ?_) | (with_reducible refine WQ_block_hit ?_) | (with_reducible refine WQ_block_miss rfl ?_) | (with_reducible refine WQ_block_normal ?_))))
          refine OW_EV (EV_sliceStr (l := 0) (h := cutN f.data.length f.synced (data.getD j 0)) rfl rfl (bnd_int rfl (by unfold cutN; omega)) (Nat.zero_le _) (by rw [ba_size]; unfold cutN; omega)) rfl ?_
          rw [ba_take]
          (repeat' (first | (show WL _ _ _ _ _ _ _; first | (refine WL_plain rfl ?_) | (refine WL_nil ?_) | (refine WL_on rfl rfl ?_) | (refine WL_off rfl rfl rfl rfl ?_) | (refine WL_offu rfl rfl rfl rfl ?_) | (refine WL_off' rfl rfl rfl ?_) | ((refine WL_split rfl rfl (fun hc => ?_) (fun hc => ?_)) <;> (rw [hc]; (try simp only [nrB] at hc); (try (exfalso; first | omega | exact hc trivial | exact hc rfl))))) | (show OW _ _ _ _ _ _; refine OW_E ?_) | (show OW _ _ ⟨_, .store .., _, _, _, _⟩ _ _ _; first | (refine OW_store rfl rfl rfl (by repeat (first | exact Upd.here | apply Upd.there)) (by first | (simp; done) | (simp; omega)) ?_) | (refine OW_storeAgg rfl rfl rfl rfl (by repeat (first | exact Upd.here | apply Upd.there)) (by first | (simp [Value.cells]; done) | (simp [Value.cells]; omega)) ?_)) | (show OW _ _ ⟨_, .alloc _, _, _, _, _⟩ _ _ _; first | (refine OW_alloc rfl (fun bk => ?_))) | (show OW _ _ ⟨_, .box .., _, _, _, _⟩ _ _ _; first | (refine OW_box rfl rfl (fun bk => ?_))) | (show WC _ _ _ _ _ _; first | (refine WC_seq ?_) | (refine WC_region ?_) | (refine WC_true rfl ?_) | (refine WC_false rfl ?_) | ((refine WC_cond rfl (fun hc => ?_) (fun hc => ?_)) <;> (try simp only [nrB] at hc) <;> (try (exfalso; first | omega | exact hc trivial | exact hc rfl))) | (refine WC_skip ?_) | (refine WC_ret ?_) | (refine WC_exit ?_) | (refine WC_block ?_)) | (show WQ _ _ _ _; first | (with_reducible refine WQ_then_normal ?_) | (with_reducible refine WQ_code ?_) | (with_reducible refine WQ_then_ret ?_) | (with_reducible refine WQ_block_ret ?_) | (with_reducible refine WQ_then_exit ?_) | (with_reducible refine WQ_block_hit ?_) | (with_reducible refine WQ_block_miss rfl ?_) | (with_reducible refine WQ_block_normal ?_))))
          rw [ba_size, List.length_take, Nat.min_eq_left (show cutN f.data.length f.synced (data.getD j 0) ≤ f.data.length from by unfold cutN; omega)]
          refine WC_drawAll [11] mixed ?_
          (refine WR_t 0 ?_; refine WR_t 1 ?_; refine WR_t 2 ?_; refine WR_t 3 ?_; refine WR_t 4 ?_; refine WR_t 5 ?_)
          (refine WR_take 6 rfl rfl (by kernel_rfl) (by repeat (first | exact PO.body | refine PO.then ?_ | refine PO.block ?_)) (by repeat (first | exact Inc.refl | exact Inc.nil | refine Inc.cons (by repeat (first | exact Take.here | apply Take.there)) ?_ | refine Inc.skip ?_)) (EV_indexAddr0 (j := j) rfl rfl rfl hlt2) (by rfl) ?_)
          (refine WR_t 7 ?_)
          (refine WR_take 8 rfl rfl (by kernel_rfl) (by repeat (first | exact PO.body | refine PO.then ?_ | refine PO.block ?_)) (by repeat (first | exact Inc.refl | exact Inc.nil | refine Inc.cons (by repeat (first | exact Take.here | apply Take.there)) ?_ | refine Inc.skip ?_)) (EV_loadc (v := .int .i64 (e.file : Int)) rfl (Fnd.there (fnd_two hlf2)) (by rw [nth_eq]; exact getE_app (ents_at he).2)) (by rfl) ?_)
          (refine WR_t 9 ?_)
          (refine WR_take 10 rfl rfl (by kernel_rfl) (by repeat (first | exact PO.body | refine PO.then ?_ | refine PO.block ?_)) (by repeat (first | exact Inc.refl | exact Inc.nil | refine Inc.cons (by repeat (first | exact Take.here | apply Take.there)) ?_ | refine Inc.skip ?_)) (EV_indexAddr0 (j := e.file) rfl rfl rfl hef) (by rfl) ?_)
          (refine WR_last 11 (by kernel_rfl) rfl rfl rfl ?_)
          refine OW_storeAggTo (vs := [.string ⟨(f.data.take (cutN f.data.length f.synced (data.getD j 0))).toArray⟩, .int .i64 (cutN f.data.length f.synced (data.getD j 0) : Int)]) (rfcl (F.set e.file (cutF f (data.getD j 0))) ++ frest) rfl rfl rfl rfl (rfcl_patch (f' := cutF f (data.getD j 0)) hfi) (by repeat (first | exact Upd.here | apply Upd.there)) (by rw [List.length_append, hFl]; simp; omega) ?_
          (refine WR_done (by kernel_rfl) ?_)
          (repeat' (first | (show WL _ _ _ _ _ _ _; first | (refine WL_plain rfl ?_) | (refine WL_nil ?_) | (refine WL_on rfl rfl ?_) | (refine WL_off rfl rfl rfl rfl ?_) | (refine WL_offu rfl rfl rfl rfl ?_) | (refine WL_off' rfl rfl rfl ?_) | ((refine WL_split rfl rfl (fun hc => ?_) (fun hc => ?_)) <;> (rw [hc]; (try simp only [nrB] at hc); (try (exfalso; first | omega | exact hc trivial | exact hc rfl))))) | (show OW _ _ _ _ _ _; refine OW_E ?_) | (show OW _ _ ⟨_, .store .., _, _, _, _⟩ _ _ _; first | (refine OW_store rfl rfl rfl (by repeat (first | exact Upd.here | apply Upd.there)) (by first | (simp; done) | (simp; omega)) ?_) | (refine OW_storeAgg rfl rfl rfl rfl (by repeat (first | exact Upd.here | apply Upd.there)) (by first | (simp [Value.cells]; done) | (simp [Value.cells]; omega)) ?_)) | (show OW _ _ ⟨_, .alloc _, _, _, _, _⟩ _ _ _; first | (refine OW_alloc rfl (fun bk => ?_))) | (show OW _ _ ⟨_, .box .., _, _, _, _⟩ _ _ _; first | (refine OW_box rfl rfl (fun bk => ?_))) | (show WC _ _ _ _ _ _; first | (refine WC_seq ?_) | (refine WC_region ?_) | (refine WC_true rfl ?_) | (refine WC_false rfl ?_) | ((refine WC_cond rfl (fun hc => ?_) (fun hc => ?_)) <;> (try simp only [nrB] at hc) <;> (try (exfalso; first | omega | exact hc trivial | exact hc rfl))) | (refine WC_skip ?_) | (refine WC_ret ?_) | (refine WC_exit ?_) | (refine WC_block ?_)) | (show WQ _ _ _ _; first | (with_reducible refine WQ_then_normal ?_) | (with_reducible refine WQ_code ?_) | (with_reducible refine WQ_then_ret ?_) | (with_reducible refine WQ_block_ret ?_) | (with_reducible refine WQ_then_exit ?_) | (with_reducible refine WQ_block_hit ?_) | (with_reducible refine WQ_block_miss rfl ?_) | (with_reducible refine WQ_block_normal ?_))))
          refine WQ_round (X := Nat × List Fi) (μ := fun x => l.length - x.1) (x := (j, F)) (j + 1, F.set e.file (cutF f (data.getD j 0))) (by simp only; omega) ⟨by simp only; omega, ?_, by simp [hj3], ?_⟩ (by repeat (first | exact Sub.nil | refine Sub.cons rfl ?_ | refine Sub.cons (lk_int rfl (by first | omega | (dsimp only; omega))) ?_)) (fun w h => ((by repeat (first | exact Inc.refl | exact Inc.nil | refine Inc.cons (by repeat (first | exact Take.here | apply Take.there)) ?_ | refine Inc.skip ?_)) : Inc _ _).holds h)
          · simp only
            rw [hj2]
            have hdr : l.drop j = e :: l.drop (j + 1) := by
              have h8 := List.drop_eq_getElem_cons hlt2
              rw [List.getElem?_eq_getElem hlt2] at he
              rw [h8, Option.some.inj he]
            rw [hdr]
            show cutAll data (j + 1) (l.drop (j + 1)) (F.set e.file (cutF (fiAt F e) (data.getD j 0))) = _
            rw [hfe]
          · intro g hg
            rcases List.mem_or_eq_of_mem_set hg with h7 | h7
            · exact hj4 g h7
            · subst h7
              unfold cutF cutN
              simp only [List.length_take]
              omega
        · have hgd : data.getD j 0 = 0 := by rw [List.getD_eq_getElem?_getD, List.getElem?_eq_none (by omega)]; rfl
          refine OW_EV (EV_sliceStr (l := 0) (h := cutN f.data.length f.synced (data.getD j 0)) rfl rfl (bnd_int rfl (by unfold cutN; omega)) (Nat.zero_le _) (by rw [ba_size]; unfold cutN; omega)) rfl ?_
          rw [ba_take]
          (repeat' (first | (show WL _ _ _ _ _ _ _; first | (refine WL_plain rfl ?_) | (refine WL_nil ?_) | (refine WL_on rfl rfl ?_) | (refine WL_off rfl rfl rfl rfl ?_) | (refine WL_offu rfl rfl rfl rfl ?_) | (refine WL_off' rfl rfl rfl ?_) | ((refine WL_split rfl rfl (fun hc => ?_) (fun hc => ?_)) <;> (rw [hc]; (try simp only [nrB] at hc); (try (exfalso; first | omega | exact hc trivial | exact hc rfl))))) | (show OW _ _ _ _ _ _; refine OW_E ?_) | (show OW _ _ ⟨_, .store .., _, _, _, _⟩ _ _ _; first | (refine OW_store rfl rfl rfl (by repeat (first | exact Upd.here | apply Upd.there)) (by first | (simp; done) | (simp; omega)) ?_) | (refine OW_storeAgg rfl rfl rfl rfl (by repeat (first | exact Upd.here | apply Upd.there)) (by first | (simp [Value.cells]; done) | (simp [Value.cells]; omega)) ?_)) | (show OW _ _ ⟨_, .alloc _, _, _, _, _⟩ _ _ _; first | (refine OW_alloc rfl (fun bk => ?_))) | (show OW _ _ ⟨_, .box .., _, _, _, _⟩ _ _ _; first | (refine OW_box rfl rfl (fun bk => ?_))) | (show WC _ _ _ _ _ _; first | (refine WC_seq ?_) | (refine WC_region ?_) | (refine WC_true rfl ?_) | (refine WC_false rfl ?_) | ((refine WC_cond rfl (fun hc => ?_) (fun hc => ?_)) <;> (try simp only [nrB] at hc) <;> (try (exfalso; first | omega | exact hc trivial | exact hc rfl))) | (refine WC_skip ?_) | (refine WC_ret ?_) | (refine WC_exit ?_) | (refine WC_block ?_)) | (show WQ _ _ _ _; first | (with_reducible refine WQ_then_normal ?_) | (with_reducible refine WQ_code ?_) | (with_reducible refine WQ_then_ret ?_) | (with_reducible refine WQ_block_ret ?_) | (with_reducible refine WQ_then_exit ?_) | (with_reducible refine WQ_block_hit ?_) | (with_reducible refine WQ_block_miss rfl ?_) | (with_reducible refine WQ_block_normal ?_))))
          rw [ba_size, List.length_take, Nat.min_eq_left (show cutN f.data.length f.synced (data.getD j 0) ≤ f.data.length from by unfold cutN; omega)]
          refine WC_drawAll [11] mixed ?_
          (refine WR_t 0 ?_; refine WR_t 1 ?_; refine WR_t 2 ?_; refine WR_t 3 ?_; refine WR_t 4 ?_; refine WR_t 5 ?_)
          (refine WR_take 6 rfl rfl (by kernel_rfl) (by repeat (first | exact PO.body | refine PO.then ?_ | refine PO.block ?_)) (by repeat (first | exact Inc.refl | exact Inc.nil | refine Inc.cons (by repeat (first | exact Take.here | apply Take.there)) ?_ | refine Inc.skip ?_)) (EV_indexAddr0 (j := j) rfl rfl rfl hlt2) (by rfl) ?_)
          (refine WR_t 7 ?_)
          (refine WR_take 8 rfl rfl (by kernel_rfl) (by repeat (first | exact PO.body | refine PO.then ?_ | refine PO.block ?_)) (by repeat (first | exact Inc.refl | exact Inc.nil | refine Inc.cons (by repeat (first | exact Take.here | apply Take.there)) ?_ | refine Inc.skip ?_)) (EV_loadc (v := .int .i64 (e.file : Int)) rfl (Fnd.there (fnd_two hlf2)) (by rw [nth_eq]; exact getE_app (ents_at he).2)) (by rfl) ?_)
          (refine WR_t 9 ?_)
          (refine WR_take 10 rfl rfl (by kernel_rfl) (by repeat (first | exact PO.body | refine PO.then ?_ | refine PO.block ?_)) (by repeat (first | exact Inc.refl | exact Inc.nil | refine Inc.cons (by repeat (first | exact Take.here | apply Take.there)) ?_ | refine Inc.skip ?_)) (EV_indexAddr0 (j := e.file) rfl rfl rfl hef) (by rfl) ?_)
          (refine WR_last 11 (by kernel_rfl) rfl rfl rfl ?_)
          refine OW_storeAggTo (vs := [.string ⟨(f.data.take (cutN f.data.length f.synced (data.getD j 0))).toArray⟩, .int .i64 (cutN f.data.length f.synced (data.getD j 0) : Int)]) (rfcl (F.set e.file (cutF f (data.getD j 0))) ++ frest) rfl rfl rfl rfl (rfcl_patch (f' := cutF f (data.getD j 0)) hfi) (by repeat (first | exact Upd.here | apply Upd.there)) (by rw [List.length_append, hFl]; simp; omega) ?_
          (refine WR_done (by kernel_rfl) ?_)
          (repeat' (first | (show WL _ _ _ _ _ _ _; first | (refine WL_plain rfl ?_) | (refine WL_nil ?_) | (refine WL_on rfl rfl ?_) | (refine WL_off rfl rfl rfl rfl ?_) | (refine WL_offu rfl rfl rfl rfl ?_) | (refine WL_off' rfl rfl rfl ?_) | ((refine WL_split rfl rfl (fun hc => ?_) (fun hc => ?_)) <;> (rw [hc]; (try simp only [nrB] at hc); (try (exfalso; first | omega | exact hc trivial | exact hc rfl))))) | (show OW _ _ _ _ _ _; refine OW_E ?_) | (show OW _ _ ⟨_, .store .., _, _, _, _⟩ _ _ _; first | (refine OW_store rfl rfl rfl (by repeat (first | exact Upd.here | apply Upd.there)) (by first | (simp; done) | (simp; omega)) ?_) | (refine OW_storeAgg rfl rfl rfl rfl (by repeat (first | exact Upd.here | apply Upd.there)) (by first | (simp [Value.cells]; done) | (simp [Value.cells]; omega)) ?_)) | (show OW _ _ ⟨_, .alloc _, _, _, _, _⟩ _ _ _; first | (refine OW_alloc rfl (fun bk => ?_))) | (show OW _ _ ⟨_, .box .., _, _, _, _⟩ _ _ _; first | (refine OW_box rfl rfl (fun bk => ?_))) | (show WC _ _ _ _ _ _; first | (refine WC_seq ?_) | (refine WC_region ?_) | (refine WC_true rfl ?_) | (refine WC_false rfl ?_) | ((refine WC_cond rfl (fun hc => ?_) (fun hc => ?_)) <;> (try simp only [nrB] at hc) <;> (try (exfalso; first | omega | exact hc trivial | exact hc rfl))) | (refine WC_skip ?_) | (refine WC_ret ?_) | (refine WC_exit ?_) | (refine WC_block ?_)) | (show WQ _ _ _ _; first | (with_reducible refine WQ_then_normal ?_) | (with_reducible refine WQ_code ?_) | (with_reducible refine WQ_then_ret ?_) | (with_reducible refine WQ_block_ret ?_) | (with_reducible refine WQ_then_exit ?_) | (with_reducible refine WQ_block_hit ?_) | (with_reducible refine WQ_block_miss rfl ?_) | (with_reducible refine WQ_block_normal ?_))))
          refine WQ_round (X := Nat × List Fi) (μ := fun x => l.length - x.1) (x := (j, F)) (j + 1, F.set e.file (cutF f (data.getD j 0))) (by simp only; omega) ⟨by simp only; omega, ?_, by simp [hj3], ?_⟩ (by repeat (first | exact Sub.nil | refine Sub.cons rfl ?_ | refine Sub.cons (lk_int rfl (by first | omega | (dsimp only; omega))) ?_)) (fun w h => ((by repeat (first | exact Inc.refl | exact Inc.nil | refine Inc.cons (by repeat (first | exact Take.here | apply Take.there)) ?_ | refine Inc.skip ?_)) : Inc _ _).holds h)
          · simp only
            rw [hj2]
            have hdr : l.drop j = e :: l.drop (j + 1) := by
              have h8 := List.drop_eq_getElem_cons hlt2
              rw [List.getElem?_eq_getElem hlt2] at he
              rw [h8, Option.some.inj he]
            rw [hdr]
            show cutAll data (j + 1) (l.drop (j + 1)) (F.set e.file (cutF (fiAt F e) (data.getD j 0))) = _
            rw [hfe]
          · intro g hg
            rcases List.mem_or_eq_of_mem_set hg with h7 | h7
            · exact hj4 g h7
            · subst h7
              unfold cutF cutN
              simp only [List.length_take]
              omega
      · have hje : j = l.length := by omega
        subst hje
        have hcF : cutAll data 0 l R.files = F := by rw [hj2, List.drop_length]; rfl
        rw [hcF] at hcr
        first | refine WQ_retH rfl rfl ?_ | refine WQ_endH rfl rfl ?_
        rw [hcr]
        refine ⟨_, fun w h => (four (A := [(p, cl [.int .i64 (R.quota : Int), .slice (some ⟨fb, 0, none⟩) R.files.length fcap, .slice la l.length lc, .slice la l.length lc, .slice none 0 0, .int .i64 (-1), .bool false] 116)]) (B := [(fb, cl (rfcl F ++ frest) 139)]) (C := []) (D := Ck ++ D)).2 ?_, _, rfl, rfl, .slice (some ⟨fb, 0, none⟩) R.files.length fcap, .slice la l.length lc, .slice la l.length lc, .slice none 0 0, [(fb, cl (rfcl F ++ frest) 139)], [], Ck ++ D, rfl, .inr ⟨fb, fcap, frest, by simp [hj3], rfl, by rw [rfcl_len], by simpa [hj3] using hfrl, by simpa [hj3] using hfmc, hfcm⟩, .inl ⟨rfl, rfl, rfl, rfl⟩, hns, hns⟩
        have h1 := ((by repeat (first | exact Inc.refl | exact Inc.nil | refine Inc.cons (by repeat (first | exact Take.here | apply Take.there)) ?_ | refine Inc.skip ?_)) : Inc (Ck :: D :: [(p, cl [.int .i64 (R.quota : Int), .slice (some ⟨fb, 0, none⟩) R.files.length fcap, .slice la l.length lc, .slice la l.length lc, .slice none 0 0, .int .i64 (-1), .bool false] 116)] :: [(fb, cl (rfcl F ++ frest) 139)] :: L) _).holds h
        have h2 := Holds.perm (Holds.nil.2 (two.2 h1)) (show List.Perm ([] :: (Ck ++ D) :: [(p, cl [.int .i64 (R.quota : Int), .slice (some ⟨fb, 0, none⟩) R.files.length fcap, .slice la l.length lc, .slice la l.length lc, .slice none 0 0, .int .i64 (-1), .bool false] 116)] :: [(fb, cl (rfcl F ++ frest) 139)] :: L) ([(p, cl [.int .i64 (R.quota : Int), .slice (some ⟨fb, 0, none⟩) R.files.length fcap, .slice la l.length lc, .slice la l.length lc, .slice none 0 0, .int .i64 (-1), .bool false] 116)] :: [(fb, cl (rfcl F ++ frest) 139)] :: [] :: (Ck ++ D) :: L) from by
          refine List.Perm.trans (List.Perm.cons _ (.swap _ _ _)) ?_
          refine List.Perm.trans (.swap _ _ _) (.cons _ ?_)
          refine List.Perm.trans (List.Perm.cons _ (.swap _ _ _)) ?_
          exact .swap _ _ _)
        exact h2
    )
end Go.Proofs.Ytgicjngbaomigaa
