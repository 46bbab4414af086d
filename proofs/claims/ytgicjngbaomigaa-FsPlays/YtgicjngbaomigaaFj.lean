/- New, cut and Crash. It proves no statement by itself. No conditions. -/
import Derived.Test.YtgicjngbaomigaaFi
namespace Go.Proofs.Ytgicjngbaomigaa
open Go Go.Vx
variable [W0]
set_option maxRecDepth 4000
set_option linter.all false

omit [W0] in
def newS (q : Nat) : Fsy := ⟨q, [], [], [], [], -1, false⟩
theorem new_yes (q : Nat) (L : List Chunk) (hq : q ≤ 16777216) :
    Gv Try.prog 12 [.int .i64 (q : Int)].toArray L (fun r L' => ∃ p C', r = .tuple #[.pointer (some ⟨p, 0, none⟩), .int .i64 0] ∧ L' = C' :: L ∧ FsAt (newS q) p C') := by
  refine Gv.of_body Try.func12 rfl rfl ?_
  (repeat' (first | (show WL _ _ _ _ _ _ _; first | (refine WL_plain rfl ?_) | (refine WL_nil ?_) | (refine WL_on rfl rfl ?_) | (refine WL_off rfl rfl rfl rfl ?_) | (refine WL_offu rfl rfl rfl rfl ?_) | (refine WL_off' rfl rfl rfl ?_) | ((refine WL_split rfl rfl (fun hc => ?_) (fun hc => ?_)) <;> (rw [hc]; (try simp only [nrB] at hc); (try (exfalso; first | omega | exact hc trivial | exact hc rfl))))) | (show OW _ _ _ _ _ _; refine OW_E ?_) | (show OW _ _ ⟨_, .store .., _, _, _, _⟩ _ _ _; first | (refine OW_store rfl rfl rfl (by repeat (first | exact Upd.here | apply Upd.there)) (by first | (simp; done) | (simp; omega)) ?_) | (refine OW_storeAgg rfl rfl rfl rfl (by repeat (first | exact Upd.here | apply Upd.there)) (by first | (simp [Value.cells]; done) | (simp [Value.cells]; omega)) ?_)) | (show OW _ _ ⟨_, .alloc _, _, _, _, _⟩ _ _ _; first | (refine OW_alloc rfl (fun bk => ?_))) | (show OW _ _ ⟨_, .box .., _, _, _, _⟩ _ _ _; first | (refine OW_box rfl rfl (fun bk => ?_))) | (show WC _ _ _ _ _ _; first | (refine WC_seq ?_) | (refine WC_region ?_) | (refine WC_true rfl ?_) | (refine WC_false rfl ?_) | ((refine WC_cond rfl (fun hc => ?_) (fun hc => ?_)) <;> (try simp only [nrB] at hc) <;> (try (exfalso; first | omega | exact hc trivial | exact hc rfl))) | (refine WC_skip ?_) | (refine WC_ret ?_) | (refine WC_exit ?_) | (refine WC_block ?_)) | (show WQ _ _ _ _; first | (with_reducible refine WQ_then_normal ?_) | (with_reducible refine WQ_code ?_) | (with_reducible refine WQ_then_ret ?_) | (with_reducible refine WQ_block_ret ?_) | (with_reducible refine WQ_then_exit ?_) | (with_reducible refine WQ_block_hit ?_) | (with_reducible refine WQ_block_miss rfl ?_) | (with_reducible refine WQ_block_normal ?_))))
  (first | refine WQ_retI rfl rfl ?_ | refine WQ_endI rfl rfl ?_)
  refine ⟨_ :: L, (by repeat (first | exact Inc.refl | exact Inc.nil | refine Inc.cons (by repeat (first | exact Take.here | apply Take.there)) ?_ | refine Inc.skip ?_)), _, _, rfl, rfl, .slice none 0 0, .slice none 0 0, .slice none 0 0, .slice none 0 0, [], [], [], [], [], [], ?_, .inl ⟨rfl, rfl, rfl, rfl⟩, ⟨rfl, rfl, fun i f h => by simp [newS] at h⟩, .inl ⟨rfl, rfl, rfl, rfl⟩, .inl ⟨rfl, rfl, rfl, rfl⟩, .inl ⟨rfl, rfl, rfl, rfl⟩⟩
  simp [hdr, hdrO, newS]
  rfl
theorem good_new (q : Nat) (hq : q ≤ 16777216) : Good (newS q) 0 :=
  ⟨⟨rfl, trivial, Nat.le_refl _, fun e h => by simp [newS] at h, by simp [newS]⟩, Nat.le_refl _, Nat.le_refl _, by omega, hq, by simp [newS], fun f h => by simp [newS] at h⟩

omit [W0] in
def cutN (len synced : Nat) (more : Int) : Nat := synced + (min (max more 0) ((len : Int) - (synced : Int))).toNat
omit [W0] in
def cutV (v : Value) (n : Nat) : Value := match v with | .slice a _ c => .slice a n c | x => x

theorem cut_1 (fb off len synced : Nat) (more : Int) (v : Value) (l : List Value) (C : Chunk) (xs : List UInt8) (L : List Chunk) (h0 : l[off]? = some v) (h1 : l[off + 1]? = some (.int .i64 (synced : Int))) (hv : Ow 5 1 v len (bsv xs) C) (hs : synced ≤ len) (hlen : len ≤ 100000000) (hxl : xs.length = len) :
    Gv Try.prog 54 [.pointer (some ⟨fb, off, none⟩), .int .i64 more].toArray ([(fb, cl l 90)] :: L)
      (fun r L' => r = .tuple #[] ∧ L' = [(fb, cl ((l.set (off + 1) (.int .i64 (cutN len synced more : Int))).set off (cutV v (cutN len synced more))) 90)] :: L) := by
  have hlt : off + 1 < l.length := by
    rcases Nat.lt_or_ge (off + 1) l.length with h' | h'
    · exact h'
    · simp [List.getElem?_eq_none h'] at h1
  have hcl : cutN len synced more ≤ len := by unfold cutN; omega
  have hce : (synced : Int) + min (max more 0) ((len : Int) - (synced : Int)) = (cutN len synced more : Int) := by unfold cutN; omega
  have hg1 : (l.set (off + 1) (.int .i64 (cutN len synced more : Int)))[off]? = some v := by rw [List.getElem?_set_ne (by omega)]; exact h0
  have hg2 : (l.set (off + 1) (.int .i64 (cutN len synced more : Int)))[off + 1]? = some (.int .i64 (cutN len synced more : Int)) := by rw [List.getElem?_set_self hlt]
  have hvs : ∃ a c, v = .slice a len c := by
    rcases hv with ⟨rfl, rfl, _⟩ | ⟨b, cap, rest, rfl, _⟩
    · exact ⟨_, _, rfl⟩
    · exact ⟨_, _, rfl⟩
  obtain ⟨a, c, rfl⟩ := hvs
  refine Gv.of_body Try.func54 rfl rfl ?_
  (repeat' (first | (show WL _ _ _ _ _ _ _; first | (refine WL_plain rfl ?_) | (refine WL_nil ?_) | (refine WL_on rfl rfl ?_) | (refine WL_off rfl rfl rfl rfl ?_) | (refine WL_offu rfl rfl rfl rfl ?_) | (refine WL_off' rfl rfl rfl ?_) | ((refine WL_split rfl rfl (fun hc => ?_) (fun hc => ?_)) <;> (rw [hc]; (try simp only [nrB] at hc); (try (exfalso; first | omega | exact hc trivial | exact hc rfl))))) | (show OW _ _ _ _ _ _; refine OW_E ?_) | (show OW _ _ ⟨_, .store .., _, _, _, _⟩ _ _ _; first | (refine OW_store rfl rfl rfl (by repeat (first | exact Upd.here | apply Upd.there)) (by first | (simp; done) | (simp; omega)) ?_) | (refine OW_storeAgg rfl rfl rfl rfl (by repeat (first | exact Upd.here | apply Upd.there)) (by first | (simp [Value.cells]; done) | (simp [Value.cells]; omega)) ?_)) | (show OW _ _ ⟨_, .alloc _, _, _, _, _⟩ _ _ _; first | (refine OW_alloc rfl (fun bk => ?_))) | (show OW _ _ ⟨_, .box .., _, _, _, _⟩ _ _ _; first | (refine OW_box rfl rfl (fun bk => ?_))) | (show WC _ _ _ _ _ _; first | (refine WC_seq ?_) | (refine WC_region ?_) | (refine WC_true rfl ?_) | (refine WC_false rfl ?_) | ((refine WC_cond rfl (fun hc => ?_) (fun hc => ?_)) <;> (try simp only [nrB] at hc) <;> (try (exfalso; first | omega | exact hc trivial | exact hc rfl))) | (refine WC_skip ?_) | (refine WC_ret ?_) | (refine WC_exit ?_) | (refine WC_block ?_)) | (show WQ _ _ _ _; first | (with_reducible refine WQ_then_normal ?_) | (with_reducible refine WQ_code ?_) | (with_reducible refine WQ_then_ret ?_) | (with_reducible refine WQ_block_ret ?_) | (with_reducible refine WQ_then_exit ?_) | (with_reducible refine WQ_block_hit ?_) | (with_reducible refine WQ_block_miss rfl ?_) | (with_reducible refine WQ_block_normal ?_))))
  refine WC_drawAll [19] mixed ?_
  (refine WR_t 0 ?_; refine WR_t 1 ?_; refine WR_t 2 ?_)
  (refine WR_take 3 rfl rfl (by kernel_rfl) (by repeat (first | exact PO.body | refine PO.then ?_ | refine PO.block ?_)) (by repeat (first | exact Inc.refl | exact Inc.nil | refine Inc.cons (by repeat (first | exact Take.here | apply Take.there)) ?_ | refine Inc.skip ?_)) (EV_loadc rfl (by repeat (first | assumption | exact Fnd.here | refine Fnd.there ?_)) (by rw [nth_eq]; exact h1)) (by rfl) ?_)
  (refine WR_t 4 ?_; refine WR_t 5 ?_; refine WR_t 6 ?_; refine WR_t 7 ?_)
  (refine WR_take 8 rfl rfl (by kernel_rfl) (by repeat (first | exact PO.body | refine PO.then ?_ | refine PO.block ?_)) (by repeat (first | exact Inc.refl | exact Inc.nil | refine Inc.cons (by repeat (first | exact Take.here | apply Take.there)) ?_ | refine Inc.skip ?_)) (EV_loadc rfl (by repeat (first | assumption | exact Fnd.here | refine Fnd.there ?_)) (by rw [nth_eq]; exact h0)) (by rfl) ?_)
  (refine WR_t 9 ?_; refine WR_t 10 ?_; refine WR_t 11 ?_; refine WR_t 12 ?_)
  (refine WR_take 13 rfl rfl (by kernel_rfl) (by repeat (first | exact PO.body | refine PO.then ?_ | refine PO.block ?_)) (by repeat (first | exact Inc.refl | exact Inc.nil | refine Inc.cons (by repeat (first | exact Take.here | apply Take.there)) ?_ | refine Inc.skip ?_)) (EV_loadc rfl (by repeat (first | assumption | exact Fnd.here | refine Fnd.there ?_)) (by rw [nth_eq]; exact h1)) (by rfl) ?_)
  (refine WR_t 14 ?_)
  (refine WR_one 15 (by kernel_rfl) rfl rfl ?_)
  refine OW_callP rfl rfl rfl (within_1 _ _ _) rfl ?_
  refine ⟨(by repeat (first | exact Inc.refl | exact Inc.nil | refine Inc.cons (by repeat (first | exact Take.here | apply Take.there)) ?_ | refine Inc.skip ?_)), ?_⟩
  (refine WR_t 16 ?_)
  rw [hce]
  (refine WR_t 17 ?_; refine WR_t 18 ?_)
  (refine WR_last 19 (by kernel_rfl) rfl rfl rfl ?_)
  refine OW_storeTo (l.set (off + 1) (.int .i64 (cutN len synced more : Int))) rfl rfl rfl rfl (by repeat (first | exact Upd.here | apply Upd.there)) hlt ?_
  (refine WR_done (by kernel_rfl) ?_)
  (repeat' (first | (show WL _ _ _ _ _ _ _; first | (refine WL_plain rfl ?_) | (refine WL_nil ?_) | (refine WL_on rfl rfl ?_) | (refine WL_off rfl rfl rfl rfl ?_) | (refine WL_offu rfl rfl rfl rfl ?_) | (refine WL_off' rfl rfl rfl ?_) | ((refine WL_split rfl rfl (fun hc => ?_) (fun hc => ?_)) <;> (rw [hc]; (try simp only [nrB] at hc); (try (exfalso; first | omega | exact hc trivial | exact hc rfl))))) | (show OW _ _ _ _ _ _; refine OW_E ?_) | (show OW _ _ ⟨_, .store .., _, _, _, _⟩ _ _ _; first | (refine OW_store rfl rfl rfl (by repeat (first | exact Upd.here | apply Upd.there)) (by first | (simp; done) | (simp; omega)) ?_) | (refine OW_storeAgg rfl rfl rfl rfl (by repeat (first | exact Upd.here | apply Upd.there)) (by first | (simp [Value.cells]; done) | (simp [Value.cells]; omega)) ?_)) | (show OW _ _ ⟨_, .alloc _, _, _, _, _⟩ _ _ _; first | (refine OW_alloc rfl (fun bk => ?_))) | (show OW _ _ ⟨_, .box .., _, _, _, _⟩ _ _ _; first | (refine OW_box rfl rfl (fun bk => ?_))) | (show WC _ _ _ _ _ _; first | (refine WC_seq ?_) | (refine WC_region ?_) | (refine WC_true rfl ?_) | (refine WC_false rfl ?_) | ((refine WC_cond rfl (fun hc => ?_) (fun hc => ?_)) <;> (try simp only [nrB] at hc) <;> (try (exfalso; first | omega | exact hc trivial | exact hc rfl))) | (refine WC_skip ?_) | (refine WC_ret ?_) | (refine WC_exit ?_) | (refine WC_block ?_)) | (show WQ _ _ _ _; first | (with_reducible refine WQ_then_normal ?_) | (with_reducible refine WQ_code ?_) | (with_reducible refine WQ_then_ret ?_) | (with_reducible refine WQ_block_ret ?_) | (with_reducible refine WQ_then_exit ?_) | (with_reducible refine WQ_block_hit ?_) | (with_reducible refine WQ_block_miss rfl ?_) | (with_reducible refine WQ_block_normal ?_))))
  refine WC_drawAll [12] mixed ?_
  (refine WR_t 0 ?_; refine WR_t 1 ?_; refine WR_t 2 ?_; refine WR_t 3 ?_)
  (refine WR_take 4 rfl rfl (by kernel_rfl) (by repeat (first | exact PO.body | refine PO.then ?_ | refine PO.block ?_)) (by repeat (first | exact Inc.refl | exact Inc.nil | refine Inc.cons (by repeat (first | exact Take.here | apply Take.there)) ?_ | refine Inc.skip ?_)) (EV_loadc rfl (by repeat (first | assumption | exact Fnd.here | refine Fnd.there ?_)) (by rw [nth_eq]; exact hg1)) (by rfl) ?_)
  (refine WR_t 5 ?_; refine WR_t 6 ?_; refine WR_t 7 ?_)
  (refine WR_take 8 rfl rfl (by kernel_rfl) (by repeat (first | exact PO.body | refine PO.then ?_ | refine PO.block ?_)) (by repeat (first | exact Inc.refl | exact Inc.nil | refine Inc.cons (by repeat (first | exact Take.here | apply Take.there)) ?_ | refine Inc.skip ?_)) (EV_loadc rfl (by repeat (first | assumption | exact Fnd.here | refine Fnd.there ?_)) (by rw [nth_eq]; exact hg2)) (by rfl) ?_)
  rcases hv with ⟨hv1, hv2, _⟩ | ⟨b, cap, rest, hv1, hv2, hv3, hv4, hv5, hv6⟩
  · obtain ⟨rfl, hz, rfl⟩ : a = none ∧ len = 0 ∧ c = 0 := by injection hv1 with e1 e2 e3; exact ⟨e1, e2, e3⟩
    subst hz
    have hz0 : cutN 0 synced more = 0 := by omega
    rw [hz0]
    (refine WR_take 9 rfl rfl (by kernel_rfl) (by repeat (first | exact PO.body | refine PO.then ?_ | refine PO.block ?_)) (by repeat (first | exact Inc.refl | exact Inc.nil | refine Inc.cons (by repeat (first | exact Take.here | apply Take.there)) ?_ | refine Inc.skip ?_)) (EV_sliceNil rfl rfl rfl) (by rfl) ?_)
    (refine WR_t 10 ?_; refine WR_t 11 ?_)
    (refine WR_last 12 (by kernel_rfl) rfl rfl rfl ?_)
    refine OW_storeTo ((l.set (off + 1) (.int .i64 ((0 : Nat) : Int))).set off (.slice none 0 0)) rfl rfl rfl (by rw [Nat.add_zero]) (by repeat (first | exact Upd.here | apply Upd.there)) (by simp; omega) ?_
    (refine WR_done (by kernel_rfl) ?_)
    (repeat' (first | (show WL _ _ _ _ _ _ _; first | (refine WL_plain rfl ?_) | (refine WL_nil ?_) | (refine WL_on rfl rfl ?_) | (refine WL_off rfl rfl rfl rfl ?_) | (refine WL_offu rfl rfl rfl rfl ?_) | (refine WL_off' rfl rfl rfl ?_) | ((refine WL_split rfl rfl (fun hc => ?_) (fun hc => ?_)) <;> (rw [hc]; (try simp only [nrB] at hc); (try (exfalso; first | omega | exact hc trivial | exact hc rfl))))) | (show OW _ _ _ _ _ _; refine OW_E ?_) | (show OW _ _ ⟨_, .store .., _, _, _, _⟩ _ _ _; first | (refine OW_store rfl rfl rfl (by repeat (first | exact Upd.here | apply Upd.there)) (by first | (simp; done) | (simp; omega)) ?_) | (refine OW_storeAgg rfl rfl rfl rfl (by repeat (first | exact Upd.here | apply Upd.there)) (by first | (simp [Value.cells]; done) | (simp [Value.cells]; omega)) ?_)) | (show OW _ _ ⟨_, .alloc _, _, _, _, _⟩ _ _ _; first | (refine OW_alloc rfl (fun bk => ?_))) | (show OW _ _ ⟨_, .box .., _, _, _, _⟩ _ _ _; first | (refine OW_box rfl rfl (fun bk => ?_))) | (show WC _ _ _ _ _ _; first | (refine WC_seq ?_) | (refine WC_region ?_) | (refine WC_true rfl ?_) | (refine WC_false rfl ?_) | ((refine WC_cond rfl (fun hc => ?_) (fun hc => ?_)) <;> (try simp only [nrB] at hc) <;> (try (exfalso; first | omega | exact hc trivial | exact hc rfl))) | (refine WC_skip ?_) | (refine WC_ret ?_) | (refine WC_exit ?_) | (refine WC_block ?_)) | (show WQ _ _ _ _; first | (with_reducible refine WQ_then_normal ?_) | (with_reducible refine WQ_code ?_) | (with_reducible refine WQ_then_ret ?_) | (with_reducible refine WQ_block_ret ?_) | (with_reducible refine WQ_then_exit ?_) | (with_reducible refine WQ_block_hit ?_) | (with_reducible refine WQ_block_miss rfl ?_) | (with_reducible refine WQ_block_normal ?_))))
    (first | refine WQ_retI rfl rfl ?_ | refine WQ_endI rfl rfl ?_)
    exact ⟨_, (by repeat (first | exact Inc.refl | exact Inc.nil | refine Inc.cons (by repeat (first | exact Take.here | apply Take.there)) ?_ | refine Inc.skip ?_)), rfl, rfl⟩
  · obtain ⟨rfl, rfl⟩ : a = some ⟨b, 0, none⟩ ∧ c = cap := by injection hv1 with e1 e2 e3; exact ⟨e1, e3⟩
    (refine WR_take 9 rfl rfl (by kernel_rfl) (by repeat (first | exact PO.body | refine PO.then ?_ | refine PO.block ?_)) (by repeat (first | exact Inc.refl | exact Inc.nil | refine Inc.cons (by repeat (first | exact Take.here | apply Take.there)) ?_ | refine Inc.skip ?_)) (EV_sliceTo (h := cutN len synced more) rfl rfl rfl (by omega)) (by rfl) ?_)
    (refine WR_t 10 ?_; refine WR_t 11 ?_)
    (refine WR_last 12 (by kernel_rfl) rfl rfl rfl ?_)
    refine OW_storeTo ((l.set (off + 1) (.int .i64 (cutN len synced more : Int))).set off (.slice (some ⟨b, 0, none⟩) (cutN len synced more) c)) rfl rfl rfl (by rw [Nat.add_zero]) (by repeat (first | exact Upd.here | apply Upd.there)) (by simp; omega) ?_
    (refine WR_done (by kernel_rfl) ?_)
    (repeat' (first | (show WL _ _ _ _ _ _ _; first | (refine WL_plain rfl ?_) | (refine WL_nil ?_) | (refine WL_on rfl rfl ?_) | (refine WL_off rfl rfl rfl rfl ?_) | (refine WL_offu rfl rfl rfl rfl ?_) | (refine WL_off' rfl rfl rfl ?_) | ((refine WL_split rfl rfl (fun hc => ?_) (fun hc => ?_)) <;> (rw [hc]; (try simp only [nrB] at hc); (try (exfalso; first | omega | exact hc trivial | exact hc rfl))))) | (show OW _ _ _ _ _ _; refine OW_E ?_) | (show OW _ _ ⟨_, .store .., _, _, _, _⟩ _ _ _; first | (refine OW_store rfl rfl rfl (by repeat (first | exact Upd.here | apply Upd.there)) (by first | (simp; done) | (simp; omega)) ?_) | (refine OW_storeAgg rfl rfl rfl rfl (by repeat (first | exact Upd.here | apply Upd.there)) (by first | (simp [Value.cells]; done) | (simp [Value.cells]; omega)) ?_)) | (show OW _ _ ⟨_, .alloc _, _, _, _, _⟩ _ _ _; first | (refine OW_alloc rfl (fun bk => ?_))) | (show OW _ _ ⟨_, .box .., _, _, _, _⟩ _ _ _; first | (refine OW_box rfl rfl (fun bk => ?_))) | (show WC _ _ _ _ _ _; first | (refine WC_seq ?_) | (refine WC_region ?_) | (refine WC_true rfl ?_) | (refine WC_false rfl ?_) | ((refine WC_cond rfl (fun hc => ?_) (fun hc => ?_)) <;> (try simp only [nrB] at hc) <;> (try (exfalso; first | omega | exact hc trivial | exact hc rfl))) | (refine WC_skip ?_) | (refine WC_ret ?_) | (refine WC_exit ?_) | (refine WC_block ?_)) | (show WQ _ _ _ _; first | (with_reducible refine WQ_then_normal ?_) | (with_reducible refine WQ_code ?_) | (with_reducible refine WQ_then_ret ?_) | (with_reducible refine WQ_block_ret ?_) | (with_reducible refine WQ_then_exit ?_) | (with_reducible refine WQ_block_hit ?_) | (with_reducible refine WQ_block_miss rfl ?_) | (with_reducible refine WQ_block_normal ?_))))
    (first | refine WQ_retI rfl rfl ?_ | refine WQ_endI rfl rfl ?_)
    exact ⟨_, (by repeat (first | exact Inc.refl | exact Inc.nil | refine Inc.cons (by repeat (first | exact Take.here | apply Take.there)) ?_ | refine Inc.skip ?_)), rfl, rfl⟩

theorem ow_cut {v : Value} {len n : Nat} {xs : List UInt8} {C : Chunk} (h : Ow 5 1 v len (bsv xs) C) (hl : xs.length = len) (hn : n ≤ len) : Ow 5 1 (cutV v n) n (bsv (xs.take n)) C := by
  rcases h with ⟨rfl, rfl, h2, rfl⟩ | ⟨b, cap, rest, rfl, rfl, h3, h4, h5, h6⟩
  · have : n = 0 := by omega
    subst this
    exact .inl ⟨rfl, rfl, rfl, rfl⟩
  · refine .inr ⟨b, cap, bsv (xs.drop n) ++ rest, rfl, ?_, ?_, ?_, by omega, h6⟩
    · rw [← List.append_assoc, ← bsv_append, List.take_append_drop]
    · rw [bsv_length]; simp; omega
    · rw [List.length_append, bsv_length, h4]; simp; omega
end Go.Proofs.Ytgicjngbaomigaa
