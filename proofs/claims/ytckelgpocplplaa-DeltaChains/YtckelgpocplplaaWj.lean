/- Package delta: the text between what both texts begin and end with. It proves no statement by itself. No conditions. -/
import Derived.Test.YtckelgpocplplaaWh
import Derived.Test.YtckelgpocplplaaWi
namespace Go.Proofs.Ytckelgpocplplaa
open Go Go.Vx Go.Dl
variable [W0]
set_option maxRecDepth 4000
set_option linter.all false
set_option maxHeartbeats 32000000 in
theorem appendtext_n (r3 vb vt : Value) (pre base t : List UInt8) (C3 : Chunk) (L : List Chunk) (o3 : Ow 5 1 r3 pre.length (bsv pre) C3) (hpl : pre.length ≤ 30000000) (hrs : Rs L 1 vb base.length (bsv base)) (ht : Rs L 1 vt t.length (bsv t)) (hbl : base.length ≤ 16777216) (htl : t.length ≤ 16777216) :
    Gv Try.prog 17 [r3, vb, vt].toArray (C3 :: L) (fun r L' => ∃ D C, Mk base D t ∧ D.length ≤ t.length + t.length / 127 + 1 ∧ Ow 5 1 r (pre ++ D).length (bsv (pre ++ D)) C ∧ L' = C :: L) := by
  refine Gv.of_body (args := [r3, vb, vt]) Try.func17 rfl rfl ?_
  obtain ⟨ba, bc, rfl⟩ := rs_val hrs
  obtain ⟨ta, tc, rfl⟩ := rs_val ht
  (repeat' first|refine kW ?_|refine kU fun bk=>?_|refine kV fun hc=>?_|refine kZ (fun hc=>?_) fun hc=>?_|fail)
  · refine OW_call rfl rfl rfl (appendins_n r3 pre (.slice ta t.length tc) t C3 L L o3 ht (fun x h => h) (by omega) (by omega)) rfl (fun r7 L' hp => ?_)
    obtain ⟨D1, C1', hmk1, hd1, o7, rfl⟩ := hp
    (repeat' first|refine kW ?_|refine kU fun bk=>?_|refine kV fun hc=>?_|refine kZ (fun hc=>?_) fun hc=>?_|fail)
    refine kR ?_
    exact ⟨_, iC, D1, C1', hmk1 base, by omega, o7, rfl⟩
  refine OW_call rfl rfl rfl (indexof_n (.slice ba base.length bc) base (C3 :: L) hrs.there hbl) rfl (fun r L' hp => ?_)
  obtain ⟨b, es, c, G, Cs, rfl, hM, hG, rfl⟩ := hp
  (repeat' first|refine kW ?_|refine kU fun bk=>?_|refine kV fun hc=>?_|refine kZ (fun hc=>?_) fun hc=>?_|fail)
  obtain ⟨p7, hp7⟩ : ∃ p7, p7 = bk := ⟨_, rfl⟩
  rw [← hp7]
  clear hp7
  refine WC_loop (X := Nat × Nat × Value × List UInt8 × Chunk) (fun x => [(0, x.2.2.1), (1, .slice ba base.length bc), (2, .slice ta t.length tc), (7, .pointer (some ⟨p7, 0, none⟩)), (8, .int .i64 (x.1 : Int)), (9, .int .i64 (x.2.1 : Int))])
    (fun x => x.2.2.2.2 :: [(p7, cl [.slice ba base.length bc, .map (some b)] 58)] :: [(b, .map es c)] :: Cs.flatten :: L)
    (fun x => x.1 ≤ x.2.1 ∧ x.2.1 ≤ t.length ∧ Mk base x.2.2.2.1 (t.take x.1) ∧ x.2.2.2.1.length ≤ x.1 + x.1 / 127 ∧ Ow 5 1 x.2.2.1 (pre ++ x.2.2.2.1).length (bsv (pre ++ x.2.2.2.1)) x.2.2.2.2) (fun x => t.length - x.2.1) (0, 0, r3, [], C3)
    ⟨Nat.le_refl _, Nat.zero_le _, Mk.nil base, Nat.zero_le _, by simpa using o3⟩ iS (fun w h => iH h) ?_
  rintro ⟨dn, at_, v, D, C⟩ ⟨h1, h2, h3, h4, h5⟩
  simp only at h1 h2 h3 h4 h5 ⊢
  have hone := ow_one h5
  (repeat' first|refine kY ?_|refine kU fun bk=>?_|refine kV fun hc=>?_|refine kZ (fun hc=>?_) fun hc=>?_|((fail_if_success (show WC _ _ (Code.seq (Code.region _ _ true) _) _ _ _)); refine WC_seq ?_)|fail)
  · have h8 : at_ + 8 ≤ t.length := by omega
    obtain ⟨r4, q4, e4⟩ := rs_cut (P := Try.prog) (T := 23) ht (l := dn) (h := at_) h1 h2
    obtain ⟨r5, q5, e5⟩ := rs_cut (P := Try.prog) (T := 23) ht (l := at_) (h := t.length) h2 (Nat.le_refl _)
    rw [List.take_of_length_le (by rw [List.length_drop]; exact Nat.le_refl _)] at q5
    have hlg := fun Lx g1 g2 g3 => dlongest_n (.slice ba base.length bc) r4 r5 base ((t.drop dn).take (at_ - dn)) (t.drop at_) b c es G Cs Lx (hrs.sub g1) (q4.sub g1) (q5.sub g1) g2 hM hG g3 (by rw [List.length_drop]; omega) hbl (by rw [List.length_take, List.length_drop]; omega) (by rw [List.length_drop]; omega)
    refine WC_cut (X := Nat × Nat × Nat × Nat) (fun x => [(0, v), (1, .slice ba base.length bc), (2, .slice ta t.length tc), (7, .pointer (some ⟨p7, 0, none⟩)), (8, .int .i64 (dn : Int)), (9, .int .i64 (at_ : Int)), (10, .pointer (some ⟨x.2.2.2, 0, none⟩))])
      (fun x => [(x.2.2.2, cl [.int .i64 (x.1 : Int), .int .i64 (x.2.1 : Int), .int .i64 (x.2.2.1 : Int)] 61)] :: C :: [(p7, cl [.slice ba base.length bc, .map (some b)] 58)] :: [(b, .map es c)] :: Cs.flatten :: L)
      (fun x => (x.1 = 0 ∧ x.2.1 = 0 ∧ x.2.2.1 = 0) ∨ MtOk base ((t.drop dn).take (at_ - dn)) (t.drop at_) x.1 x.2.1 x.2.2.1) ?_ ?_
    · refine WC_drawAll [] mixed ?_
      (refine WR_t 0 ?_; refine WR_t 1 ?_; refine WR_t 2 ?_; refine WR_t 3 ?_)
      (refine WR_take 4 rfl rfl (by kernel_rfl) iP iC (e4 rfl rfl rfl) (by rfl) ?_)
      (refine WR_t 5 ?_; refine WR_t 6 ?_)
      (refine WR_take 7 rfl rfl (by kernel_rfl) iP iC (e5 rfl rfl rfl) (by rfl) ?_)
      refine WR_two 8 9 (by kernel_rfl) rfl rfl rfl rfl ?_ ?_
      · refine OW_call rfl rfl rfl (hlg _ (mem_tail (mem_tail (mem_tail (mem_tail fun x h => h)))) (.there (.there .here)) (mem_tail (mem_tail (mem_tail fun x h => by rw [List.flatten_cons]; exact List.mem_append_left _ h)))) rfl (fun r L' hp => ?_)
        obtain ⟨f, s, bf, rfl, hok, rfl⟩ := hp
        refine ⟨iC, ?_⟩
        (refine WR_one 9 (by kernel_rfl) rfl rfl ?_)
        refine OW_alloc rfl (fun pm => ?_)
        refine ⟨iC, ?_⟩
        (refine WR_one 10 (by kernel_rfl) rfl rfl ?_)
        refine OW_storeAggTo (l := [.int .i64 0, .int .i64 0, .int .i64 0]) (vs := [.int .i64 (f : Int), .int .i64 (s : Int), .int .i64 (bf : Int)]) [.int .i64 (f : Int), .int .i64 (s : Int), .int .i64 (bf : Int)] rfl rfl (by rfl) (by rfl) (by rfl) iU (by simp) ?_
        refine ⟨iC, ?_⟩
        (refine WR_done (by kernel_rfl) ?_)
        (repeat' first|refine kW ?_|refine kU fun bk=>?_|refine kV fun hc=>?_|refine kZ (fun hc=>?_) fun hc=>?_|fail)
        exact WQ_cut (f, s, bf, pm) hok iS (fun w h => h)
      · refine OW_alloc rfl (fun pm => ?_)
        refine ⟨iC, ?_⟩
        (refine WR_one 8 (by kernel_rfl) rfl rfl ?_)
        refine OW_call rfl rfl rfl (hlg _ (mem_tail (mem_tail (mem_tail (mem_tail (mem_tail fun x h => h))))) (.there (.there (.there .here))) (mem_tail (mem_tail (mem_tail (mem_tail fun x h => by rw [List.flatten_cons]; exact List.mem_append_left _ h))))) rfl (fun r L' hp => ?_)
        obtain ⟨f, s, bf, rfl, hok, rfl⟩ := hp
        refine ⟨iC, ?_⟩
        (refine WR_one 10 (by kernel_rfl) rfl rfl ?_)
        refine OW_storeAggTo (l := [.int .i64 0, .int .i64 0, .int .i64 0]) (vs := [.int .i64 (f : Int), .int .i64 (s : Int), .int .i64 (bf : Int)]) [.int .i64 (f : Int), .int .i64 (s : Int), .int .i64 (bf : Int)] rfl rfl (by rfl) (by rfl) (by rfl) iU (by simp) ?_
        refine ⟨iC, ?_⟩
        (refine WR_done (by kernel_rfl) ?_)
        (repeat' first|refine kW ?_|refine kU fun bk=>?_|refine kV fun hc=>?_|refine kZ (fun hc=>?_) fun hc=>?_|fail)
        exact WQ_cut (f, s, bf, pm) hok iS (fun w h => h)
    rintro ⟨f, s, bf, pm⟩ hok
    simp only at hok ⊢
    rcases hok with ⟨rfl, rfl, rfl⟩ | hok
    · (repeat' first|refine kW ?_|refine kU fun bk=>?_|refine kV fun hc=>?_|refine kZ (fun hc=>?_) fun hc=>?_|fail)
      refine WQ_round (X := Nat × Nat × Value × List UInt8 × Chunk) (μ := fun x => t.length - x.2.1) (x := (dn, at_, v, D, C)) (dn, at_ + 1, v, D, C) (by simp only; omega) ⟨by simp only; omega, by simp only; omega, h3, h4, h5⟩ iS (fun w h => iH h)
    · obtain ⟨k1, k2, k3, k4, k5, k6⟩ := hok
      rw [List.length_take, List.length_drop] at k4 k6
      rw [List.length_drop] at k5
      rw [Nat.min_eq_left (by omega)] at k4 k6
      rw [mt_piece h1 h2 k4 k3] at k6
      obtain ⟨r6, q6, e6⟩ := rs_cut (P := Try.prog) (T := 23) ht (l := dn) (h := at_ - bf) (by omega) (by omega)
      have hpl6 : ((t.drop dn).take (at_ - bf - dn)).length = at_ - bf - dn := by rw [List.length_take, List.length_drop]; omega
      have hpd : (pre ++ D).length ≤ 50000000 := by rw [List.length_append]; omega
      (repeat' first|refine kW ?_|refine kU fun bk=>?_|refine kV fun hc=>?_|refine kZ (fun hc=>?_) fun hc=>?_|fail)
      refine OW_EV (e6 rfl rfl (bnd_int rfl (by omega))) rfl ?_
      (repeat' first|refine kW ?_|refine kU fun bk=>?_|refine kV fun hc=>?_|refine kZ (fun hc=>?_) fun hc=>?_|fail)
      refine OW_call rfl rfl rfl (Gv.take (appendins_n v (pre ++ D) r6 ((t.drop dn).take (at_ - bf - dn)) C L _ h5 q6 (mem_tail (mem_tail (mem_tail (mem_tail fun x h => h)))) (by omega) (by omega)) (by repeat (first | exact Take.here | apply Take.there))) rfl (fun r7 L' hp => ?_)
      obtain ⟨D1, C1', hmk1, hd1, o7, rfl⟩ := hp
      rw [hpl6] at hd1
      have hpd2 : (pre ++ D ++ D1).length ≤ 100000000 := by rw [List.length_append]; omega
      (repeat' first|refine kW ?_|refine kU fun bk=>?_|refine kV fun hc=>?_|refine kZ (fun hc=>?_) fun hc=>?_|fail)
      refine OW_call rfl rfl rfl (appendcopies_n base r7 (pre ++ D ++ D1) f s C1' _ o7 hpd2 k2 hbl) rfl (fun r8 L' hp => ?_)
      obtain ⟨D2, C2', hmk2, hd2, o8, rfl⟩ := hp
      replace hd2 := Nat.le_trans hd2 (cpc_le s)
      rw [k6] at hmk2
      (repeat' first|refine kW ?_|refine kU fun bk=>?_|refine kV fun hc=>?_|refine kZ (fun hc=>?_) fun hc=>?_|fail)
      rw [show (at_ : Int) - (bf : Int) + (s : Int) = ((at_ - bf + s : Nat) : Int) from by omega]
      refine WQ_round (X := Nat × Nat × Value × List UInt8 × Chunk) (μ := fun x => t.length - x.2.1) (x := (dn, at_, v, D, C)) (at_ - bf + s, at_ - bf + s, r8, D ++ D1 ++ D2, C2') (by simp only; omega) ⟨Nat.le_refl _, by simp only; omega, ?_, ?_, ?_⟩ iS (fun w h => iH h)
      · have e9 : t.take (at_ - bf) = t.take dn ++ (t.drop dn).take (at_ - bf - dn) := by rw [← take_piece, show dn + (at_ - bf - dn) = at_ - bf from by omega]
        have e10 : t.take (at_ - bf + s) = t.take (at_ - bf) ++ (t.drop (at_ - bf)).take s := take_piece _ _ _
        exact (h3.more (hmk1 base) e9).more hmk2 e10
      · simp only [List.length_append]
        exact mt_bound h4 hd1 hd2 (by omega) (by omega)
      · simp only
        rw [show pre ++ (D ++ D1 ++ D2) = pre ++ D ++ D1 ++ D2 from by simp [List.append_assoc]]
        exact o8
  · obtain ⟨r6, q6, e6⟩ := rs_cut (P := Try.prog) (T := 23) ht (l := dn) (h := t.length) (by omega) (Nat.le_refl _)
    rw [List.take_of_length_le (by rw [List.length_drop]; exact Nat.le_refl _)] at q6
    have hpd : (pre ++ D).length ≤ 50000000 := by rw [List.length_append]; omega
    refine OW_EV (e6 rfl rfl rfl) rfl ?_
    (repeat' first|refine kW ?_|refine kU fun bk=>?_|refine kV fun hc=>?_|refine kZ (fun hc=>?_) fun hc=>?_|fail)
    refine OW_call rfl rfl rfl (appendins_n v (pre ++ D) r6 (t.drop dn) C L _ h5 q6 (mem_tail (mem_tail (mem_tail fun x h => h))) (by omega) (by rw [List.length_drop]; omega)) rfl (fun r7 L' hp => ?_)
    obtain ⟨D1, C1', hmk1, hd1, o7, rfl⟩ := hp
    rw [List.length_drop] at hd1
    (repeat' first|refine kW ?_|refine kU fun bk=>?_|refine kV fun hc=>?_|refine kZ (fun hc=>?_) fun hc=>?_|fail)
    refine kR ?_
    refine ⟨_, iC, D ++ D1, C1', h3.more (hmk1 base) (List.take_append_drop _ _).symm, ?_, ?_, rfl⟩
    · rw [List.length_append]
      exact mt_last h4 (by omega) hd1
    · rw [← List.append_assoc]
      exact o7
end Go.Proofs.Ytckelgpocplplaa
