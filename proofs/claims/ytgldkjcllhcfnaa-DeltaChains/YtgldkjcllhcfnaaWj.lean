/- Package delta: Make. It proves no statement by itself. No conditions. -/
import Derived.Test.YtgldkjcllhcfnaaWh
import Derived.Test.YtgldkjcllhcfnaaWi
namespace Go.Proofs.Ytgldkjcllhcfnaa
open Go Go.Vx Go.Dl
variable [W0]
set_option maxRecDepth 4000
set_option linter.all false
/-- What a delta that was made is worth. -/
structure MadeOk (base t D : List UInt8) : Prop where
  mkt : Mk base D t
  len : D.length ≤ t.length + t.length / 127 + 1
  piece : (∃ f, f + t.length ≤ base.length ∧ (base.drop f).take t.length = t) → 8 ≤ t.length → D.length ≤ 4 * (t.length / 65536) + 6
set_option maxHeartbeats 32000000 in
theorem make_n (vb vt : Value) (base t : List UInt8) (L : List Chunk) (hb : Rz L vb base) (ht : Rs L 1 vt t.length (bsv t)) (hm : MxAt L) (hbl : base.length ≤ 16777216) (htl : t.length ≤ 16777216) :
    Gv Try.prog 11 [vb, vt].toArray L (fun r L' => ∃ D C, MadeOk base t D ∧ Ow 5 1 r (num base.length ++ (num t.length ++ D)).length (bsv (num base.length ++ (num t.length ++ D))) C ∧ L' = C :: L) := by
  refine Gv.of_body (args := [vb, vt]) Try.func11 rfl rfl ?_
  have hb' := hb
  obtain ⟨hrs, hz⟩ := hb
  obtain ⟨ba, bc, rfl⟩ := rs_val hrs
  obtain ⟨ta, tc, rfl⟩ := rs_val ht
  have l1 : (num base.length).length ≤ 5 := num_le 4 _ (by omega)
  have l2 : (num t.length).length ≤ 5 := num_le 4 _ (by omega)
  have l0 := num_len base.length
  (repeat' first|refine kW ?_|refine kU fun bk=>?_|refine kV fun hc=>?_|refine kZ (fun hc=>?_) fun hc=>?_|fail)
  refine OW_call rfl rfl rfl (number_n (base.length : Int) _ (by omega)) rfl (fun r1 L' hp => ?_)
  obtain ⟨C1, rfl, o1⟩ := hp
  (repeat' first|refine kW ?_|refine kU fun bk=>?_|refine kV fun hc=>?_|refine kZ (fun hc=>?_) fun hc=>?_|fail)
  refine OW_call rfl rfl rfl (number_n (t.length : Int) _ (by omega)) rfl (fun r2 L' hp => ?_)
  obtain ⟨C2, rfl, o2⟩ := hp
  rw [Int.toNat_natCast] at o1 o2
  obtain ⟨a1, c1, rfl⟩ := ow_slc o1
  obtain ⟨a2, c2, rfl⟩ := ow_slc o2
  (repeat' first|refine kW ?_|refine kU fun bk=>?_|refine kV fun hc=>?_|refine kZ (fun hc=>?_) fun hc=>?_|fail)
  refine OW_buildSlice (cs := [.slice a1 (num base.length).length c1, .slice a2 (num t.length).length c2]) rfl (by rfl) (by first | (simp [fillL, patch, Value.cells, zeros]; done) | (simp [fillL, patch, Value.cells, zeros]; rfl)) (by omega) rfl rfl (fun q => ?_)
  (repeat' first|refine kW ?_|refine kU fun bk=>?_|refine kV fun hc=>?_|refine kZ (fun hc=>?_) fun hc=>?_|fail)
  refine OW_call rfl rfl rfl (concat2_n q _ _ (num base.length) (num t.length) _ Fnd.here (sl_there (sl_there (ow_sl o1))) (sl_there (ow_sl o2)) l0 (by omega) (by omega)) rfl (fun r3 L' hp => ?_)
  obtain ⟨C3, rfl, o3⟩ := hp
  obtain ⟨pre, hpre⟩ : ∃ pre, pre = num base.length ++ num t.length := ⟨_, rfl⟩
  have hpl : pre.length ≤ 10 := by rw [hpre, List.length_append]; omega
  rw [← hpre] at o3
  have hfin : ∀ D : List UInt8, num base.length ++ (num t.length ++ D) = pre ++ D := fun D => by rw [hpre, List.append_assoc]
  refine WL_holds (L' := C3 :: L) (fun w h => iH h) ?_
  (repeat' first|refine kW ?_|refine kU fun bk=>?_|refine kV fun hc=>?_|refine kZ (fun hc=>?_) fun hc=>?_|fail)
  refine OW_callP rfl rfl rfl (bindexw_n (.slice ba base.length bc) (.slice ta t.length tc) base t (C3 :: L) hb'.there ht.there hm.there hbl htl) rfl ?_
  (repeat' first|refine kY ?_|refine kU fun bk=>?_|refine kV fun hc=>?_|refine kZ (fun hc=>?_) fun hc=>?_|fail)
  refine WC_cut (X := Bool) (fun c => [(0, .slice ba base.length bc), (1, .slice ta t.length tc), (5, r3), (6, .int .i64 (Lib.index base t)), (28, .bool c)]) (fun _ => C3 :: L) (fun c => c = true ↔ (0 ≤ Lib.index base t ∧ 8 ≤ t.length)) ?_ ?_
  · (repeat' first|refine kW ?_|refine kU fun bk=>?_|refine kV fun hc=>?_|refine kZ (fun hc=>?_) fun hc=>?_|fail)
    · exact WQ_cut (decide ((t.length : Int) ≥ 8)) (by simp only [decide_eq_true_eq]; omega) iS (fun w h => h)
    · exact WQ_cut false (by simp; omega) iS (fun w h => h)
  intro cc hcc
  cases cc with
  | true =>
    have hx := hcc.1 rfl
    obtain ⟨i, hi1, hi2, hi3⟩ := index_hitL hx.1
    rw [hi1] at hx ⊢
    (repeat' first|refine kW ?_|refine kU fun bk=>?_|refine kV fun hc=>?_|refine kZ (fun hc=>?_) fun hc=>?_|fail)
    refine OW_call rfl rfl rfl (appendcopies_n base r3 pre i t.length C3 L o3 (by omega) (by omega) hi2 hbl) rfl (fun r4 L' hp => ?_)
    obtain ⟨D, C4, hmk, hdl, o4, rfl⟩ := hp
    rw [hi3] at hmk
    (repeat' first|refine kW ?_|refine kU fun bk=>?_|refine kV fun hc=>?_|refine kZ (fun hc=>?_) fun hc=>?_|fail)
    refine kR ?_
    refine ⟨_, iC, D, C4, ⟨hmk, by omega, fun _ _ => hdl⟩, by rw [hfin]; exact o4, rfl⟩
  | false =>
  have hx : ¬ (0 ≤ Lib.index base t ∧ 8 ≤ t.length) := fun h => by cases hcc.2 h
  have hnp : (∃ f, f + t.length ≤ base.length ∧ (base.drop f).take t.length = t) → ¬ 8 ≤ t.length := fun ⟨f, h1, h2⟩ h8 => by
    have : Lib.index base t < 0 := by omega
    exact index_missL this f h1 h2
  (repeat' first|refine kW ?_|refine kU fun bk=>?_|refine kV fun hc=>?_|refine kZ (fun hc=>?_) fun hc=>?_|fail)
  refine OW_call rfl rfl rfl (indexof_n (.slice ba base.length bc) base (C3 :: L) hrs.there hbl) rfl (fun r L' hp => ?_)
  obtain ⟨b, es, c, G, Cs, rfl, hM, hG, rfl⟩ := hp
  (repeat' first|refine kW ?_|refine kU fun bk=>?_|refine kV fun hc=>?_|refine kZ (fun hc=>?_) fun hc=>?_|fail)
  obtain ⟨p7, hp7⟩ : ∃ p7, p7 = bk := ⟨_, rfl⟩
  rw [← hp7]
  clear hp7
  refine WC_loop (X := Nat × Nat × Value × List UInt8 × Chunk) (fun x => [(0, .slice ba base.length bc), (1, .slice ta t.length tc), (5, x.2.2.1), (7, .pointer (some ⟨p7, 0, none⟩)), (8, .int .i64 (x.1 : Int)), (9, .int .i64 (x.2.1 : Int))])
    (fun x => x.2.2.2.2 :: [(p7, cl [.slice ba base.length bc, .map (some b)] 53)] :: [(b, .map es c)] :: Cs.flatten :: L)
    (fun x => x.1 ≤ x.2.1 ∧ x.2.1 ≤ t.length ∧ Mk base x.2.2.2.1 (t.take x.1) ∧ x.2.2.2.1.length ≤ x.1 + x.1 / 127 ∧ Ow 5 1 x.2.2.1 (pre ++ x.2.2.2.1).length (bsv (pre ++ x.2.2.2.1)) x.2.2.2.2) (fun x => t.length - x.2.1) (0, 0, r3, [], C3)
    ⟨Nat.le_refl _, Nat.zero_le _, Mk.nil base, Nat.zero_le _, by simpa using o3⟩ iS (fun w h => iH h) ?_
  rintro ⟨dn, at_, v, D, C⟩ ⟨h1, h2, h3, h4, h5⟩
  simp only at h1 h2 h3 h4 h5 ⊢
  have hone := ow_one h5
  (repeat' first|refine kY ?_|refine kU fun bk=>?_|refine kV fun hc=>?_|refine kZ (fun hc=>?_) fun hc=>?_|((fail_if_success (show WC _ _ (Code.seq (Code.region _ _ true) _) _ _ _)); refine WC_seq ?_)|fail)
  · have h8 : at_ + 8 ≤ t.length := by omega
    obtain ⟨r4, q4, e4⟩ := rs_cut (P := Try.prog) (T := 22) ht (l := dn) (h := at_) h1 h2
    obtain ⟨r5, q5, e5⟩ := rs_cut (P := Try.prog) (T := 22) ht (l := at_) (h := t.length) h2 (Nat.le_refl _)
    rw [List.take_of_length_le (by rw [List.length_drop]; exact Nat.le_refl _)] at q5
    have hlg := fun Lx g1 g2 g3 => longest_n (.slice ba base.length bc) r4 r5 base ((t.drop dn).take (at_ - dn)) (t.drop at_) b c es G Cs Lx (hrs.sub g1) (q4.sub g1) (q5.sub g1) g2 hM hG g3 (by rw [List.length_drop]; omega) hbl (by rw [List.length_take, List.length_drop]; omega) (by rw [List.length_drop]; omega)
    refine WC_cut (X := Nat × Nat × Nat × Nat) (fun x => [(0, .slice ba base.length bc), (1, .slice ta t.length tc), (5, v), (7, .pointer (some ⟨p7, 0, none⟩)), (8, .int .i64 (dn : Int)), (9, .int .i64 (at_ : Int)), (10, .pointer (some ⟨x.2.2.2, 0, none⟩))])
      (fun x => [(x.2.2.2, cl [.int .i64 (x.1 : Int), .int .i64 (x.2.1 : Int), .int .i64 (x.2.2.1 : Int)] 56)] :: C :: [(p7, cl [.slice ba base.length bc, .map (some b)] 53)] :: [(b, .map es c)] :: Cs.flatten :: L)
      (fun x => (x.1 = 0 ∧ x.2.1 = 0 ∧ x.2.2.1 = 0) ∨ MtOk base ((t.drop dn).take (at_ - dn)) (t.drop at_) x.1 x.2.1 x.2.2.1) ?_ ?_
    · refine WC_drawAll [] mixed ?_
      (refine WR_t 0 ?_; refine WR_t 1 ?_; refine WR_t 2 ?_; refine WR_t 3 ?_)
      (refine WR_take 4 rfl rfl (by kernel_rfl) iP iC (e4 rfl rfl rfl) (by rfl) ?_)
      (refine WR_t 5 ?_; refine WR_t 6 ?_)
      (refine WR_take 7 rfl rfl (by kernel_rfl) iP iC (e5 rfl rfl rfl) (by rfl) ?_)
      refine WR_two 8 9 (by kernel_rfl) rfl rfl rfl rfl ?_ ?_
      · refine OW_call rfl rfl rfl (hlg _ (mem_tail (mem_tail (mem_tail (mem_tail fun x h => h)))) (.there (.there .here)) (mem_tail (mem_tail (mem_tail fun x h => by rw [List.flatten_cons]; exact List.mem_append_left _ h)))) rfl (fun r L' hp => ?_)
        obtain ⟨f, s, bf, rfl, hok, rfl⟩ := hp
        refine ⟨iC, ?_⟩
        (refine WR_one 9 (by kernel_rfl) rfl rfl ?_)
        refine OW_alloc rfl (fun pm => ?_)
        refine ⟨iC, ?_⟩
        (refine WR_one 10 (by kernel_rfl) rfl rfl ?_)
        refine OW_storeAggTo (l := [.int .i64 0, .int .i64 0, .int .i64 0]) (vs := [.int .i64 (f : Int), .int .i64 (s : Int), .int .i64 (bf : Int)]) [.int .i64 (f : Int), .int .i64 (s : Int), .int .i64 (bf : Int)] rfl rfl (by rfl) (by rfl) (by rfl) iU (by simp) ?_
        refine ⟨iC, ?_⟩
        (refine WR_done (by kernel_rfl) ?_)
        (repeat' first|refine kW ?_|refine kU fun bk=>?_|refine kV fun hc=>?_|refine kZ (fun hc=>?_) fun hc=>?_|fail)
        exact WQ_cut (f, s, bf, pm) hok iS (fun w h => h)
      · refine OW_alloc rfl (fun pm => ?_)
        refine ⟨iC, ?_⟩
        (refine WR_one 8 (by kernel_rfl) rfl rfl ?_)
        refine OW_call rfl rfl rfl (hlg _ (mem_tail (mem_tail (mem_tail (mem_tail (mem_tail fun x h => h))))) (.there (.there (.there .here))) (mem_tail (mem_tail (mem_tail (mem_tail fun x h => by rw [List.flatten_cons]; exact List.mem_append_left _ h))))) rfl (fun r L' hp => ?_)
        obtain ⟨f, s, bf, rfl, hok, rfl⟩ := hp
        refine ⟨iC, ?_⟩
        (refine WR_one 10 (by kernel_rfl) rfl rfl ?_)
        refine OW_storeAggTo (l := [.int .i64 0, .int .i64 0, .int .i64 0]) (vs := [.int .i64 (f : Int), .int .i64 (s : Int), .int .i64 (bf : Int)]) [.int .i64 (f : Int), .int .i64 (s : Int), .int .i64 (bf : Int)] rfl rfl (by rfl) (by rfl) (by rfl) iU (by simp) ?_
        refine ⟨iC, ?_⟩
        (refine WR_done (by kernel_rfl) ?_)
        (repeat' first|refine kW ?_|refine kU fun bk=>?_|refine kV fun hc=>?_|refine kZ (fun hc=>?_) fun hc=>?_|fail)
        exact WQ_cut (f, s, bf, pm) hok iS (fun w h => h)
    rintro ⟨f, s, bf, pm⟩ hok
    simp only at hok ⊢
    rcases hok with ⟨rfl, rfl, rfl⟩ | hok
    · (repeat' first|refine kW ?_|refine kU fun bk=>?_|refine kV fun hc=>?_|refine kZ (fun hc=>?_) fun hc=>?_|fail)
      refine WQ_round (X := Nat × Nat × Value × List UInt8 × Chunk) (μ := fun x => t.length - x.2.1) (x := (dn, at_, v, D, C)) (dn, at_ + 1, v, D, C) (by simp only; omega) ⟨by simp only; omega, by simp only; omega, h3, h4, h5⟩ iS (fun w h => iH h)
    · obtain ⟨k1, k2, k3, k4, k5, k6⟩ := hok
      rw [List.length_take, List.length_drop] at k4 k6
      rw [List.length_drop] at k5
      rw [Nat.min_eq_left (by omega)] at k4 k6
      rw [mt_piece h1 h2 k4 k3] at k6
      obtain ⟨r6, q6, e6⟩ := rs_cut (P := Try.prog) (T := 22) ht (l := dn) (h := at_ - bf) (by omega) (by omega)
      have hpl6 : ((t.drop dn).take (at_ - bf - dn)).length = at_ - bf - dn := by rw [List.length_take, List.length_drop]; omega
      have hpd : (pre ++ D).length ≤ 50000000 := by rw [List.length_append]; omega
      (repeat' first|refine kW ?_|refine kU fun bk=>?_|refine kV fun hc=>?_|refine kZ (fun hc=>?_) fun hc=>?_|fail)
      refine OW_EV (e6 rfl rfl (bnd_int rfl (by omega))) rfl ?_
      (repeat' first|refine kW ?_|refine kU fun bk=>?_|refine kV fun hc=>?_|refine kZ (fun hc=>?_) fun hc=>?_|fail)
      refine OW_call rfl rfl rfl (Gv.take (appendins_n v (pre ++ D) r6 ((t.drop dn).take (at_ - bf - dn)) C L _ h5 q6 (mem_tail (mem_tail (mem_tail (mem_tail fun x h => h)))) (by omega) (by omega)) (by repeat (first | exact Take.here | apply Take.there))) rfl (fun r7 L' hp => ?_)
      obtain ⟨D1, C1', hmk1, hd1, o7, rfl⟩ := hp
      rw [hpl6] at hd1
      have hpd2 : (pre ++ D ++ D1).length ≤ 100000000 := by rw [List.length_append]; omega
      (repeat' first|refine kW ?_|refine kU fun bk=>?_|refine kV fun hc=>?_|refine kZ (fun hc=>?_) fun hc=>?_|fail)
      refine OW_call rfl rfl rfl (appendcopies_n base r7 (pre ++ D ++ D1) f s C1' _ o7 hpd2 (by omega) k2 hbl) rfl (fun r8 L' hp => ?_)
      obtain ⟨D2, C2', hmk2, hd2, o8, rfl⟩ := hp
      rw [k6] at hmk2
      (repeat' first|refine kW ?_|refine kU fun bk=>?_|refine kV fun hc=>?_|refine kZ (fun hc=>?_) fun hc=>?_|fail)
      rw [show (at_ : Int) - (bf : Int) + (s : Int) = ((at_ - bf + s : Nat) : Int) from by omega]
      refine WQ_round (X := Nat × Nat × Value × List UInt8 × Chunk) (μ := fun x => t.length - x.2.1) (x := (dn, at_, v, D, C)) (at_ - bf + s, at_ - bf + s, r8, D ++ D1 ++ D2, C2') (by simp only; omega) ⟨Nat.le_refl _, by simp only; omega, ?_, ?_, ?_⟩ iS (fun w h => iH h)
      · have e9 : t.take (at_ - bf) = t.take dn ++ (t.drop dn).take (at_ - bf - dn) := by rw [← take_piece, show dn + (at_ - bf - dn) = at_ - bf from by omega]
        have e10 : t.take (at_ - bf + s) = t.take (at_ - bf) ++ (t.drop (at_ - bf)).take s := take_piece _ _ _
        exact (h3.more (hmk1 base) e9).more hmk2 e10
      · simp only [List.length_append]
        exact mt_bound h4 hd1 hd2 (by omega) (by omega)
      · simp only
        rw [show pre ++ (D ++ D1 ++ D2) = pre ++ D ++ D1 ++ D2 from by simp [List.append_assoc]]
        exact o8
  · obtain ⟨r6, q6, e6⟩ := rs_cut (P := Try.prog) (T := 22) ht (l := dn) (h := t.length) (by omega) (Nat.le_refl _)
    rw [List.take_of_length_le (by rw [List.length_drop]; exact Nat.le_refl _)] at q6
    have hpd : (pre ++ D).length ≤ 50000000 := by rw [List.length_append]; omega
    refine OW_EV (e6 rfl rfl rfl) rfl ?_
    (repeat' first|refine kW ?_|refine kU fun bk=>?_|refine kV fun hc=>?_|refine kZ (fun hc=>?_) fun hc=>?_|fail)
    refine OW_call rfl rfl rfl (appendins_n v (pre ++ D) r6 (t.drop dn) C L _ h5 q6 (mem_tail (mem_tail (mem_tail fun x h => h))) (by omega) (by rw [List.length_drop]; omega)) rfl (fun r7 L' hp => ?_)
    obtain ⟨D1, C1', hmk1, hd1, o7, rfl⟩ := hp
    rw [List.length_drop] at hd1
    (repeat' first|refine kW ?_|refine kU fun bk=>?_|refine kV fun hc=>?_|refine kZ (fun hc=>?_) fun hc=>?_|fail)
    refine kR ?_
    refine ⟨_, iC, D ++ D1, C1', ⟨h3.more (hmk1 base) (List.take_append_drop _ _).symm, ?_, fun hp h8 => absurd h8 (hnp hp)⟩, ?_, rfl⟩
    · rw [List.length_append]
      exact mt_last h4 (by omega) hd1
    · rw [hfin, ← List.append_assoc]
      exact o7
end Go.Proofs.Ytgldkjcllhcfnaa
