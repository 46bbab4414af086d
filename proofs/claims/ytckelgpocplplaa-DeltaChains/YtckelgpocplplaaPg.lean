/- Package delta: Make. It proves no statement by itself. No conditions. -/
import Derived.Test.YtckelgpocplplaaWh
import Derived.Test.YtckelgpocplplaaWj
namespace Go.Dl
set_option linter.all false
theorem cm_tail {a b : List UInt8} {j : Nat} (h1 : j ≤ a.length) (h2 : j ≤ b.length) (h : a.drop (a.length - j) = b.drop (b.length - j)) : j ≤ cm a.reverse b.reverse := by
  refine cm_ge j _ _ (by simpa using h1) (by simpa using h2) ?_
  have e := congrArg List.reverse h
  rw [← rev_take, ← rev_take, List.reverse_reverse, List.reverse_reverse] at e
  exact e
theorem cm_tail_eq (a b : List UInt8) {l : Nat} (h : l ≤ cm a.reverse b.reverse) : l ≤ a.length ∧ l ≤ b.length ∧ a.drop (a.length - l) = b.drop (b.length - l) := by
  have h1 := cm_le a.reverse b.reverse
  have h3 := cm_take a.reverse b.reverse
  simp only [List.length_reverse] at h1
  refine ⟨by omega, by omega, ?_⟩
  have e : a.reverse.take l = b.reverse.take l := by
    have := congrArg (List.take l) h3
    rwa [List.take_take, List.take_take, Nat.min_eq_left h] at this
  have e2 := congrArg List.reverse e
  rwa [rev_take, rev_take] at e2
theorem made_len {n f l m d0 d1 d2 : Nat} (hn : n = f + m + l) (h0 : d0 ≤ 4 * (f / 65536) + 6) (h2 : d2 ≤ 4 * (l / 65536) + 6) (hf : f = 0 → d0 = 0) (hl : l = 0 → d2 = 0) (f8 : f = 0 ∨ 8 ≤ f) (l8 : l = 0 ∨ 8 ≤ l) (h1 : d1 ≤ m + m / 127 + 1) : d0 + d1 + d2 ≤ n + n / 127 + 1 := by
  subst hn
  omega
end Go.Dl
namespace Go.Proofs.Ytckelgpocplplaa
open Go Go.Vx Go.Dl
variable [W0]
set_option maxRecDepth 4000
set_option linter.all false
/-- What a delta that was made is worth. -/
structure MadeOk (base t D : List UInt8) : Prop where
  mkt : Mk base D t
  len : D.length ≤ t.length + t.length / 127 + 1
  piece : (∃ f, f + t.length ≤ base.length ∧ (base.drop f).take t.length = t) → 8 ≤ t.length → D.length ≤ 4 * (t.length / 65536) + 6
  tail : base.length = t.length → t.length ≤ 60000 → ∀ k, t.drop k = base.drop k → D.length ≤ k + 7 + (k + 7) / 127 + 13
set_option maxHeartbeats 32000000 in
theorem dmake_n (vb vt : Value) (base t : List UInt8) (L : List Chunk) (hb : Rz L vb base) (ht : Rs L 1 vt t.length (bsv t)) (hm : MxAt L) (hbl : base.length ≤ 16777216) (htl : t.length ≤ 16777216) :
    Gv Try.prog 7 [vb, vt].toArray L (fun r L' => ∃ D C, MadeOk base t D ∧ Ow 5 1 r (num base.length ++ (num t.length ++ D)).length (bsv (num base.length ++ (num t.length ++ D))) C ∧ L' = C :: L) := by
  refine Gv.of_body (args := [vb, vt]) Try.func7 rfl rfl ?_
  have hb' := hb
  obtain ⟨hrs, hz⟩ := hb
  obtain ⟨ba, bc, rfl⟩ := rs_val hrs
  obtain ⟨ta, tc, rfl⟩ := rs_val ht
  have l1 : (num base.length).length ≤ 5 := num_le 4 _ (by omega)
  have l2 : (num t.length).length ≤ 5 := num_le 4 _ (by omega)
  have l0 := num_len base.length
  (repeat' first|refine kW ?_|refine kU fun bk=>?_|refine kV fun hc=>?_|refine kZ (fun hc=>?_) fun hc=>?_|fail)
  refine OW_call rfl rfl rfl (number_n (base.length : Int) _ (by omega)) rfl (fun r1 L' hp => ?_)
  obtain ⟨C1, rfl, o1⟩ := hp
  (repeat' first|refine kW ?_|refine kU fun bk=>?_|refine kV fun hc=>?_|refine kZ (fun hc=>?_) fun hc=>?_|fail)
  refine OW_call rfl rfl rfl (number_n (t.length : Int) _ (by omega)) rfl (fun r2 L' hp => ?_)
  obtain ⟨C2, rfl, o2⟩ := hp
  rw [Int.toNat_natCast] at o1 o2
  obtain ⟨a1, c1, rfl⟩ := ow_slc o1
  obtain ⟨a2, c2, rfl⟩ := ow_slc o2
  (repeat' first|refine kW ?_|refine kU fun bk=>?_|refine kV fun hc=>?_|refine kZ (fun hc=>?_) fun hc=>?_|fail)
  refine OW_buildSlice (cs := [.slice a1 (num base.length).length c1, .slice a2 (num t.length).length c2]) rfl (by rfl) (by first | (simp [fillL, patch, Value.cells, zeros]; done) | (simp [fillL, patch, Value.cells, zeros]; rfl)) (by omega) rfl rfl (fun q => ?_)
  (repeat' first|refine kW ?_|refine kU fun bk=>?_|refine kV fun hc=>?_|refine kZ (fun hc=>?_) fun hc=>?_|fail)
  refine OW_call rfl rfl rfl (concat2_n q _ _ (num base.length) (num t.length) _ Fnd.here (sl_there (sl_there (ow_sl o1))) (sl_there (ow_sl o2)) l0 (by omega) (by omega)) rfl (fun r3 L' hp => ?_)
  obtain ⟨C3, rfl, o3⟩ := hp
  obtain ⟨pre, hpre⟩ : ∃ pre, pre = num base.length ++ num t.length := ⟨_, rfl⟩
  have hpl : pre.length ≤ 10 := by rw [hpre, List.length_append]; omega
  rw [← hpre] at o3
  have hfin : ∀ D : List UInt8, num base.length ++ (num t.length ++ D) = pre ++ D := fun D => by rw [hpre, List.append_assoc]
  refine WL_holds (L' := C3 :: L) (fun w h => iH h) ?_
  (repeat' first|refine kW ?_|refine kU fun bk=>?_|refine kV fun hc=>?_|refine kZ (fun hc=>?_) fun hc=>?_|fail)
  refine OW_callP rfl rfl rfl (bindexw_n (.slice ba base.length bc) (.slice ta t.length tc) base t (C3 :: L) hb'.there ht.there hm.there hbl htl) rfl ?_
  (repeat' first|refine kY ?_|refine kU fun bk=>?_|refine kV fun hc=>?_|refine kZ (fun hc=>?_) fun hc=>?_|fail)
  refine WC_cut (X := Bool) (fun c => [(0, .slice ba base.length bc), (1, .slice ta t.length tc), (5, r3), (6, .int .i64 (Lib.index base t)), (26, .bool c)]) (fun _ => C3 :: L) (fun c => c = true ↔ (0 ≤ Lib.index base t ∧ 8 ≤ t.length)) ?_ ?_
  · (repeat' first|refine kW ?_|refine kU fun bk=>?_|refine kV fun hc=>?_|refine kZ (fun hc=>?_) fun hc=>?_|fail)
    · exact WQ_cut (decide ((t.length : Int) ≥ 8)) (by simp only [decide_eq_true_eq]; omega) iS (fun w h => h)
    · exact WQ_cut false (by simp; omega) iS (fun w h => h)
  intro cc hcc
  cases cc with
  | true =>
    have hx := hcc.1 rfl
    obtain ⟨i, hi1, hi2, hi3⟩ := index_hitL hx.1
    rw [hi1] at hx ⊢
    (repeat' first|refine kW ?_|refine kU fun bk=>?_|refine kV fun hc=>?_|refine kZ (fun hc=>?_) fun hc=>?_|fail)
    refine OW_call rfl rfl rfl (appendcopies_n base r3 pre i t.length C3 L o3 (by omega) hi2 hbl) rfl (fun r4 L' hp => ?_)
    obtain ⟨D, C4, hmk, hdl, o4, rfl⟩ := hp
    rw [hi3] at hmk
    have hcl := cpc_le t.length
    (repeat' first|refine kW ?_|refine kU fun bk=>?_|refine kV fun hc=>?_|refine kZ (fun hc=>?_) fun hc=>?_|fail)
    refine kR ?_
    refine ⟨_, iC, D, C4, ⟨hmk, by omega, fun _ _ => by omega, fun _ _ k _ => by omega⟩, by rw [hfin]; exact o4, rfl⟩
  | false =>
  have hx : ¬ (0 ≤ Lib.index base t ∧ 8 ≤ t.length) := fun h => by cases hcc.2 h
  have hnp : (∃ f, f + t.length ≤ base.length ∧ (base.drop f).take t.length = t) → ¬ 8 ≤ t.length := fun ⟨f, h1, h2⟩ h8 => by
    have : Lib.index base t < 0 := by omega
    exact index_missL this f h1 h2
  have hcm := cm_le base t
  have hct := cm_take base t
  (repeat' first|refine kY ?_|refine kU fun bk=>?_|refine kV fun hc=>?_|refine kZ (fun hc=>?_) fun hc=>?_|fail)
  repeat (refine WC_seq ?_; (repeat' first|refine kY ?_|refine kU fun bk=>?_|refine kV fun hc=>?_|refine kZ (fun hc=>?_) fun hc=>?_|fail))
  refine OW_callP rfl rfl rfl (dcommon_n (.slice ba base.length bc) (.slice ta t.length tc) base t _ (sl_there hrs.sl) (sl_there ht.sl) (by omega) (by omega)) rfl ?_
  (repeat' first|refine kY ?_|refine kU fun bk=>?_|refine kV fun hc=>?_|refine kZ (fun hc=>?_) fun hc=>?_|fail)
  refine WC_cut (X := Nat) (fun f => [(0, .slice ba base.length bc), (1, .slice ta t.length tc), (5, r3), (7, .int .i64 (f : Int))]) (fun _ => C3 :: L) (fun f => f ≤ cm base t ∧ (f = 0 ∨ 8 ≤ f) ∧ (f = 0 → cm base t < 8)) ?_ ?_
  · (repeat' first|refine kW ?_|refine kU fun bk=>?_|refine kV fun hc=>?_|refine kZ (fun hc=>?_) fun hc=>?_|fail)
    · exact WQ_cut 0 ⟨Nat.zero_le _, .inl rfl, by omega⟩ iS (fun w h => h)
    · exact WQ_cut (cm base t) ⟨Nat.le_refl _, .inr (by omega), by omega⟩ iS (fun w h => h)
  rintro f ⟨hf1, hf8, hf0⟩
  have hft : base.take f = t.take f := by
    have := congrArg (List.take f) hct
    rwa [List.take_take, List.take_take, Nat.min_eq_left hf1] at this
  obtain ⟨rb, qb, eb⟩ := rs_cut (P := Try.prog) (T := 23) hrs (l := f) (h := base.length) (by omega) (Nat.le_refl _)
  obtain ⟨rt, qt, et⟩ := rs_cut (P := Try.prog) (T := 23) ht (l := f) (h := t.length) (by omega) (Nat.le_refl _)
  rw [List.take_of_length_le (by rw [List.length_drop]; exact Nat.le_refl _)] at qb qt
  have hbd : (base.drop f).length = base.length - f := List.length_drop
  have htd : (t.drop f).length = t.length - f := List.length_drop
  (repeat' first|refine kY ?_|refine kU fun bk=>?_|refine kV fun hc=>?_|refine kZ (fun hc=>?_) fun hc=>?_|((fail_if_success (show WC _ _ (Code.seq (Code.region _ _ true) _) _ _ _)); refine WC_seq ?_)|fail)
  refine WC_seq ?_
  refine WC_drawAll [] mixed ?_
  (refine WR_t 0 ?_; refine WR_t 1 ?_)
  (refine WR_take 2 rfl rfl (by kernel_rfl) iP iC (eb rfl (bnd_int rfl rfl) rfl) (by rfl) ?_)
  (refine WR_t 3 ?_; refine WR_t 4 ?_)
  (refine WR_take 5 rfl rfl (by kernel_rfl) iP iC (et rfl (bnd_int rfl rfl) rfl) (by rfl) ?_)
  (refine WR_one 6 (by kernel_rfl) rfl rfl ?_)
  refine OW_callP rfl rfl rfl (commonend_n rb rt (base.drop f) (t.drop f) _ (sl_there qb.sl) (sl_there qt.sl) (by omega) (by omega)) rfl ?_
  refine ⟨iC, ?_⟩
  (refine WR_t 7 ?_)
  (refine WR_done (by kernel_rfl) ?_)
  obtain ⟨c, hc0⟩ : ∃ c, c = cm (base.drop f).reverse (t.drop f).reverse := ⟨_, rfl⟩
  rw [← hc0]
  (repeat' first|refine kY ?_|refine kU fun bk=>?_|refine kV fun hc=>?_|refine kZ (fun hc=>?_) fun hc=>?_|fail)
  refine WC_cut (X := Nat) (fun l => [(0, .slice ba base.length bc), (1, .slice ta t.length tc), (5, r3), (7, .int .i64 (f : Int)), (8, .int .i64 (l : Int))]) (fun _ => C3 :: L) (fun l => l ≤ c ∧ (l = 0 ∨ 8 ≤ l) ∧ (l = 0 → c < 8) ∧ (l ≠ 0 → l = c)) ?_ ?_
  · (repeat' first|refine kW ?_|refine kU fun bk=>?_|refine kV fun hc=>?_|refine kZ (fun hc=>?_) fun hc=>?_|fail)
    · exact WQ_cut 0 ⟨Nat.zero_le _, .inl rfl, by omega, by omega⟩ iS (fun w h => h)
    · exact WQ_cut c ⟨Nat.le_refl _, .inr (by omega), by omega, fun _ => rfl⟩ iS (fun w h => h)
  rintro l ⟨hl1, hl8, hl0, hlc⟩
  obtain ⟨g1, g2, g3⟩ := cm_tail_eq (base.drop f) (t.drop f) (l := l) (by omega)
  rw [hbd] at g1 g3
  rw [htd] at g2 g3
  rw [List.drop_drop, List.drop_drop, show f + (base.length - f - l) = base.length - l from by omega, show f + (t.length - f - l) = t.length - l from by omega] at g3
  obtain ⟨m, hm0⟩ : ∃ m, m = t.length - l - f := ⟨_, rfl⟩
  obtain ⟨rm, qm, em⟩ := rs_cut (P := Try.prog) (T := 23) ht (l := f) (h := t.length - l) (by omega) (by omega)
  rw [← hm0] at qm
  have hml : ((t.drop f).take m).length = m := by rw [List.length_take, List.length_drop]; omega
  (repeat' first|refine kW ?_|refine kU fun bk=>?_|refine kV fun hc=>?_|refine kZ (fun hc=>?_) fun hc=>?_|fail)
  refine OW_call rfl rfl rfl (appendcopies_n base r3 pre 0 f C3 L o3 (by omega) (by omega) hbl) rfl (fun r4 L' hp => ?_)
  obtain ⟨D0, C4, hmk0, hdl0, o4, rfl⟩ := hp
  rw [List.drop_zero] at hmk0
  have c0 := cpc_le f
  have hpl4 : (pre ++ D0).length ≤ 30000000 := by rw [List.length_append]; omega
  (repeat' first|refine kW ?_|refine kU fun bk=>?_|refine kV fun hc=>?_|refine kZ (fun hc=>?_) fun hc=>?_|fail)
  refine OW_EV (em rfl (bnd_int rfl rfl) (bnd_int rfl (by omega))) rfl ?_
  (repeat' first|refine kW ?_|refine kU fun bk=>?_|refine kV fun hc=>?_|refine kZ (fun hc=>?_) fun hc=>?_|fail)
  refine OW_call rfl rfl rfl (appendtext_n r4 _ rm (pre ++ D0) base ((t.drop f).take m) C4 L o4 hpl4 hrs qm hbl (by omega)) rfl (fun r5 L' hp => ?_)
  obtain ⟨D1, C5, hmk1, hdl1, o5, rfl⟩ := hp
  rw [hml] at hdl1
  have hpl5 : (pre ++ D0 ++ D1).length ≤ 100000000 := by rw [List.length_append]; omega
  (repeat' first|refine kW ?_|refine kU fun bk=>?_|refine kV fun hc=>?_|refine kZ (fun hc=>?_) fun hc=>?_|fail)
  rw [show (base.length : Int) - (l : Int) = ((base.length - l : Nat) : Int) from by omega]
  refine OW_call rfl rfl rfl (appendcopies_n base r5 (pre ++ D0 ++ D1) (base.length - l) l C5 L o5 hpl5 (by omega) hbl) rfl (fun r6 L' hp => ?_)
  obtain ⟨D2, C6, hmk2, hdl2, o6, rfl⟩ := hp
  have c2 := cpc_le l
  have cf0 : f = 0 → D0.length = 0 := fun h => by rw [h, cpc_zero] at hdl0; omega
  have cl0 : l = 0 → D2.length = 0 := fun h => by rw [h, cpc_zero] at hdl2; omega
  (repeat' first|refine kW ?_|refine kU fun bk=>?_|refine kV fun hc=>?_|refine kZ (fun hc=>?_) fun hc=>?_|fail)
  refine kR ?_
  have el : (base.drop (base.length - l)).take l = t.drop (t.length - l) := by
    rw [g3, List.take_of_length_le (by rw [List.length_drop]; omega)]
  rw [el] at hmk2
  rw [hft] at hmk0
  have e1 : t.take (f + m) = t.take f ++ (t.drop f).take m := take_piece _ _ _
  have e2 : t = t.take (f + m) ++ t.drop (t.length - l) := by
    rw [show f + m = t.length - l from by omega]; exact (List.take_append_drop _ _).symm
  have hDl : (D0 ++ D1 ++ D2).length = D0.length + D1.length + D2.length := by simp only [List.length_append]
  refine ⟨_, iC, D0 ++ D1 ++ D2, C6, ⟨(hmk0.more hmk1 e1).more hmk2 e2, ?_, fun hp h8 => absurd h8 (hnp hp), fun q1 q2 k q3 => ?_⟩, ?_, rfl⟩
  · rw [hDl]
    exact made_len (n := t.length) (f := f) (l := l) (m := m) (by omega) (by omega) (by omega) cf0 cl0 hf8 hl8 hdl1
  · rw [hDl]
    have hj : t.length - k ≤ c ∨ t.length - f ≤ c := by
      rcases Nat.le_total k f with h | h
      · right
        rw [hc0]
        refine cm_tail (by omega) (by omega) ?_
        rw [hbd, htd, q1, Nat.sub_self, List.drop_zero, List.drop_zero]
        have e := congrArg (List.drop (f - k)) q3
        rwa [List.drop_drop, List.drop_drop, show k + (f - k) = f from by omega, eq_comm] at e
      · left
        rw [hc0]
        refine cm_tail (by omega) (by omega) ?_
        rw [hbd, htd, q1, List.drop_drop, List.drop_drop]
        rcases Nat.le_total t.length k with h2 | h2
        · rw [List.drop_of_length_le (by omega), List.drop_of_length_le (by omega)]
        · rw [show f + (t.length - f - (t.length - k)) = k from by omega, q3]
    have hm7 : m ≤ k + 7 := by omega
    omega
  · rw [hfin, ← List.append_assoc, ← List.append_assoc]
    exact o6
end Go.Proofs.Ytckelgpocplplaa
