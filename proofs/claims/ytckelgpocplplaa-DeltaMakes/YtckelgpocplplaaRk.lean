/- Package delta: Apply. It proves no statement by itself. No conditions. -/
import Derived.Test.YtckelgpocplplaaRj
namespace Go.Proofs.Ytckelgpocplplaa
open Go Go.Vx Go.Dl
variable [W0]
set_option maxRecDepth 4000
set_option linter.all false
set_option maxHeartbeats 4000000 in
theorem dstep_n (p : Nat) (vb vr vo : Value) (to : Nat) (c : UInt8) (base d out : List UInt8) (C : Chunk) (L0 L : List Chunk) (hb : Rs L0 1 vb base.length (bsv base)) (hr : Rs L0 1 vr (c :: d).length (bsv (c :: d))) (ho : Ow 5 1 vo out.length (bsv out) C)
    (hi : ∀ x ∈ L0.flatten, x ∈ L.flatten) (hl : d.length ≤ 140737488355328) (hbl : base.length ≤ 140737488355328) (hto : to ≤ 2147483647) (hot : out.length ≤ to) :
    Gv Try.prog 34 [.pointer (some ⟨p, 0, none⟩)].toArray (rsC p vb vr vo to :: C :: L) (StR base to L0 L p vb (c :: d) out) := by
  refine Gv.of_body (args := [.pointer (some ⟨p, 0, none⟩)]) Try.func34 rfl rfl ?_
  have hcl := c.toNat_lt
  (repeat' first|refine kW ?_|refine kU fun bk=>?_|refine kV fun hc=>?_|refine kZ (fun hc=>?_) fun hc=>?_|fail)
  refine OW_call rfl rfl rfl (dtake_n p vb vr vo to 1 (c :: d) L0 (C :: L) hr (by simp)) rfl (fun r L' hp => ?_)
  obtain ⟨vr', g1, g2, rfl⟩ := hp
  obtain ⟨b, off, cap, cc, T, fr, rfl, hfn, hcell⟩ := sl_at (sl_sub (mem_tail (C := rsC p vb vr' vo to) (mem_tail (C := C) hi)) g1.sl) (k := 0) (u := .int .u8 (c.toNat : Int)) rfl
  have g3 : Rs L0 1 vr' d.length (bsv d) := by simpa using g2
  (repeat' first|refine kW ?_|refine kU fun bk=>?_|refine kV fun hc=>?_|refine kZ (fun hc=>?_) fun hc=>?_|fail)
  refine OW_EV (EV_indexAddr (j := 0) rfl rfl rfl (by omega)) rfl ?_
  (repeat' first|refine kW ?_|refine kU fun bk=>?_|refine kV fun hc=>?_|refine kZ (fun hc=>?_) fun hc=>?_|fail)
  refine OW_EV (EV_load rfl hfn hcell) rfl ?_
  (repeat' first|refine kW ?_|refine kU fun bk=>?_|refine kV fun hc=>?_|refine kZ (fun hc=>?_) fun hc=>?_|fail)
  · refine kR ?_
    exact ⟨_, iC, .inl ⟨3, by decide, rfl, ap_zero base to d.length c d out (by omega), rfl⟩⟩
  · refine OW_call rfl rfl rfl (dcopy_n p vb vr' vo to c base d out C L0 L hb g3 ho hi hl hbl hto hot (by omega)) rfl (fun r L' hp => ?_)
    (repeat' first|refine kW ?_|refine kU fun bk=>?_|refine kV fun hc=>?_|refine kZ (fun hc=>?_) fun hc=>?_|fail)
    refine kR ?_
    exact ⟨_, iC, hp⟩
  · refine OW_call rfl rfl rfl (dinsert_n p vb vr' vo to c base d out C L0 L g3 ho hi hl hto hot (by omega) (by omega)) rfl (fun r L' hp => ?_)
    (repeat' first|refine kW ?_|refine kU fun bk=>?_|refine kV fun hc=>?_|refine kZ (fun hc=>?_) fun hc=>?_|fail)
    refine kR ?_
    exact ⟨_, iC, hp⟩
set_option maxHeartbeats 4000000 in
theorem dexec_n (p : Nat) (vb vr vo : Value) (to : Nat) (base d out : List UInt8) (C : Chunk) (L0 L : List Chunk) (hb : Rs L0 1 vb base.length (bsv base)) (hr : Rs L0 1 vr d.length (bsv d)) (ho : Ow 5 1 vo out.length (bsv out) C)
    (hi : ∀ x ∈ L0.flatten, x ∈ L.flatten) (hl : d.length ≤ 140737488355328) (hbl : base.length ≤ 140737488355328) (hto : to ≤ 2147483647) (hot : out.length ≤ to) :
    Gv Try.prog 19 [.pointer (some ⟨p, 0, none⟩)].toArray (rsC p vb vr vo to :: C :: L) (fun r L' =>
      (∃ e : Nat, e ≠ 0 ∧ r = .int .i64 (e : Int) ∧ ap base to d.length d out = ([], e) ∧ L' = L) ∨
      (r = .int .i64 0 ∧ ∃ (out' : List UInt8) (vr' vo' : Value) (C' : Chunk), ap base to d.length d out = (out', 0) ∧ out'.length ≤ to ∧ Ow 5 1 vo' out'.length (bsv out') C' ∧ L' = rsC p vb vr' vo' to :: C' :: L)) := by
  refine Gv.of_body (args := [.pointer (some ⟨p, 0, none⟩)]) Try.func19 rfl rfl ?_
  (repeat' first|refine kW ?_|refine kU fun bk=>?_|refine kV fun hc=>?_|refine kZ (fun hc=>?_) fun hc=>?_|fail)
  refine WC_loop (X := List UInt8 × List UInt8 × Value × Value × Chunk) (fun x => [(0, .pointer (some ⟨p, 0, none⟩))]) (fun x => rsC p vb x.2.2.1 x.2.2.2.1 to :: x.2.2.2.2 :: L)
    (fun x => x.1.length ≤ 140737488355328 ∧ x.2.1.length ≤ to ∧ ap base to d.length d out = ap base to x.1.length x.1 x.2.1 ∧ Rs L0 1 x.2.2.1 x.1.length (bsv x.1) ∧ Ow 5 1 x.2.2.2.1 x.2.1.length (bsv x.2.1) x.2.2.2.2) (fun x => x.1.length) (d, out, vr, vo, C)
    ⟨hl, hot, rfl, hr, ho⟩ iS (fun w h => h) ?_
  rintro ⟨e, o, vq, vp, D⟩ ⟨h1, h2, h3, h4, h5⟩
  simp only at h1 h2 h3 h4 h5 ⊢
  obtain ⟨qa, qc, rfl⟩ := rs_val h4
  cases e with
  | nil =>
    obtain ⟨pa, pc, rfl⟩ := ow_slc h5
    have hroom := room_n p vb (.slice qa 0 qc) pa o.length pc to (D :: L) h2 (by omega)
    simp only [List.length_nil] at *
    rw [ap] at h3
    unfold rsC at hroom ⊢
    (repeat' first|refine kW ?_|refine kU fun bk=>?_|refine kV fun hc=>?_|refine kZ (fun hc=>?_) fun hc=>?_|fail)
    refine OW_callP rfl rfl rfl hroom rfl ?_
    (repeat' first|refine kW ?_|refine kU fun bk=>?_|refine kV fun hc=>?_|refine kZ (fun hc=>?_) fun hc=>?_|fail)
    · rw [if_pos (by omega)] at h3
      refine kR ?_
      exact ⟨_, iC, .inl ⟨3, by decide, rfl, h3, rfl⟩⟩
    · rw [if_neg (by omega)] at h3
      refine kR ?_
      exact ⟨_, iC, .inr ⟨rfl, o, _, _, _, h3, h2, h5, rfl⟩⟩
  | cons c e =>
    have hst := dstep_n p vb (.slice qa (c :: e).length qc) vp to c base e o D L0 L hb h4 h5 hi (by simp only [List.length_cons] at h1; omega) hbl hto h2
    have hpos : 0 < (c :: e).length := by simp
    generalize hn : (c :: e).length = N at *
    unfold rsC at hst ⊢
    (repeat' first|refine kW ?_|refine kU fun bk=>?_|refine kV fun hc=>?_|refine kZ (fun hc=>?_) fun hc=>?_|fail)
    refine OW_call rfl rfl rfl hst rfl (fun r L' hp => ?_)
    rcases hp with ⟨k, hk, rfl, g1, rfl⟩ | ⟨rfl, e', o', vr', vo', C', g1, g2, g3, g4, g5, rfl⟩
    · rw [hn] at g1
      rw [g1] at h3
      (repeat' first|refine kW ?_|refine kU fun bk=>?_|refine kV fun hc=>?_|refine kZ (fun hc=>?_) fun hc=>?_|fail)
      · refine kR ?_
        exact ⟨_, iC, .inl ⟨k, hk, rfl, h3, rfl⟩⟩
    · rw [hn] at g1 g3
      rw [g3] at h3
      (repeat' first|refine kW ?_|refine kU fun bk=>?_|refine kV fun hc=>?_|refine kZ (fun hc=>?_) fun hc=>?_|fail)
      subst hn
      refine WQ_round (X := List UInt8 × List UInt8 × Value × Value × Chunk) (μ := fun x => x.1.length) (x := (c :: e, o, .slice qa (c :: e).length qc, vp, D)) (e', o', vr', vo', C') (by simp only; omega) ⟨by simp only; omega, g2, h3, g4, g5⟩ iS (fun w h => h)

set_option maxHeartbeats 4000000 in
theorem dapply_n (vb vd : Value) (base d : List UInt8) (most : Int) (L : List Chunk) (hb : Rs L 1 vb base.length (bsv base)) (hd : Rs L 1 vd d.length (bsv d)) (hl : d.length ≤ 140737488355328) (hbl : base.length ≤ 140737488355328) :
    Gv Try.prog 9 [vb, vd, .int .i64 most].toArray L (fun r L' => ∃ v C, r = .tuple #[v, .int .i64 ((apP base d most.toNat).2 : Int)] ∧ Ow 5 1 v (apP base d most.toNat).1.length (bsv (apP base d most.toNat).1) C ∧ L' = C :: L) := by
  refine Gv.of_body (args := [vb, vd, .int .i64 most]) Try.func9 rfl rfl ?_
  have hnil : Ow 5 1 (.slice none 0 0) ([] : List UInt8).length (bsv []) [] := .inl ⟨rfl, rfl, rfl, rfl⟩
  have hFT := szF_le d
  have hdl := szD_len d
  obtain ⟨ba, bc, rfl⟩ := rs_val hb
  (repeat' first|refine kW ?_|refine kU fun bk=>?_|refine kV fun hc=>?_|refine kZ (fun hc=>?_) fun hc=>?_|fail)
  refine OW_call rfl rfl rfl (dsizes_n vd d L hd hl) rfl (fun r L' hp => ?_)
  obtain ⟨v1, rfl, g1, rfl⟩ := hp
  obtain ⟨a1, c1, rfl⟩ := rs_val g1
  unfold apP
  by_cases hE : szE d = 0
  · rw [hE, if_neg (by simp)]
    (repeat' first|refine kW ?_|refine kU fun bk=>?_|refine kV fun hc=>?_|refine kZ (fun hc=>?_) fun hc=>?_|fail)
    · rw [if_pos (by omega)]
      first | refine WQ_retH rfl rfl ?_ | refine WQ_endH rfl rfl ?_
      exact ⟨[] :: L', fun w h => Holds.nil.2 h, _, [], rfl, hnil, rfl⟩
    · rw [if_neg (by omega), if_pos (by omega)]
      first | refine WQ_retH rfl rfl ?_ | refine WQ_endH rfl rfl ?_
      exact ⟨[] :: L', fun w h => Holds.nil.2 h, _, [], rfl, hnil, rfl⟩
    rw [if_neg (by omega), if_neg (by omega)]
    have hx := fun p => dexec_n p (.slice ba base.length bc) (.slice a1 (szD d).length c1) (.slice none 0 0) (szT d) base (szD d) [] [] L' L' hb g1 hnil (fun x h => h) (by omega) hbl hFT.2 (Nat.zero_le _)
    unfold rsC at hx
    refine OW_call rfl rfl rfl (Gv.holds (hx bk) (fun w h => Holds.gap.2 h)) rfl (fun r L' hp => ?_)
    rcases hp with ⟨k, hk, rfl, g2, rfl⟩ | ⟨rfl, o', vr', vo', C', g2, g3, g4, rfl⟩
    · rw [g2]
      (repeat' first|refine kW ?_|refine kU fun bk=>?_|refine kV fun hc=>?_|refine kZ (fun hc=>?_) fun hc=>?_|fail)
      first | refine WQ_retH rfl rfl ?_ | refine WQ_endH rfl rfl ?_
      exact ⟨[] :: _, fun w h => Holds.nil.2 h, _, [], rfl, hnil, rfl⟩
    · rw [g2]
      (repeat' first|refine kW ?_|refine kU fun bk=>?_|refine kV fun hc=>?_|refine kZ (fun hc=>?_) fun hc=>?_|fail)
      refine kR ?_
      exact ⟨_, iC, vo', C', rfl, g4, rfl⟩
  · rw [if_pos hE]
    (repeat' first|refine kW ?_|refine kU fun bk=>?_|refine kV fun hc=>?_|refine kZ (fun hc=>?_) fun hc=>?_|fail)
    first | refine WQ_retH rfl rfl ?_ | refine WQ_endH rfl rfl ?_
    exact ⟨[] :: L', fun w h => Holds.nil.2 h, _, [], rfl, hnil, rfl⟩
end Go.Proofs.Ytckelgpocplplaa
