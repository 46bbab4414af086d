/- The document's own answer for layer 10: sizes, fields. It proves no statement by itself. No conditions. -/
import Derived.Test.YtckelgpocplplaaRl
namespace Go.Proofs.Ytckelgpocplplaa
open Go Go.Vx Go.Dl
variable [W0]
set_option maxRecDepth 4000
set_option linter.all false
set_option maxHeartbeats 4000000 in
theorem refsizes_n (v : Value) (d : List UInt8) (L : List Chunk) (h : Rs L 1 v d.length (bsv d)) (hl : d.length ≤ 140737488355328) :
    GvP Try.prog 20 [v].toArray L (.agg #[.int .i64 (hdF d : Int), .int .i64 (hdT d : Int), .int .i64 (hdU d : Int), .int .i64 (hdE d : Int)]) := by
  refine Gv.of_body (args := [v]) Try.func20 rfl rfl ?_
  have hle := rn_le d
  obtain ⟨r1, q1, e1⟩ := rs_cut (P := Try.prog) (T := 23) h (l := (rn d).2.1) (h := d.length) hle (Nat.le_refl _)
  rw [List.take_of_length_le (by rw [List.length_drop]; exact Nat.le_refl _)] at q1
  have hle2 := rn_le (d.drop (rn d).2.1)
  have hdl : (d.drop (rn d).2.1).length ≤ d.length := by rw [List.length_drop]; omega
  have w1 := fun L h => refnum_n v d L h hl
  have w2 := fun L h => refnum_n r1 (d.drop (rn d).2.1) L h (by omega)
  obtain ⟨va, vc, rfl⟩ := rs_val h
  unfold hdF hdT hdU hdE
  by_cases hE : (rn d).2.2 = 0
  · simp only [hE, true_and, if_true]
    rw [hE] at w1
    by_cases hE2 : (rn (d.drop (rn d).2.1)).2.2 = 0
    · simp only [hE2, if_true]
      rw [hE2] at w2
      (repeat' first|refine kW ?_|refine kU fun bk=>?_|refine kV fun hc=>?_|refine kZ (fun hc=>?_) fun hc=>?_|fail)
      refine OW_callP rfl rfl rfl (w1 _ (sl_there h.sl)) rfl ?_
      (repeat' first|refine kW ?_|refine kU fun bk=>?_|refine kV fun hc=>?_|refine kZ (fun hc=>?_) fun hc=>?_|fail)
      refine OW_EV (e1 rfl rfl rfl) rfl ?_
      (repeat' first|refine kW ?_|refine kU fun bk=>?_|refine kV fun hc=>?_|refine kZ (fun hc=>?_) fun hc=>?_|fail)
      refine OW_callP rfl rfl rfl (w2 _ (sl_there q1.sl)) rfl ?_
      (repeat' first|refine kW ?_|refine kU fun bk=>?_|refine kV fun hc=>?_|refine kZ (fun hc=>?_) fun hc=>?_|fail)
      rw [← Int.natCast_add]
      first
        | (refine WQ_retC (vs := [.agg #[.int .i64 ((rn d).1 : Int), .int .i64 ((rn (d.drop (rn d).2.1)).1 : Int), .int .i64 (((rn d).2.1 + (rn (d.drop (rn d).2.1)).2.1 : Nat) : Int), .int .i64 0]]) rfl (.agg ⟨by kernel_rfl, by kernel_rfl⟩ rfl (RdAt.cl' (vs := [.int .i64 ((rn d).1 : Int), .int .i64 ((rn (d.drop (rn d).2.1)).1 : Int), .int .i64 (((rn d).2.1 + (rn (d.drop (rn d).2.1)).2.1 : Nat) : Int), .int .i64 0]) (by repeat (first | assumption | exact Fnd.here | refine Fnd.there ?_)) rfl) rfl .nil) ?_
           exact ⟨L, fun w h => iH h, rfl, rfl⟩)
        | (refine WQ_endC (vs := [.agg #[.int .i64 ((rn d).1 : Int), .int .i64 ((rn (d.drop (rn d).2.1)).1 : Int), .int .i64 (((rn d).2.1 + (rn (d.drop (rn d).2.1)).2.1 : Nat) : Int), .int .i64 0]]) rfl (.agg ⟨by kernel_rfl, by kernel_rfl⟩ rfl (RdAt.cl' (vs := [.int .i64 ((rn d).1 : Int), .int .i64 ((rn (d.drop (rn d).2.1)).1 : Int), .int .i64 (((rn d).2.1 + (rn (d.drop (rn d).2.1)).2.1 : Nat) : Int), .int .i64 0]) (by repeat (first | assumption | exact Fnd.here | refine Fnd.there ?_)) rfl) rfl .nil) ?_
           exact ⟨L, fun w h => iH h, rfl, rfl⟩)
    · simp only [if_neg hE2]
      obtain ⟨k, hk⟩ : ∃ k, k = (rn (d.drop (rn d).2.1)).2.2 := ⟨_, rfl⟩
      rw [← hk] at hE2 w2 ⊢
      (repeat' first|refine kW ?_|refine kU fun bk=>?_|refine kV fun hc=>?_|refine kZ (fun hc=>?_) fun hc=>?_|fail)
      refine OW_callP rfl rfl rfl (w1 _ (sl_there h.sl)) rfl ?_
      (repeat' first|refine kW ?_|refine kU fun bk=>?_|refine kV fun hc=>?_|refine kZ (fun hc=>?_) fun hc=>?_|fail)
      refine OW_EV (e1 rfl rfl rfl) rfl ?_
      (repeat' first|refine kW ?_|refine kU fun bk=>?_|refine kV fun hc=>?_|refine kZ (fun hc=>?_) fun hc=>?_|fail)
      refine OW_callP rfl rfl rfl (w2 _ (sl_there q1.sl)) rfl ?_
      (repeat' first|refine kW ?_|refine kU fun bk=>?_|refine kV fun hc=>?_|refine kZ (fun hc=>?_) fun hc=>?_|fail)
      first
        | (refine WQ_retC (vs := [.agg #[.int .i64 0, .int .i64 0, .int .i64 0, .int .i64 (k : Int)]]) rfl (.agg ⟨by kernel_rfl, by kernel_rfl⟩ rfl (RdAt.cl' (vs := [.int .i64 0, .int .i64 0, .int .i64 0, .int .i64 (k : Int)]) (by repeat (first | assumption | exact Fnd.here | refine Fnd.there ?_)) rfl) rfl .nil) ?_
           exact ⟨L, fun w h => iH h, rfl, rfl⟩)
        | (refine WQ_endC (vs := [.agg #[.int .i64 0, .int .i64 0, .int .i64 0, .int .i64 (k : Int)]]) rfl (.agg ⟨by kernel_rfl, by kernel_rfl⟩ rfl (RdAt.cl' (vs := [.int .i64 0, .int .i64 0, .int .i64 0, .int .i64 (k : Int)]) (by repeat (first | assumption | exact Fnd.here | refine Fnd.there ?_)) rfl) rfl .nil) ?_
           exact ⟨L, fun w h => iH h, rfl, rfl⟩)
  · simp only [hE, false_and, if_false]
    obtain ⟨k, hk⟩ : ∃ k, k = (rn d).2.2 := ⟨_, rfl⟩
    rw [← hk] at hE w1 ⊢
    (repeat' first|refine kW ?_|refine kU fun bk=>?_|refine kV fun hc=>?_|refine kZ (fun hc=>?_) fun hc=>?_|fail)
    refine OW_callP rfl rfl rfl (w1 _ (sl_there h.sl)) rfl ?_
    (repeat' first|refine kW ?_|refine kU fun bk=>?_|refine kV fun hc=>?_|refine kZ (fun hc=>?_) fun hc=>?_|fail)
    first
      | (refine WQ_retC (vs := [.agg #[.int .i64 0, .int .i64 0, .int .i64 0, .int .i64 (k : Int)]]) rfl (.agg ⟨by kernel_rfl, by kernel_rfl⟩ rfl (RdAt.cl' (vs := [.int .i64 0, .int .i64 0, .int .i64 0, .int .i64 (k : Int)]) (by repeat (first | assumption | exact Fnd.here | refine Fnd.there ?_)) rfl) rfl .nil) ?_
         exact ⟨L, fun w h => iH h, rfl, rfl⟩)
      | (refine WQ_endC (vs := [.agg #[.int .i64 0, .int .i64 0, .int .i64 0, .int .i64 (k : Int)]]) rfl (.agg ⟨by kernel_rfl, by kernel_rfl⟩ rfl (RdAt.cl' (vs := [.int .i64 0, .int .i64 0, .int .i64 0, .int .i64 (k : Int)]) (by repeat (first | assumption | exact Fnd.here | refine Fnd.there ?_)) rfl) rfl .nil) ?_
         exact ⟨L, fun w h => iH h, rfl, rfl⟩)

set_option maxHeartbeats 4000000 in
theorem reffield_n (vd : Value) (d : List UInt8) (b n : Nat) (L0 L : List Chunk) (hi : ∀ x ∈ L0.flatten, x ∈ L.flatten) (h : Rs L0 1 vd d.length (bsv d)) (hl : d.length ≤ 140737488355328) (hb : b < 256) (hn : n ≤ 4) :
    Gv Try.prog 21 [vd, .int .i64 (b : Int), .int .i64 (n : Int)].toArray L (fun r L' => L' = L ∧
      ((fd b n d = none ∧ r = .tuple #[.int .i64 0, .slice none 0 0, .bool false]) ∨ (∃ x v', fd b n d = some x ∧ r = .tuple #[.int .i64 (x.1 : Int), v', .bool true] ∧ Rs L0 1 v' x.2.length (bsv x.2)))) := by
  refine Gv.of_body (args := [vd, .int .i64 (b : Int), .int .i64 (n : Int)]) Try.func21 rfl rfl ?_
  (repeat' first|refine kW ?_|refine kU fun bk=>?_|refine kV fun hc=>?_|refine kZ (fun hc=>?_) fun hc=>?_|fail)
  refine WC_loop (X := Nat × Nat × Value × List UInt8) (fun x => [(0, x.2.2.1), (1, .int .i64 (b : Int)), (2, .int .i64 (n : Int)), (9, .int .i64 (x.2.1 : Int)), (10, .int .i64 (x.1 : Int))]) (fun x => L)
    (fun x => x.1 ≤ n ∧ x.2.1 < 2 ^ (8 * x.1) ∧ fd b n d = (fd (b / 2 ^ x.1) (n - x.1) x.2.2.2).map (fun y => (x.2.1 + 2 ^ (8 * x.1) * y.1, y.2)) ∧ x.2.2.2.length ≤ 140737488355328 ∧ Rs L0 1 x.2.2.1 x.2.2.2.length (bsv x.2.2.2)) (fun x => n - x.1) (0, 0, vd, d)
    ⟨by simp, by simp, by simp, hl, h⟩ iS (fun w h => h) ?_
  rintro ⟨i, v, vq, e⟩ ⟨h1, h2, h3, h4, hq⟩
  simp only at h1 h2 h3 h4 hq ⊢
  obtain ⟨qa, qc, rfl⟩ := rs_val hq
  (repeat' first|refine kW ?_|refine kU fun bk=>?_|refine kV fun hc=>?_|refine kZ (fun hc=>?_) fun hc=>?_|fail)
  · have hi7 : i < n := by omega
    have hp1 : 2 ^ (8 * i) ≤ 2 ^ 24 := Nat.pow_le_pow_right (by decide) (by omega)
    have hp2 : 2 ^ (8 * (i + 1)) = 256 * 2 ^ (8 * i) := p256 i
    have hdd : b / 2 ^ i / 2 = b / 2 ^ (i + 1) := by rw [Nat.div_div_eq_div_mul, Nat.pow_succ]
    have h7 : n - i = (n - (i + 1)) + 1 := by omega
    have hdl : b / 2 ^ i ≤ b := Nat.div_le_self _ _
    refine OW_EV (EV_nshr (k := .i64) b i rfl rfl rfl rfl (by simp only [IntKind.bits]; omega)) rfl ?_
    (repeat' first|refine kW ?_|refine kU fun bk=>?_|refine kV fun hc=>?_|refine kZ (fun hc=>?_) fun hc=>?_|fail)
    refine OW_EV (EV_mask (p := 2) rfl rfl (by rfl)) rfl ?_
    rw [h7] at h3
    by_cases hbb : b / 2 ^ i % 2 = 0
    · rw [fd_even _ _ hbb, hdd] at h3
      rw [show ((b / 2 ^ i : Nat) : Int) % 2 = 0 from by omega]
      (repeat' first|refine kW ?_|refine kU fun bk=>?_|refine kV fun hc=>?_|refine kZ (fun hc=>?_) fun hc=>?_|fail)
      refine WQ_round (X := Nat × Nat × Value × List UInt8) (μ := fun x => n - x.1) (x := (i, v, .slice qa e.length qc, e)) (i + 1, v, .slice qa e.length qc, e) (by simp only; omega) ⟨by simp only; omega, by simp only; omega, ?_, h4, hq⟩ iS (fun w h => h)
      simp only
      rw [h3]
      cases fd (b / 2 ^ (i + 1)) (n - (i + 1)) e with
      | none => rfl
      | some y => simp only [Option.map_some, hp2]; congr 2; rw [Nat.mul_left_comm, Nat.mul_assoc]
    · rw [show ((b / 2 ^ i : Nat) : Int) % 2 = 1 from by omega]
      cases e with
      | nil =>
        rw [fd_nil _ hbb] at h3
        (repeat' first|refine kW ?_|refine kU fun bk=>?_|refine kV fun hc=>?_|refine kZ (fun hc=>?_) fun hc=>?_|fail)
        refine WQ_retI rfl rfl ?_
        exact ⟨_, iC, rfl, .inl ⟨h3, rfl⟩⟩
      | cons x e =>
        rw [fd_cons _ _ _ hbb, hdd] at h3
        obtain ⟨r2, q2, e2⟩ := rs_cut (P := Try.prog) (T := 23) hq (l := 1) (h := (x :: e).length) (by simp) (Nat.le_refl _)
        rw [List.take_of_length_le (by rw [List.length_drop]; exact Nat.le_refl _)] at q2
        obtain ⟨bb, off, cap, cc, T, fr, hve, hfn, hcell⟩ := sl_at (sl_sub hi hq.sl) (k := 0) (u := .int .u8 (x.toNat : Int)) rfl
        simp only [List.length_cons] at h4 hq hve ⊢
        injection hve with q3 q4 q5
        subst q3 q5
        clear q4
        have hxl := x.toNat_lt
        have hv0 : x.toNat * 2 ^ (8 * i) ≤ 255 * 2 ^ (8 * i) := Nat.mul_le_mul_right _ (by omega)
        (repeat' first|refine kW ?_|refine kU fun bk=>?_|refine kV fun hc=>?_|refine kZ (fun hc=>?_) fun hc=>?_|fail)
        refine OW_EV (EV_indexAddr (j := 0) rfl rfl rfl (by omega)) rfl ?_
        (repeat' first|refine kW ?_|refine kU fun bk=>?_|refine kV fun hc=>?_|refine kZ (fun hc=>?_) fun hc=>?_|fail)
        refine OW_EV (EV_load rfl hfn hcell) rfl ?_
        (repeat' first|refine kW ?_|refine kU fun bk=>?_|refine kV fun hc=>?_|refine kZ (fun hc=>?_) fun hc=>?_|fail)
        refine OW_EV (EV_dshl x.toNat (8 * i) rfl rfl rfl (by omega) (by omega) (by omega)) rfl ?_
        (repeat' first|refine kW ?_|refine kU fun bk=>?_|refine kV fun hc=>?_|refine kZ (fun hc=>?_) fun hc=>?_|fail)
        rw [← Int.natCast_add]
        refine OW_EV (e2 rfl rfl rfl) rfl ?_
        (repeat' first|refine kW ?_|refine kU fun bk=>?_|refine kV fun hc=>?_|refine kZ (fun hc=>?_) fun hc=>?_|fail)
        refine WQ_round (X := Nat × Nat × Value × List UInt8) (μ := fun x => n - x.1) (x := (i, v, .slice (some ⟨bb, off, none⟩) (e.length + 1) qc, x :: e)) (i + 1, v + x.toNat * 2 ^ (8 * i), r2, e) (by simp only; omega) ⟨by simp only; omega, by simp only; omega, ?_, by simp only; omega, by simpa using q2⟩ iS (fun w h => h)
        simp only
        rw [h3]
        cases fd (b / 2 ^ (i + 1)) (n - (i + 1)) e with
        | none => rfl
        | some y =>
          simp only [Option.map_some, hp2]
          congr 2
          rw [Nat.mul_add, Nat.mul_comm x.toNat, Nat.add_assoc]
          congr 2
          rw [Nat.mul_left_comm, Nat.mul_assoc]
  · obtain rfl : i = n := by omega
    refine WQ_retI rfl rfl ?_
    refine ⟨_, iC, rfl, .inr ⟨(v, e), _, ?_, rfl, hq⟩⟩
    rw [h3]
    simp [fd]
end Go.Proofs.Ytckelgpocplplaa
