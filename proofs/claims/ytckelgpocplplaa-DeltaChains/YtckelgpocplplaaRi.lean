/- Package delta: a copy's fields read. It proves no statement by itself. No conditions. -/
import Derived.Test.YtckelgpocplplaaRh
namespace Go.Proofs.Ytckelgpocplplaa
open Go Go.Vx Go.Dl
variable [W0]
set_option maxRecDepth 4000
set_option linter.all false
theorem mem_tail {L0 L : List Chunk} {C : Chunk} (h : ∀ x ∈ L0.flatten, x ∈ L.flatten) : ∀ x ∈ L0.flatten, x ∈ (C :: L).flatten := fun x hx => by
  rw [List.flatten_cons, List.mem_append]; exact .inr (h x hx)
theorem p256' (i : Nat) : 256 ^ i = 2 ^ (8 * i) := by rw [Nat.pow_mul]
set_option maxHeartbeats 8000000 in
theorem fields_n (p : Nat) (vb vr vo : Value) (to : Nat) (c : UInt8) (d : List UInt8) (L0 L : List Chunk) (hr : Rs L0 1 vr d.length (bsv d)) (hi : ∀ x ∈ L0.flatten, x ∈ L.flatten) (hl : d.length ≤ 140737488355328) :
    Gv Try.prog 47 [.pointer (some ⟨p, 0, none⟩), .int .u8 (c.toNat : Int)].toArray (rsC p vb vr vo to :: L) (fun r L' =>
      (fd c.toNat 7 d = none ∧ r = .tuple #[.int .u64 0, .bool false] ∧ L' = L) ∨
      (∃ x, fd c.toNat 7 d = some x ∧ r = .tuple #[.int .u64 (x.1 : Int), .bool true] ∧ ∃ vr', Rs L0 1 vr' x.2.length (bsv x.2) ∧ L' = rsC p vb vr' vo to :: L)) := by
  refine Gv.of_body (args := [.pointer (some ⟨p, 0, none⟩), .int .u8 (c.toNat : Int)]) Try.func47 rfl rfl ?_
  have hcl := c.toNat_lt
  (repeat' first|refine kW ?_|refine kU fun bk=>?_|refine kV fun hc=>?_|refine kZ (fun hc=>?_) fun hc=>?_|fail)
  refine WC_loop (X := Nat × Nat × Value × List UInt8) (fun x => [(0, .pointer (some ⟨p, 0, none⟩)), (1, .int .u8 (c.toNat : Int)), (6, .int .u64 (x.2.1 : Int)), (8, .int .i64 (x.1 : Int))]) (fun x => rsC p vb x.2.2.1 vo to :: L)
    (fun x => x.1 ≤ 7 ∧ x.2.1 < 2 ^ (8 * x.1) ∧ fd c.toNat 7 d = (fd (c.toNat / 2 ^ x.1) (7 - x.1) x.2.2.2).map (fun y => (x.2.1 + 2 ^ (8 * x.1) * y.1, y.2)) ∧ x.2.2.2.length ≤ 140737488355328 ∧ Rs L0 1 x.2.2.1 x.2.2.2.length (bsv x.2.2.2)) (fun x => 7 - x.1) (0, 0, vr, d)
    ⟨by simp, by simp, by simp, hl, hr⟩ iS (fun w h => h) ?_
  rintro ⟨i, v, vq, e⟩ ⟨h1, h2, h3, h4, hq⟩
  simp only at h1 h2 h3 h4 hq ⊢
  unfold rsC
  obtain ⟨qa, qc, rfl⟩ := rs_val hq
  (repeat' first|refine kW ?_|refine kU fun bk=>?_|refine kV fun hc=>?_|refine kZ (fun hc=>?_) fun hc=>?_|fail)
  · have hi7 : i < 7 := by omega
    have hp1 : 2 ^ (8 * i) ≤ 2 ^ 48 := Nat.pow_le_pow_right (by decide) (by omega)
    have hp2 : 2 ^ (8 * (i + 1)) = 256 * 2 ^ (8 * i) := p256 i
    have hdd : c.toNat / 2 ^ i / 2 = c.toNat / 2 ^ (i + 1) := by rw [Nat.div_div_eq_div_mul, Nat.pow_succ]
    have h7 : 7 - i = (7 - (i + 1)) + 1 := by omega
    have hdl : c.toNat / 2 ^ i ≤ c.toNat := Nat.div_le_self _ _
    refine OW_EV (EV_nshr (k := .u8) c.toNat i rfl rfl rfl rfl (by simp only [IntKind.bits]; omega)) rfl ?_
    (repeat' first|refine kW ?_|refine kU fun bk=>?_|refine kV fun hc=>?_|refine kZ (fun hc=>?_) fun hc=>?_|fail)
    refine OW_EV (EV_nand (k := .u8) (c.toNat / 2 ^ i) 1 rfl rfl rfl rfl rfl (by simp only [IntKind.bits]; omega) (by decide)) rfl ?_
    rw [h7] at h3
    by_cases hb : c.toNat / 2 ^ i % 2 = 0
    · rw [fd_even _ _ hb, hdd] at h3
      rw [show c.toNat / 2 ^ i % 2 ^ 1 = 0 from hb]
      (repeat' first|refine kW ?_|refine kU fun bk=>?_|refine kV fun hc=>?_|refine kZ (fun hc=>?_) fun hc=>?_|fail)
      refine WQ_round (X := Nat × Nat × Value × List UInt8) (μ := fun x => 7 - x.1) (x := (i, v, .slice qa e.length qc, e)) (i + 1, v, .slice qa e.length qc, e) (by simp only; omega) ⟨by simp only; omega, by simp only; omega, ?_, h4, hq⟩ iS (fun w h => h)
      simp only
      rw [h3]
      cases fd (c.toNat / 2 ^ (i + 1)) (7 - (i + 1)) e with
      | none => rfl
      | some y => simp only [Option.map_some, hp2]; congr 2; rw [Nat.mul_left_comm, Nat.mul_assoc]
    · rw [show c.toNat / 2 ^ i % 2 ^ 1 = 1 from by omega]
      cases e with
      | nil =>
        rw [fd_nil _ hb] at h3
        (repeat' first|refine kW ?_|refine kU fun bk=>?_|refine kV fun hc=>?_|refine kZ (fun hc=>?_) fun hc=>?_|fail)
        refine WQ_retI rfl rfl ?_
        exact ⟨_, iC, .inl ⟨h3, rfl, rfl⟩⟩
      | cons x e =>
        rw [fd_cons _ _ _ hb, hdd] at h3
        simp only [List.length_cons] at h4 hq ⊢
        have hxl := x.toNat_lt
        have hv2 : v + x.toNat * 2 ^ (8 * i) < 2 ^ (8 * (i + 1)) := by
          have : x.toNat * 2 ^ (8 * i) ≤ 255 * 2 ^ (8 * i) := Nat.mul_le_mul_right _ (by omega)
          omega
        have hv3 : x.toNat * 2 ^ (8 * i) < 2 ^ 64 := by omega
        (repeat' first|refine kW ?_|refine kU fun bk=>?_|refine kV fun hc=>?_|refine kZ (fun hc=>?_) fun hc=>?_|fail)
        refine OW_call rfl rfl rfl (dtake_n p vb (.slice qa (e.length + 1) qc) vo to 1 (x :: e) L0 L (by simpa using hq) (by simp)) rfl (fun r L' hp => ?_)
        obtain ⟨vr', g1, g2, rfl⟩ := hp
        obtain ⟨b, off, cap, cc, T, fr, rfl, hfn, hcell⟩ := sl_at (sl_sub (mem_tail (C := rsC p vb vr' vo to) hi) g1.sl) (k := 0) (u := .int .u8 (x.toNat : Int)) rfl
        unfold rsC at hfn ⊢
        (repeat' first|refine kW ?_|refine kU fun bk=>?_|refine kV fun hc=>?_|refine kZ (fun hc=>?_) fun hc=>?_|fail)
        refine OW_EV (EV_indexAddr (j := 0) rfl rfl rfl (by omega)) rfl ?_
        (repeat' first|refine kW ?_|refine kU fun bk=>?_|refine kV fun hc=>?_|refine kZ (fun hc=>?_) fun hc=>?_|fail)
        refine OW_EV (EV_load rfl hfn hcell) rfl ?_
        (repeat' first|refine kW ?_|refine kU fun bk=>?_|refine kV fun hc=>?_|refine kZ (fun hc=>?_) fun hc=>?_|fail)
        refine OW_EV (EV_nshl (k := .u64) x.toNat (8 * i) rfl rfl rfl (by omega) rfl (by simpa only [IntKind.bits] using hv3)) rfl ?_
        (repeat' first|refine kW ?_|refine kU fun bk=>?_|refine kV fun hc=>?_|refine kZ (fun hc=>?_) fun hc=>?_|fail)
        refine OW_EV (EV_nor (k := .u64) v x.toNat (8 * i) rfl rfl rfl rfl rfl h2 (by simp only [IntKind.bits]; omega)) rfl ?_
        (repeat' first|refine kW ?_|refine kU fun bk=>?_|refine kV fun hc=>?_|refine kZ (fun hc=>?_) fun hc=>?_|fail)
        refine WQ_round (X := Nat × Nat × Value × List UInt8) (μ := fun x => 7 - x.1) (x := (i, v, .slice qa (e.length + 1) qc, x :: e)) (i + 1, v + x.toNat * 2 ^ (8 * i), vr', e) (by simp only; omega) ⟨by simp only; omega, hv2, ?_, by simp only; omega, by simpa using g2⟩ iS (fun w h => h)
        simp only
        rw [h3]
        cases fd (c.toNat / 2 ^ (i + 1)) (7 - (i + 1)) e with
        | none => rfl
        | some y =>
          simp only [Option.map_some, hp2]
          congr 2
          rw [Nat.mul_add, Nat.mul_comm x.toNat, Nat.add_assoc]
          congr 2
          rw [Nat.mul_left_comm, Nat.mul_assoc]
  · obtain rfl : i = 7 := by omega
    refine WQ_retI rfl rfl ?_
    refine ⟨_, iC, .inr ⟨(v, e), ?_, rfl, _, hq, rfl⟩⟩
    rw [h3]
    simp [fd]
end Go.Proofs.Ytckelgpocplplaa
