/- The document's own answer for layer 10: numbers, sizes, fields. It proves no statement by itself. No conditions. -/
import Derived.Test.YtckelgpocplplaaRk
namespace Go.Dl
set_option linter.all false
theorem rg_cons (k : Nat) (c : UInt8) (b : List UInt8) : rg (k + 1) (c :: b) = if c.toNat < 128 then (c.toNat, 1, 0) else
      if (rg k b).2.2 = 0 then (c.toNat % 128 + 128 * (rg k b).1, (rg k b).2.1 + 1, 0) else (0, 0, (rg k b).2.2) := rfl
theorem rg_bad : ∀ (k : Nat) (b : List UInt8), (rg k b).2.2 ≠ 0 → rg k b = (0, 0, (rg k b).2.2)
  | 0, b, _ => rfl
  | k + 1, [], _ => rfl
  | k + 1, c :: b, h => by
    rw [rg_cons] at h ⊢
    split at h
    · exact absurd rfl h
    · rename_i h1
      rw [if_neg h1]
      split at h
      · exact absurd rfl h
      · rename_i h2
        rw [if_neg h2]
theorem rn_bad (b : List UInt8) (h : (rn b).2.2 ≠ 0) : rn b = (0, 0, (rn b).2.2) := by
  unfold rn at h ⊢
  split at h
  · rename_i h1; rw [if_pos h1]
  · rename_i h1; rw [if_neg h1]; exact rg_bad 5 b h
theorem rn_max (b : List UInt8) : (rn b).1 ≤ 2147483647 := by
  unfold rn
  split
  · exact Nat.zero_le _
  · rename_i h1
    by_cases h2 : (rg 5 b).2.2 = 0
    · omega
    · rw [rg_bad 5 b h2]; exact Nat.zero_le _
end Go.Dl
namespace Go.Proofs.Ytckelgpocplplaa
open Go Go.Vx Go.Dl
variable [W0]
set_option maxRecDepth 4000
set_option linter.all false
theorem EV_dshl {P : Program} {n : Nat} {M : List (Nat × Value)} {L : List Chunk} {d : Nat} {ty : TypeId} {ps : String} {af : Array Edge} {g : Option (Nat × Bool)} {x y : Operand} {t u : TypeId} {k' : IntKind} {i j : Int} (a s : Nat) (hx : ev M x = some (.int .i64 i)) (hy : ev M y = some (.int k' j)) (hi : i = (a : Int)) (hj : j = (s : Int)) (hs : s ≤ 64) (hr : a * 2 ^ s ≤ 9223372036854775807) :
    EV P n ⟨some d, .binOp .shl t x y u, ty, ps, af, g⟩ M L d (.int .i64 ((a * 2 ^ s : Nat) : Int)) := by
  subst hi hj
  refine EV_shl hx hy (by omega) ?_
  rw [Int.toNat_natCast, Nat.min_eq_left (by simpa [IntKind.bits] using hs)]
  have c : (a : Int) * 2 ^ s = ((a * 2 ^ s : Nat) : Int) := by simp
  rw [c]
  exact wrap_i64 (by omega) (by omega)

set_option maxHeartbeats 4000000 in
theorem refnum_n (v : Value) (b : List UInt8) (L : List Chunk) (h : Sl L 1 v b.length (bsv b)) (hl : b.length ≤ 140737488355328) :
    GvP Try.prog 36 [v].toArray L (.tuple #[.int .i64 ((rn b).1 : Int), .int .i64 ((rn b).2.1 : Int), .int .i64 ((rn b).2.2 : Int)]) := by
  refine Gv.of_body (args := [v]) Try.func36 rfl rfl ?_
  obtain ⟨va, vc, rfl⟩ := sl_slice h
  (repeat' first|refine kW ?_|refine kU fun bk=>?_|refine kV fun hc=>?_|refine kZ (fun hc=>?_) fun hc=>?_|fail)
  refine WC_loop (X := Nat × Nat) (fun x => [(0, .slice va b.length vc), (5, .int .i64 (x.2 : Int)), (6, .int .i64 (x.1 : Int))]) (fun _ => L)
    (fun x => x.1 ≤ 5 ∧ x.1 ≤ b.length ∧ x.2 < 2 ^ (7 * x.1) ∧ rg 5 b = if (rg (5 - x.1) (b.drop x.1)).2.2 = 0 then (x.2 + 2 ^ (7 * x.1) * (rg (5 - x.1) (b.drop x.1)).1, (rg (5 - x.1) (b.drop x.1)).2.1 + x.1, 0) else (0, 0, (rg (5 - x.1) (b.drop x.1)).2.2)) (fun x => 5 - x.1) (0, 0)
    ⟨by simp, by simp, by simp, ?_⟩ iS (fun w h => h) ?_
  · simp only [Nat.sub_zero, List.drop_zero, Nat.mul_zero, Nat.pow_zero, Nat.one_mul, Nat.zero_add, Nat.add_zero]
    split
    · rename_i h0
      conv => lhs; rw [show rg 5 b = ((rg 5 b).1, (rg 5 b).2.1, (rg 5 b).2.2) from rfl, h0]
    · rename_i h0
      exact rg_bad 5 b h0
  rintro ⟨i, m⟩ ⟨h1, h2, h3, h4⟩
  simp only at h1 h2 h3 h4 ⊢
  (repeat' first|refine kW ?_|refine kU fun bk=>?_|refine kV fun hc=>?_|refine kZ (fun hc=>?_) fun hc=>?_|fail)
  · have h5 : 5 - i = (4 - i) + 1 := by omega
    rw [h5, List.drop_of_length_le (by omega), rg, if_neg (by simp)] at h4
    have e : rn b = (0, 0, 4) := by unfold rn; rw [h4]; simp
    rw [e]
    refine WQ_retI rfl rfl ?_
    exact ⟨_, iC, rfl, rfl⟩
  · have hlt : i < b.length := by omega
    have h5 : 5 - i = (4 - i) + 1 := by omega
    have h6 : 4 - i = 5 - (i + 1) := by omega
    rw [h5, List.drop_eq_getElem_cons hlt, rg_cons, h6] at h4
    have hcl := (b[i]).toNat_lt
    obtain ⟨bb, off, cap, cc, T, fr, hve, hfn, hcell⟩ := sl_at h (bsv_get hlt)
    injection hve with q1 q2 q3
    subst q1 q3
    clear q2
    have hp1 : 2 ^ (7 * i) ≤ 2 ^ 28 := Nat.pow_le_pow_right (by decide) (by omega)
    have hp2 := p128 i
    have hb1 : (b[i]).toNat % 128 * 2 ^ (7 * i) ≤ 127 * 2 ^ (7 * i) := Nat.mul_le_mul_right _ (by omega)
    refine OW_EV (EV_indexAddr (j := i) rfl rfl rfl hlt) rfl ?_
    (repeat' first|refine kW ?_|refine kU fun bk=>?_|refine kV fun hc=>?_|refine kZ (fun hc=>?_) fun hc=>?_|fail)
    refine OW_EV (EV_load rfl hfn hcell) rfl ?_
    (repeat' first|refine kW ?_|refine kU fun bk=>?_|refine kV fun hc=>?_|refine kZ (fun hc=>?_) fun hc=>?_|fail)
    refine OW_EV (EV_nand (k := .u8) (b[i]).toNat 7 rfl rfl rfl rfl rfl (by simp only [IntKind.bits]; omega) (by decide)) rfl ?_
    (repeat' first|refine kW ?_|refine kU fun bk=>?_|refine kV fun hc=>?_|refine kZ (fun hc=>?_) fun hc=>?_|fail)
    refine OW_EV (EV_dshl ((b[i]).toNat % 128) (7 * i) rfl rfl rfl (by omega) (by omega) (by omega)) rfl ?_
    (repeat' first|refine kW ?_|refine kU fun bk=>?_|refine kV fun hc=>?_|refine kZ (fun hc=>?_) fun hc=>?_|fail)
    rw [← Int.natCast_add]
    refine OW_EV (EV_indexAddr (j := i) rfl rfl rfl hlt) rfl ?_
    (repeat' first|refine kW ?_|refine kU fun bk=>?_|refine kV fun hc=>?_|refine kZ (fun hc=>?_) fun hc=>?_|fail)
    refine OW_EV (EV_load rfl hfn hcell) rfl ?_
    (repeat' first|refine kW ?_|refine kU fun bk=>?_|refine kV fun hc=>?_|refine kZ (fun hc=>?_) fun hc=>?_|fail)
    · rw [if_pos (show (b[i]).toNat < 128 by omega), if_pos rfl] at h4
      simp only at h4
      have e : rn b = (0, 0, 3) := by
        have e1 : 2 ^ (7 * i) * (b[i]).toNat = (b[i]).toNat % 128 * 2 ^ (7 * i) := by rw [Nat.mul_comm, Nat.mod_eq_of_lt (show (b[i]).toNat < 128 by omega)]
        unfold rn; rw [h4, e1, if_pos (by simp; omega)]
      rw [e]
      refine WQ_retI rfl rfl ?_
      exact ⟨_, iC, rfl, rfl⟩
    · rw [if_pos (show (b[i]).toNat < 128 by omega), if_pos rfl] at h4
      simp only at h4
      have e1 : 2 ^ (7 * i) * (b[i]).toNat = (b[i]).toNat % 128 * 2 ^ (7 * i) := by rw [Nat.mul_comm, Nat.mod_eq_of_lt (show (b[i]).toNat < 128 by omega)]
      have e : rn b = (m + (b[i]).toNat % 128 * 2 ^ (7 * i), 1 + i, 0) := by
        unfold rn; rw [h4, e1, if_neg (by simp; omega)]
      rw [e, show 1 + i = i + 1 from Nat.add_comm _ _]
      refine WQ_retI rfl rfl ?_
      exact ⟨_, iC, rfl, rfl⟩
    · rw [if_neg (show ¬ (b[i]).toNat < 128 by omega)] at h4
      refine WQ_round (X := Nat × Nat) (μ := fun x => 5 - x.1) (x := (i, m)) (i + 1, m + (b[i]).toNat % 128 * 2 ^ (7 * i)) (by simp only; omega) ⟨by simp only; omega, by simp only; omega, by simp only; omega, ?_⟩ iS (fun w h => h)
      simp only
      rw [h4]
      by_cases hz : (rg (5 - (i + 1)) (b.drop (i + 1))).2.2 = 0
      · rw [if_pos hz, if_pos rfl, if_pos hz]
        simp only [Prod.mk.injEq, and_true]
        refine ⟨?_, by omega⟩
        rw [Nat.mul_add, hp2, Nat.mul_comm (2 ^ (7 * i)) (_ % 128), Nat.add_assoc]
        congr 2
        ac_rfl
      · rw [if_neg hz, if_neg hz, if_neg hz]
  · obtain rfl : i = 5 := by omega
    rw [Nat.sub_self, rg, if_neg (by simp)] at h4
    have e : rn b = (0, 0, 3) := by unfold rn; rw [h4]; simp
    rw [e]
    refine WQ_retI rfl rfl ?_
    exact ⟨_, iC, rfl, rfl⟩
end Go.Proofs.Ytckelgpocplplaa
