/- Package bits: numbers of bits, masks, bits turned round; what a writer holds, and bits put. It proves no statement by itself. No conditions. -/
import Derived.Test.YtkiaegkojlhaeaaDoorWd
import Derived.Test.YtkiaegkojlhaeaaDoorTy
namespace Go.Proofs.YtkiaegkojlhaeaaDoor
open Go Go.Vx
variable [W0]
set_option maxRecDepth 4000
set_option linter.all false

omit [W0] in
/-- A number of bits, clamped. -/
def clp (n : Int) : Nat := (min (max n 0) 32).toNat
theorem clp_le (n : Int) : clp n ≤ 32 := by unfold clp; omega
theorem clp_cast (n : Int) : min (max n 0) 32 = ((clp n : Nat) : Int) := by unfold clp; omega
theorem clp_nat {n : Nat} (h : n ≤ 32) : clp (n : Int) = n := by unfold clp; omega

theorem pow_le {a b : Nat} (h : a ≤ b) : 2 ^ a ≤ 2 ^ b := Nat.pow_le_pow_right (by decide) h
theorem lowest_n (n : Nat) (L : List Chunk) (h : n ≤ 32) : GvP Tryd.prog 61 [.int .i64 (n : Int)].toArray L (.int .u64 ((2 ^ n - 1 : Nat) : Int)) := by
  refine Gv.of_body Tryd.func61 rfl rfl ?_
  have h1 := pow_le h
  have h0 : 0 < 2 ^ n := Nat.pow_pos (by decide)
  (repeat' (first | (show WL _ _ _ _ _ _ _; first | refine jA ?_ | refine jB ?_ | refine jC ?_ | refine jD ?_ | refine jE ?_ | refine jF ?_) | (show OW _ _ _ _ _ _; first | refine OW_E ?_ | refine jI ?_ | refine jJ ?_ | refine jK (fun bk => ?_) | refine jL (fun bk => ?_)) | (show WC _ _ _ _ _ _; first | refine jM ?_ | refine jN ?_ | refine jO ?_ | refine jP ?_ | refine jR ?_ | refine jS ?_ | refine jT ?_ | refine jU ?_) | (show WQ _ _ _ _; with_reducible first | refine jV ?_ | refine jW ?_ | refine jX ?_ | refine jY ?_ | refine jZ ?_ | refine kA ?_ | refine kB ?_ | refine kC ?_) | ((first | (refine jG (fun hc => ?_) (fun hc => ?_) <;> rw [hc]) | refine jQ (fun hc => ?_) (fun hc => ?_)) <;> (try simp only [nrB] at hc) <;> (try (exfalso; first | omega | exact hc trivial | exact hc rfl)))))
  refine OW_EV (EV_nshl 1 n rfl rfl rfl rfl rfl (by simp [IntKind.bits]; omega)) rfl ?_
  (repeat' (first | (show WL _ _ _ _ _ _ _; first | refine jA ?_ | refine jB ?_ | refine jC ?_ | refine jD ?_ | refine jE ?_ | refine jF ?_) | (show OW _ _ _ _ _ _; first | refine OW_E ?_ | refine jI ?_ | refine jJ ?_ | refine jK (fun bk => ?_) | refine jL (fun bk => ?_)) | (show WC _ _ _ _ _ _; first | refine jM ?_ | refine jN ?_ | refine jO ?_ | refine jP ?_ | refine jR ?_ | refine jS ?_ | refine jT ?_ | refine jU ?_) | (show WQ _ _ _ _; with_reducible first | refine jV ?_ | refine jW ?_ | refine jX ?_ | refine jY ?_ | refine jZ ?_ | refine kA ?_ | refine kB ?_ | refine kC ?_) | ((first | (refine jG (fun hc => ?_) (fun hc => ?_) <;> rw [hc]) | refine jQ (fun hc => ?_) (fun hc => ?_)) <;> (try simp only [nrB] at hc) <;> (try (exfalso; first | omega | exact hc trivial | exact hc rfl)))))
  refine OW_EV (EV_ari rfl rfl rfl) rfl ?_
  rw [show ((1 * 2 ^ n : Nat) : Int) - 1 = ((2 ^ n - 1 : Nat) : Int) from by omega, wrap_nat rfl (by simp [IntKind.bits]; omega)]
  (repeat' (first | (show WL _ _ _ _ _ _ _; first | refine jA ?_ | refine jB ?_ | refine jC ?_ | refine jD ?_ | refine jE ?_ | refine jF ?_) | (show OW _ _ _ _ _ _; first | refine OW_E ?_ | refine jI ?_ | refine jJ ?_ | refine jK (fun bk => ?_) | refine jL (fun bk => ?_)) | (show WC _ _ _ _ _ _; first | refine jM ?_ | refine jN ?_ | refine jO ?_ | refine jP ?_ | refine jR ?_ | refine jS ?_ | refine jT ?_ | refine jU ?_) | (show WQ _ _ _ _; with_reducible first | refine jV ?_ | refine jW ?_ | refine jX ?_ | refine jY ?_ | refine jZ ?_ | refine kA ?_ | refine kB ?_ | refine kC ?_) | ((first | (refine jG (fun hc => ?_) (fun hc => ?_) <;> rw [hc]) | refine jQ (fun hc => ?_) (fun hc => ?_)) <;> (try simp only [nrB] at hc) <;> (try (exfalso; first | omega | exact hc trivial | exact hc rfl)))))
  ((first | refine WQ_retI rfl rfl ?_ | refine WQ_endI rfl rfl ?_); exact ⟨_, iC, rfl, rfl⟩)
theorem add_lt {V N x c : Nat} (hV : V < 2 ^ N) (hx : x < 2 ^ c) : V + 2 ^ N * x < 2 ^ (N + c) := by
  rw [Nat.pow_add]
  have h : 2 ^ N * (x + 1) ≤ 2 ^ N * 2 ^ c := Nat.mul_le_mul_left _ hx
  rw [Nat.mul_add] at h
  omega

end Go.Proofs.YtkiaegkojlhaeaaDoor
