/- Package bits: what the document fixes; a code's bits are the number's turned round. It proves no statement by itself. No conditions. -/
import Derived.Test.YtkiaegkojlhaeaaDoorBc
namespace Go.Proofs.YtkiaegkojlhaeaaDoor
open Go Go.Vx
variable [W0]
set_option maxRecDepth 4000
set_option linter.all false

theorem tk5 : tkV [5] 0 3 = 5 ∧ tkB [5] 0 3 = true ∧ tkT [5] 0 3 = 3 ∧ tkB [5] 3 6 = false ∧ tkT [5] 3 6 = 3 ∧ tkV [5] 3 6 = 0 := by decide
theorem nm33 (n : Int) : ∃ c : Nat, c ≤ 32 ∧ (n.tmod 33 + 33 = ((n.tmod 33 + 33).toNat : Int)) ∧ -33 < n.tmod 33 ∧ n.tmod 33 < 33 ∧ (n.tmod 33 + 33).toNat % 33 = c := by
  have h1 := Int.lt_tmod_of_pos n (show (0 : Int) < 33 by decide)
  have h2 := Int.tmod_lt_of_pos n (show (0 : Int) < 33 by decide)
  exact ⟨(n.tmod 33 + 33).toNat % 33, by omega, by omega, by omega, h2, rfl⟩

end Go.Proofs.YtkiaegkojlhaeaaDoor
