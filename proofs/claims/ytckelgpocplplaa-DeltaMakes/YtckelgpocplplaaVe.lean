/- From a row without tables to the layer: bytes that came in, and what a reading's bulk bounds. It proves no statement by itself. No conditions. -/
import Derived.Test.YtckelgpocplplaaVb
import Derived.Deep.DeepHandedRow
import Derived.SizedLaws
import Derived.LaidLaws
namespace Go.Proofs.Ytckelgpocplplaa
open Go Go.Vx Go.ChangeShapes Go.WideShapes Go.ChangeAt Go.RowKit
set_option maxRecDepth 4000
set_option linter.all false

/-- A slice of bytes that came in. -/
theorem open_byts {H : Type} {enc : TypeId × Value → H} {P : Program} {W : World} {t e : TypeId} {a : Option Addr} {len cap : Nat} {d : DataW H} {ps : List MemPlace} (ht : P.underlying t = some (.slice e)) (he : P.underlying e = some (.int .u8)) (hc : P.cellsOf e = 1)
    (h : DataW.Trod enc P W 0 (fun _ => true) true t (.slice a len cap) d ps) :
    ∃ xs : List UInt8, xs.length = len ∧ Sl [blks W] 1 (.slice a len cap) len (bsv xs) ∧ len ≤ Rows.uptoBulk d ∧ (len = 0 ∨ ∃ el sp, d = .slice el sp ∧ el.length = len) := by
  have hx : len = 0 ∨ ∃ el sp, d = .slice el sp ∧ el.length = len := by
    obtain ⟨fuel, hf⟩ := h
    rcases open_ints ht he hc hf with ⟨hcs, _⟩ | ⟨x, l, c, zs, hcs, _, hl, hm, hz, hx, hcell, hwz⟩
    · simp [Value.cells] at hcs
      obtain ⟨rfl, rfl, rfl⟩ := hcs
      exact .inl rfl
    · simp [Value.cells] at hcs
      obtain ⟨rfl, rfl, rfl⟩ := hcs
      have hzl : zs.length = cap := by simpa using hz
      have hd : d = .slice (lits .u8 (zs.take len)) (lits .u8 (zs.drop len)) := by injection hx
      exact .inr ⟨_, _, hd, by simp [lits]; omega⟩
  obtain ⟨xs, h1, h2, h3, h4⟩ := open_row ht he hc h
  refine ⟨xs.map fun n => UInt8.ofNat n.toNat, by simpa using h1, ?_, h4, hx⟩
  rw [bytes_of xs h2]
  exact h3
/-- A slice's length, by the row's reach. -/
theorem reach_of {H : Type} {P : Program} {ts : List TypeId} {ds : List (DataW H)} (h : (DataW.weightsEach P ts ds).all (· ≤ reachBytes) = true) {j : Nat} {t e : TypeId} {d : DataW H} {len : Nat} (ht : ts[j]? = some t) (hd : ds[j]? = some d) (hu : P.underlying t = some (.slice e)) (hb : P.bytesOf e = 1)
    (hl : len = 0 ∨ ∃ el sp, d = .slice el sp ∧ el.length = len) : len ≤ 140737488351232 := by
  rcases hl with rfl | ⟨el, sp, rfl, rfl⟩
  · omega
  · have := sized_slice h ht hd hu
    rw [hb, Nat.mul_one] at this
    simp [reachBytes] at this
    omega
/-- A word that came in. -/
theorem nat_of_wf {k : IntKind} {n : Int} (hs : k.signed = false) (h : (Lit.int k n).wf = true) : ∃ m : Nat, n = (m : Int) ∧ m < 2 ^ k.bits := by
  simp [Lit.wf, IntKind.min, IntKind.max, hs] at h
  refine ⟨n.toNat, by omega, ?_⟩
  have h2 := h.2
  have h3 : ((n.toNat : Nat) : Int) < ((2 ^ k.bits : Nat) : Int) := by
    rw [Int.toNat_of_nonneg h.1]
    have : ((2 ^ k.bits : Nat) : Int) = 2 ^ k.bits := by simp
    omega
  exact_mod_cast h3
end Go.Proofs.Ytckelgpocplplaa
