/- From a row with a listed table to the layer: bytes that came in, the table. It proves no statement by itself. No conditions. -/
import Derived.Test.YtkiaegkojlhaeaaDoorIv
import Derived.Test.YtkiaegkojlhaeaaDoorVb
import Derived.Test.YtkiaegkojlhaeaaDoorCards
import Derived.Test.YtkiaegkojlhaeaaDoorTie
import Derived.Deep.DeepHandedRow
import Derived.Lib.LaidTab
import Derived.SizedLaws
namespace Go.Proofs.YtkiaegkojlhaeaaDoor
open Go Go.Vx Go.ChangeShapes Go.WideShapes Go.ChangeAt Go.RowKit
set_option maxRecDepth 4000
set_option linter.all false

/-- A slice of bytes that came in. -/
theorem open_bytes {H : Type} {enc : TypeId × Value → H} {P : Program} {W : World} {t e : TypeId} {a : Option Addr} {len cap : Nat} {d : DataW H} {ps : List MemPlace} (ht : P.underlying t = some (.slice e)) (he : P.underlying e = some (.int .u8)) (hc : P.cellsOf e = 1)
    (h : DataW.Trod enc P W 0 (fun _ => true) true t (.slice a len cap) d ps) :
    ∃ xs : List UInt8, xs.length = len ∧ SlC [blks W] 1 (.slice a len cap) len (bsv xs) ∧ len ≤ Rows.uptoBulk d ∧ (len = 0 ∨ ∃ el sp, d = .slice el sp ∧ el.length = len) := by
  have hx : len ≤ cap ∧ (len = 0 ∨ ∃ el sp, d = .slice el sp ∧ el.length = len) := by
    obtain ⟨fuel, hf⟩ := h
    rcases open_ints ht he hc hf with ⟨hcs, _⟩ | ⟨x, l, c, zs, hcs, _, hl, hm, hz, hx, hcell, hwz⟩
    · simp [Value.cells] at hcs
      obtain ⟨rfl, rfl, rfl⟩ := hcs
      exact ⟨Nat.le_refl _, .inl rfl⟩
    · simp [Value.cells] at hcs
      obtain ⟨rfl, rfl, rfl⟩ := hcs
      have hzl : zs.length = cap := by simpa using hz
      have hd : d = .slice (lits .u8 (zs.take len)) (lits .u8 (zs.drop len)) := by injection hx
      exact ⟨hl, .inr ⟨_, _, hd, by simp [lits]; omega⟩⟩
  obtain ⟨xs, h1, h2, h3, h4⟩ := open_row ht he hc h
  refine ⟨xs.map fun n => UInt8.ofNat n.toNat, by simpa using h1, ⟨?_, _, _, rfl, hx.1⟩, h4, hx.2⟩
  rw [bytes_of xs h2]
  exact h3
/-- Its length, by the row's reach. -/
theorem reach_len {H : Type} {P : Program} {ts : List TypeId} {ds : List (DataW H)} (h : (DataW.weightsEach P ts ds).all (· ≤ reachBytes) = true) {j : Nat} {t e : TypeId} {d : DataW H} {len : Nat} (ht : ts[j]? = some t) (hd : ds[j]? = some d) (hu : P.underlying t = some (.slice e)) (hb : P.bytesOf e = 1)
    (hl : len = 0 ∨ ∃ el sp, d = .slice el sp ∧ el.length = len) : len ≤ 140737488351232 := by
  rcases hl with rfl | ⟨el, sp, rfl, rfl⟩
  · omega
  · have := sized_slice h ht hd hu
    rw [hb, Nat.mul_one] at this
    simp [reachBytes] at this
    omega

def tabZ : List Int := [16, 17, 18, 0, 8, 7, 9, 6, 10, 5, 11, 4, 12, 3, 13, 2, 14, 1, 15]
theorem tabZ_eq {i : Nat} (h : i < 19) : tabZ.getD i 0 = ((Go.If.ordL.getD i 0 : Nat) : Int) := by
  have : ∀ i : Fin 19, tabZ.getD i.val 0 = ((Go.If.ordL.getD i.val 0 : Nat) : Int) := by decide
  exact this ⟨i, h⟩
theorem tab_met {W : World} (h : laidMetH Tryd.prog [("stemma/inflate.order", Rows.laid_stemma_inflate_order)] W) : OrAt [blks W] := by
  letI : W0 := ⟨W.os, W.output⟩
  have ht : Lib.TabIs Tryd.prog W "stemma/inflate.order" .i64 tabZ :=
    Lib.tabIs_of_head (rest := []) (show Tryd.prog.globalNamed "stemma/inflate.order" = some 0 by kernel_rfl) (show (Tryd.prog.globals[0]?).map (·.type) = some 134 by kernel_rfl)
      Tryd.underlying134 Tryd.underlying3 (show Tryd.prog.cellsOf 3 = 1 by kernel_rfl) (show Tryd.prog.cellsOf 134 = 19 by kernel_rfl) h
  have hg : Tryd.prog.globalNamed "stemma/inflate.order" = some 0 := by kernel_rfl
  have hc0 := ht.cell hg 0 (by decide)
  have hblk : ∃ C T fr, W.heap[0]? = some (.cells C T fr) := by
    unfold World.cell? at hc0
    split at hc0
    · rename_i C T fr hb; exact ⟨C, T, fr, hb⟩
    · cases hc0
  obtain ⟨C, T, fr, hb⟩ := hblk
  refine ⟨C, T, fr, by simpa [Fnd] using blks_mem.2 hb, fun i hi => ?_⟩
  have := ht.cell hg i hi
  rw [cell_of hb] at this
  rw [this, tabZ_eq hi]
end Go.Proofs.YtkiaegkojlhaeaaDoor
