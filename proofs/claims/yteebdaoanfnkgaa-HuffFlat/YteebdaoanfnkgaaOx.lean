/- From a row to the layer: truth values that came in. It proves no statement by itself. No conditions. -/
import Derived.Test.YteebdaoanfnkgaaZo
import Derived.Test.YteebdaoanfnkgaaOv
import Derived.Deep.Grids
namespace Go.Proofs.Yteebdaoanfnkgaa
open Go Go.Vx Go.ChangeShapes Go.WideShapes Go.ChangeAt Go.RowKit
set_option maxRecDepth 4000
set_option linter.all false

/-- A slice of truth values that came in. -/
theorem open_boolr {H : Type} {enc : TypeId × Value → H} {P : Program} {W : World} {t e : TypeId} {a : Option Addr} {len cap : Nat} {d : DataW H} {ps : List MemPlace} (ht : P.underlying t = some (.slice e)) (he : P.underlying e = some .bool) (hc : P.cellsOf e = 1)
    (h : DataW.Trod enc P W 0 (fun _ => true) true t (.slice a len cap) d ps) :
    ∃ xs : List Bool, xs.length = len ∧ Sl [blks W] 1 (.slice a len cap) len (blV xs) := by
  letI : W0 := ⟨W.os, W.output⟩
  obtain ⟨fuel, hf⟩ := h
  rcases Go.Deep.open_bools ht he hc hf with ⟨hcs, _⟩ | ⟨x, l, c, B, hcs, _, hl, hm, hx, hcell⟩
  · simp [Value.cells] at hcs
    obtain ⟨rfl, rfl, rfl⟩ := hcs
    exact ⟨[], rfl, .inl ⟨0, rfl, rfl, rfl⟩⟩
  · simp [Value.cells] at hcs
    obtain ⟨rfl, rfl, rfl⟩ := hcs
    refine ⟨(List.range len).map B, by simp, ?_⟩
    refine .inr ⟨x, cap, rfl, ?_, by simp [blV]⟩
    rcases Nat.eq_zero_or_pos len with h0 | h0
    · subst h0; exact .inl (by simp [blV])
    · have hc0 := hcell 0 (by omega)
      obtain ⟨b, off, spot⟩ := x
      have hspot : spot = none := by simpa [Addr.add] using World.cell?_spot hc0
      subst hspot
      have hblk : ∃ C T fr, W.heap[b]? = some (.cells C T fr) := by
        have : (⟨b, off, none⟩ : Addr).add 0 = ⟨b, off, none⟩ := by simp [Addr.add]
        rw [this] at hc0
        unfold World.cell? at hc0
        split at hc0
        · rename_i C T fr hb; exact ⟨C, T, fr, hb⟩
        · cases hc0
      obtain ⟨C, T, fr, hb⟩ := hblk
      refine .inr ⟨b, off, C, T, fr, rfl, by simpa [Fnd] using blks_mem.2 hb, fun j u hj => ?_⟩
      have hjl : j < len := by
        rcases Nat.lt_or_ge j len with h' | h'
        · exact h'
        · rw [List.getElem?_eq_none (by simp [blV]; omega)] at hj; simp at hj
      have hcj := hcell j (by omega)
      rw [addr_add, cell_of hb] at hcj
      rw [hcj, ← hj]
      simp [blV, List.getElem?_range hjl]
end Go.Proofs.Yteebdaoanfnkgaa
