/- From a row to the layer: bytes and slices of bytes that came in, bytealg.MaxLen. It proves no statement by itself. No conditions. -/
import Derived.Test.YtckelgpocplplaaRq
import Derived.Test.YtckelgpocplplaaWm
namespace Go.Proofs.Ytckelgpocplplaa
open Go Go.Vx Go.ChangeShapes Go.WideShapes Go.ChangeAt Go.RowKit
set_option maxRecDepth 4000
set_option linter.all false
theorem open_rz {H : Type} {enc : TypeId × Value → H} {P : Program} {W : World} {t e : TypeId} {a : Option Addr} {len cap : Nat} {d : DataW H} {ps : List MemPlace} (ht : P.underlying t = some (.slice e)) (he : P.underlying e = some (.int .u8)) (hc : P.cellsOf e = 1)
    (h : DataW.Trod enc P W 0 (fun _ => true) true t (.slice a len cap) d ps) :
    ∃ xs : List UInt8, xs.length = len ∧ Rz [blks W] (.slice a len cap) xs ∧ (len = 0 ∨ ∃ el sp, d = .slice el sp ∧ el.length = len) := by
  have hx : (len ≤ cap ∧ (a = none → cap = 0)) ∧ (len = 0 ∨ ∃ el sp, d = .slice el sp ∧ el.length = len) := by
    obtain ⟨fuel, hf⟩ := h
    rcases open_ints ht he hc hf with ⟨hcs, _⟩ | ⟨x, l, c, zs, hcs, _, hl, hm, hz, hx, hcell, hwz⟩
    · simp [Value.cells] at hcs
      obtain ⟨rfl, rfl, rfl⟩ := hcs
      exact ⟨⟨Nat.le_refl _, fun _ => rfl⟩, .inl rfl⟩
    · simp [Value.cells] at hcs
      obtain ⟨rfl, rfl, rfl⟩ := hcs
      have hzl : zs.length = cap := by simpa using hz
      have hd : d = .slice (lits .u8 (zs.take len)) (lits .u8 (zs.drop len)) := by injection hx
      exact ⟨⟨hl, fun h => by cases h⟩, .inr ⟨_, _, hd, by simp [lits]; omega⟩⟩
  obtain ⟨xs, h1, h2, h3, _⟩ := open_row ht he hc h
  have hlen : (xs.map fun n => UInt8.ofNat n.toNat).length = len := by simpa using h1
  refine ⟨xs.map fun n => UInt8.ofNat n.toNat, hlen, ⟨?_, fun m c hv => ?_⟩, hx.2⟩
  · rw [hlen, bytes_of xs h2]
    exact ⟨h3, _, _, rfl, hx.1.1⟩
  · injection hv with e1 e2 e3
    rw [← e3]
    exact hx.1.2 e1
theorem open_cellZ {H : Type} {enc : TypeId × Value → H} {P : Program} {W : World} {t e fuel : Nat} {cs : List Value} {x : DataW H × List MemPlace} (ht : P.underlying t = some (.slice e)) (he : P.underlying e = some (.int .u8)) (hc : P.cellsOf e = 1)
    (h : DataW.trod enc P W 0 (fun _ => true) true fuel t cs = some x) :
    ∃ (v : Value) (b : List UInt8), cs = [v] ∧ Rz [blks W] v b := by
  have hcs : ∃ a len cap, cs = [.slice a len cap] := by
    rcases open_ints ht he hc h with ⟨h1, _⟩ | ⟨y, l, c, zs, h1, _⟩
    · exact ⟨_, _, _, h1⟩
    · exact ⟨_, _, _, h1⟩
  obtain ⟨a, len, cap, rfl⟩ := hcs
  obtain ⟨xs, hx, hs, _⟩ := open_rz (enc := enc) (a := a) (len := len) (cap := cap) (d := x.1) (ps := x.2) ht he hc ⟨fuel, by simpa [Value.cells] using h⟩
  subst hx
  exact ⟨_, xs, rfl, hs⟩
theorem open_llz {H : Type} {enc : TypeId × Value → H} {W : World} {a : Option Addr} {len cap : Nat} {d : DataW H} {ps : List MemPlace} (h : DataW.Trod enc Try.prog W 0 (fun _ => true) true 22 (.slice a len cap) d ps) :
    ∃ l : List (List UInt8), l.length = len ∧ LlZ [blks W] (.slice a l.length cap) l := by
  letI : W0 := ⟨W.os, W.output⟩
  obtain ⟨fuel, hf⟩ := h
  rcases DataW.trod_slice Try.underlying22 hf with ⟨hcs, _⟩ | ⟨x, l, c, elems, rest, n, _, hcs, hxx, _, hl, _, hel, hat, _, _⟩
  · simp [Value.cells] at hcs
    obtain ⟨rfl, rfl, rfl⟩ := hcs
    exact ⟨[], rfl, ⟨⟨_, _, rfl⟩, fun i o h => by simp at h⟩⟩
  · simp [Value.cells] at hcs
    obtain ⟨rfl, rfl, rfl⟩ := hcs
    have csz : Try.prog.cellsOf 23 = 1 := by kernel_rfl
    simp only [csz] at hat
    clear hxx
    have key : ∀ i, i < len → ∃ (u : Value) (b : List UInt8), W.cell? (x.add (i * 1)) = some u ∧ Rz [blks W] u b := by
      intro i hi
      have h1 := hat i hi
      rw [List.getElem?_eq_getElem (by omega)] at h1
      obtain ⟨cs, h2, h3⟩ := Option.bind_eq_some_iff.1 h1
      obtain ⟨_, h4, h5⟩ := World.cells?_some h2
      obtain ⟨u, b, rfl, g2⟩ := open_cellZ Try.underlying23 Try.underlying5 (by kernel_rfl) h3
      have h6 := h5 0 (by omega)
      refine ⟨u, b, ?_, g2⟩
      simpa [Addr.add] using h6
    have hex : ∀ m, m ≤ len → ∃ l : List (List UInt8), l.length = m ∧ ∀ i b, l[i]? = some b → ∃ u, W.cell? (x.add (i * 1)) = some u ∧ Rz [blks W] u b := by
      intro m
      induction m with
      | zero => intro _; exact ⟨[], rfl, fun i o h => by simp at h⟩
      | succ m ih =>
        intro hm
        obtain ⟨l, g1, g2⟩ := ih (by omega)
        obtain ⟨u, b, r1, r2⟩ := key m (by omega)
        refine ⟨l ++ [b], by simp [g1], fun i o ho => ?_⟩
        rcases Nat.lt_or_ge i l.length with h' | h'
        · rw [List.getElem?_append_left h'] at ho; exact g2 i o ho
        · rw [List.getElem?_append_right h'] at ho
          have hi0 : i = m := by
            rcases Nat.eq_zero_or_pos (i - l.length) with h3 | h3
            · omega
            · rw [List.getElem?_eq_none (by simp; omega)] at ho; simp at ho
          subst hi0
          rw [g1] at ho
          simp at ho
          subst ho
          exact ⟨u, r1, r2⟩
    obtain ⟨ll, g1, g2⟩ := hex len (Nat.le_refl _)
    refine ⟨ll, g1, ⟨⟨_, _, rfl⟩, fun i b hb => ?_⟩⟩
    obtain ⟨u, r1, r2⟩ := g2 i b hb
    obtain ⟨bb, off, spot⟩ := x
    have hspot : spot = none := by
      have h0 : 0 < ll.length := by
        rcases Nat.eq_zero_or_pos ll.length with h0 | h0
        · rw [List.getElem?_eq_none (by omega)] at hb; simp at hb
        · exact h0
      obtain ⟨u0, q1, _⟩ := g2 0 ll[0] (by simp [h0])
      have := World.cell?_spot q1
      simpa [Addr.add] using this
    subst hspot
    rw [addr_add] at r1
    have hblk : ∃ C T fr, W.heap[bb]? = some (.cells C T fr) := by
      have h7 := r1
      unfold World.cell? at h7
      split at h7
      · rename_i C T fr hb; exact ⟨C, T, fr, hb⟩
      · cases h7
    obtain ⟨C, T, fr, hbk⟩ := hblk
    rw [cell_of hbk] at r1
    exact ⟨bb, off, cap, C, T, fr, u, rfl, by simpa [Fnd] using blks_mem.2 hbk, r1, r2⟩
theorem mx_met [W0] {W : World} (hsh : W.ShapedOpen Try.prog) : MxAt [blks W] := by
  have hmx : ∃ m, W.cell? ⟨0, 0, none⟩ = some (.int .i64 m) :=
    cell_of_shapedOpen_int (t := 3) (zero := #[.int .i64 0]) hsh (of_decide_eq_true (by kernel_rfl)) (by kernel_rfl) (by kernel_rfl) (by kernel_rfl) (by kernel_rfl) Try.underlying3
  refine hmx.imp fun m hm w hw => ?_
  have hlt : 0 < W.heap.size := by
    rcases Nat.lt_or_ge 0 W.heap.size with h' | h'
    · exact h'
    · have : W.heap[0]? = none := Array.getElem?_eq_none h'
      simp [World.cell?, this] at hm
  have hk : w.heap[0]? = W.heap[0]? := by
    have hm2 : W.heap[0]? = some W.heap[0] := Array.getElem?_eq_getElem hlt
    rw [hm2]
    exact hw.2.1 (0, W.heap[0]) (by simpa using blks_mem.2 hm2)
  rw [← hm]
  unfold World.cell?
  rw [hk]
end Go.Proofs.Ytckelgpocplplaa
