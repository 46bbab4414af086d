/- Slices of slices of bytes that came in. It proves no statement by itself. No conditions. -/
import Derived.Test.YtkiaegkojlhaeaaDoorMt
namespace Go.Proofs.YtkiaegkojlhaeaaDoor
open Go Go.Vx Go.ChangeShapes Go.WideShapes Go.ChangeAt Go.RowKit
set_option maxRecDepth 4000
set_option linter.all false

section
variable [W0]
omit [W0] in
/-- Slices of bytes in a row that came in. -/
structure LlAt (L : List Chunk) (v : Value) (l : List (List UInt8)) : Prop where
  shape : ∃ a c, v = .slice a l.length c
  at_ : ∀ i b, l[i]? = some b → ∃ bb off c C T fr u, v = .slice (some ⟨bb, off, none⟩) l.length c ∧ Fnd L bb (.cells C T fr) ∧ C[off + i * 1]? = some u ∧ SlC L 1 u b.length (bsv b)
omit [W0] in
/-- What the first k pieces make. -/
def joinN (l : List (List UInt8)) (k : Nat) : List UInt8 := (l.take k).flatten
theorem joinN_succ {l : List (List UInt8)} {k : Nat} {b : List UInt8} (h : l[k]? = some b) : joinN l (k + 1) = joinN l k ++ b := by
  simp [joinN, List.take_add_one, h]
theorem joinN_len {l : List (List UInt8)} {m : Nat} (h : ∀ b ∈ l, b.length ≤ m) : ∀ k, (joinN l k).length ≤ k * m
  | 0 => by simp [joinN]
  | k + 1 => by
    have ih := joinN_len h k
    rcases Nat.lt_or_ge k l.length with hk | hk
    · have hb : l[k]? = some l[k] := by simp [hk]
      rw [joinN_succ hb, List.length_append, Nat.add_mul, Nat.one_mul]
      have := h l[k] (List.getElem_mem _)
      omega
    · have e : joinN l (k + 1) = joinN l k := by simp [joinN, List.take_of_length_le hk, List.take_of_length_le (show l.length ≤ k + 1 by omega)]
      rw [e, Nat.add_mul]
      omega

end
theorem bulk_pos {H : Type} (d : DataW H) : 1 ≤ Rows.uptoBulk d := by
  cases d with
  | lit l => cases l <;> simp [Rows.uptoBulk]
  | nil => simp [Rows.uptoBulk]
  | ptr d => simp [Rows.uptoBulk]
  | slice a b => simp [Rows.uptoBulk]
  | agg a => simp [Rows.uptoBulk]
  | iface a d => simp [Rows.uptoBulk]
  | map a => simp [Rows.uptoBulk]
  | held a => simp [Rows.uptoBulk]
theorem bulk_len {H : Type} : ∀ (l : List (DataW H)), l.length ≤ Rows.uptoBulkAll l
  | [] => Nat.zero_le _
  | d :: r => by
    have h1 := bulk_pos d
    have h2 := bulk_len r
    simp only [Rows.uptoBulkAll, List.length_cons]
    omega
theorem bulk_in {H : Type} {d : DataW H} : ∀ {l : List (DataW H)}, d ∈ l → Rows.uptoBulk d ≤ Rows.uptoBulkAll l
  | [], h => by simp at h
  | x :: r, h => by
    simp only [Rows.uptoBulkAll]
    rcases List.mem_cons.1 h with h2 | h2
    · subst h2; omega
    · have := bulk_in h2; omega

/-- A slice of bytes in a cell that came in. -/
theorem open_cellL {H : Type} {enc : TypeId × Value → H} {P : Program} {W : World} {t e fuel : Nat} {cs : List Value} {x : DataW H × List MemPlace} (ht : P.underlying t = some (.slice e)) (he : P.underlying e = some (.int .u8)) (hc : P.cellsOf e = 1)
    (h : DataW.trod enc P W 0 (fun _ => true) true fuel t cs = some x) :
    ∃ (v : Value) (b : List UInt8), cs = [v] ∧ v.oneCell' = true ∧ SlC [blks W] 1 v b.length (bsv b) ∧ b.length ≤ Rows.uptoBulk x.1 := by
  have hcs : ∃ a len cap, cs = [.slice a len cap] := by
    rcases open_ints ht he hc h with ⟨h1, _⟩ | ⟨y, l, c, zs, h1, _⟩
    · exact ⟨_, _, _, h1⟩
    · exact ⟨_, _, _, h1⟩
  obtain ⟨a, len, cap, rfl⟩ := hcs
  obtain ⟨xs, hx, hs, hbk, _⟩ := open_bytes (enc := enc) (a := a) (len := len) (cap := cap) (d := x.1) (ps := x.2) ht he hc ⟨fuel, by simpa [Value.cells] using h⟩
  subst hx
  exact ⟨_, xs, rfl, rfl, hs, hbk⟩

theorem open_ll {H : Type} {enc : TypeId × Value → H} {W : World} {a : Option Addr} {len cap : Nat} {d : DataW H} {ps : List MemPlace} (h : DataW.Trod enc Tryd.prog W 0 (fun _ => true) true 34 (.slice a len cap) d ps) :
    ∃ l : List (List UInt8), LlAt [blks W] (.slice a len cap) l ∧ l.length = len ∧ (len ≤ Rows.uptoBulk d ∧ ∀ b ∈ l, b.length ≤ Rows.uptoBulk d) := by
  letI : W0 := ⟨W.os, W.output⟩
  obtain ⟨fuel, hf⟩ := h
  rcases DataW.trod_slice Tryd.underlying34 hf with ⟨hcs, _⟩ | ⟨x, l, c, elems, rest, n, _, hcs, hxx, _, hl, _, hel, hat, _, _⟩
  · simp [Value.cells] at hcs
    obtain ⟨rfl, rfl, rfl⟩ := hcs
    exact ⟨[], ⟨⟨_, _, rfl⟩, fun i o h => by simp at h⟩, rfl, Nat.zero_le _, fun o h => by simp at h⟩
  · simp [Value.cells] at hcs
    obtain ⟨rfl, rfl, rfl⟩ := hcs
    have csz : Tryd.prog.cellsOf 22 = 1 := by kernel_rfl
    simp only [csz] at hat
    have hdd : d = .slice (elems.map (·.1)) (rest.map (·.1)) := by injection hxx
    have hbd : ∀ y ∈ elems, Rows.uptoBulk y.1 ≤ Rows.uptoBulk d := fun y hy => by
      have := bulk_in (List.mem_map_of_mem (f := (·.1)) hy)
      rw [hdd]; simp only [Rows.uptoBulk]; omega
    have hlen : len ≤ Rows.uptoBulk d := by
      have h1 := bulk_len (elems.map (·.1))
      rw [List.length_map] at h1
      rw [hdd]; simp only [Rows.uptoBulk]
      omega
    clear hxx
    have key : ∀ i, i < len → ∃ (u : Value) (b : List UInt8), W.cell? (x.add (i * 1)) = some u ∧ SlC [blks W] 1 u b.length (bsv b) ∧ b.length ≤ Rows.uptoBulk d := by
      intro i hi
      have h1 := hat i hi
      rw [List.getElem?_eq_getElem (by omega)] at h1
      obtain ⟨cs, h2, h3⟩ := Option.bind_eq_some_iff.1 h1
      obtain ⟨_, h4, h5⟩ := World.cells?_some h2
      obtain ⟨u, b, rfl, _, g2, g3⟩ := open_cellL Tryd.underlying22 Tryd.underlying5 (by kernel_rfl) h3
      have h6 := h5 0 (by omega)
      refine ⟨u, b, ?_, g2, Nat.le_trans g3 (hbd _ (List.getElem_mem _))⟩
      simpa [Addr.add] using h6
    have hex : ∀ m, m ≤ len → ∃ l : List (List UInt8), l.length = m ∧ ∀ i b, l[i]? = some b → ∃ u, W.cell? (x.add (i * 1)) = some u ∧ SlC [blks W] 1 u b.length (bsv b) ∧ b.length ≤ Rows.uptoBulk d := by
      intro m
      induction m with
      | zero => intro _; exact ⟨[], rfl, fun i o h => by simp at h⟩
      | succ m ih =>
        intro hm
        obtain ⟨l, g1, g2⟩ := ih (by omega)
        obtain ⟨u, b, r1, r2, r3⟩ := key m (by omega)
        refine ⟨l ++ [b], by simp [g1], fun i o ho => ?_⟩
        rcases Nat.lt_or_ge i l.length with h' | h'
        · rw [List.getElem?_append_left h'] at ho; exact g2 i o ho
        · rw [List.getElem?_append_right h'] at ho
          have hi0 : i = m := by
            rcases Nat.eq_zero_or_pos (i - l.length) with h3 | h3
            · omega
            · rw [List.getElem?_eq_none (by simp; omega)] at ho; simp at ho
          subst hi0
          rw [g1] at ho
          simp at ho
          subst ho
          exact ⟨u, r1, r2, r3⟩
    obtain ⟨ll, g1, g2⟩ := hex len (Nat.le_refl _)
    refine ⟨ll, ⟨⟨_, _, by rw [g1]⟩, fun i b hb => ?_⟩, g1, hlen, fun b hb => ?_⟩
    · obtain ⟨u, r1, r2, _⟩ := g2 i b hb
      obtain ⟨bb, off, spot⟩ := x
      have hspot : spot = none := by
        have h0 : 0 < ll.length := by
          rcases Nat.eq_zero_or_pos ll.length with h0 | h0
          · rw [List.getElem?_eq_none (by omega)] at hb; simp at hb
          · exact h0
        obtain ⟨u0, q1, _⟩ := g2 0 ll[0] (by simp [h0])
        have := World.cell?_spot q1
        simpa [Addr.add] using this
      subst hspot
      rw [addr_add] at r1
      have hblk : ∃ C T fr, W.heap[bb]? = some (.cells C T fr) := by
        have h7 := r1
        unfold World.cell? at h7
        split at h7
        · rename_i C T fr hb; exact ⟨C, T, fr, hb⟩
        · cases h7
      obtain ⟨C, T, fr, hbk⟩ := hblk
      rw [cell_of hbk] at r1
      exact ⟨bb, off, cap, C, T, fr, u, by rw [g1], by simpa [Fnd] using blks_mem.2 hbk, r1, r2⟩
    · obtain ⟨i, hi⟩ := List.getElem?_of_mem hb
      obtain ⟨u, _, _, r3⟩ := g2 i b hi
      exact r3
end Go.Proofs.YtkiaegkojlhaeaaDoor
