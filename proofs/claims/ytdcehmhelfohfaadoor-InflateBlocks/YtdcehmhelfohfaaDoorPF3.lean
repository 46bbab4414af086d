/- InflateBlocks returns true and leaves its arguments as they were, wherever what it reads is of bulk at most 1048576; the table that the program reads is tied to its text (the card). Condition: that bound. -/
import Derived.Test.YtdcehmhelfohfaaDoorPF2
namespace Go.Proofs.YtdcehmhelfohfaaDoor
open Go Go.Vx Go.ChangeShapes Go.WideShapes Go.ChangeAt Go.RowKit
set_option maxRecDepth 4000
set_option linter.all false
theorem open_bytes {H : Type} {enc : TypeId × Value → H} {P : Program} {W : World} {t e : TypeId} {a : Option Addr} {len cap : Nat} {d : DataW H} {ps : List MemPlace} (ht : P.underlying t = some (.slice e)) (he : P.underlying e = some (.int .u8)) (hc : P.cellsOf e = 1)
    (h : DataW.Trod enc P W 0 (fun _ => true) true t (.slice a len cap) d ps) :
    ∃ xs : List UInt8, xs.length = len ∧ SlC [blks W] 1 (.slice a len cap) len (bsv xs) ∧ len ≤ Rows.uptoBulk d ∧ (len = 0 ∨ ∃ el sp, d = .slice el sp ∧ el.length = len) := by
  have hx : len ≤ cap ∧ (len = 0 ∨ ∃ el sp, d = .slice el sp ∧ el.length = len) := by
    obtain ⟨fuel, hf⟩ := h
    rcases open_ints ht he hc hf with ⟨hcs, _⟩ | ⟨x, l, c, zs, hcs, _, hl, hm, hz, hx, hcell, hwz⟩
    · simp [Value.cells] at hcs
      obtain ⟨rfl, rfl, rfl⟩ := hcs
      exact ⟨Nat.le_refl _, .inl rfl⟩
    · simp [Value.cells] at hcs
      obtain ⟨rfl, rfl, rfl⟩ := hcs
      have hzl : zs.length = cap := by simpa using hz
      have hd : d = .slice (lits .u8 (zs.take len)) (lits .u8 (zs.drop len)) := by injection hx
      exact ⟨hl, .inr ⟨_, _, hd, by simp [lits]; omega⟩⟩
  obtain ⟨xs, h1, h2, h3, h4⟩ := open_row ht he hc h
  refine ⟨xs.map fun n => UInt8.ofNat n.toNat, by simpa using h1, ⟨?_, _, _, rfl, hx.1⟩, h4, hx.2⟩
  rw [bytes_of xs h2]
  exact h3
theorem reach_len {H : Type} {P : Program} {ts : List TypeId} {ds : List (DataW H)} (h : (DataW.weightsEach P ts ds).all (· ≤ reachBytes) = true) {j : Nat} {t e : TypeId} {d : DataW H} {len : Nat} (ht : ts[j]? = some t) (hd : ds[j]? = some d) (hu : P.underlying t = some (.slice e)) (hb : P.bytesOf e = 1)
    (hl : len = 0 ∨ ∃ el sp, d = .slice el sp ∧ el.length = len) : len ≤ 140737488351232 := by
  rcases hl with rfl | ⟨el, sp, rfl, rfl⟩
  · omega
  · have := sized_slice h ht hd hu
    rw [hb, Nat.mul_one] at this
    simp [reachBytes] at this
    omega
def tabZ : List Int := [16, 17, 18, 0, 8, 7, 9, 6, 10, 5, 11, 4, 12, 3, 13, 2, 14, 1, 15]
theorem tabZ_eq {i : Nat} (h : i < 19) : tabZ.getD i 0 = ((Go.If.ordL.getD i 0 : Nat) : Int) := by
  have : ∀ i : Fin 19, tabZ.getD i.val 0 = ((Go.If.ordL.getD i.val 0 : Nat) : Int) := by decide
  exact this ⟨i, h⟩
theorem tab_met {W : World} (h : laidMetH Tryd.prog [("stemma/symbols.order", Rows.laid_stemma_symbols_order)] W) : OrAt [blks W] := by
  letI : W0 := ⟨W.os, W.output⟩
  have ht : Lib.TabIs Tryd.prog W "stemma/symbols.order" .i64 tabZ :=
    Lib.tabIs_of_head (rest := []) (show Tryd.prog.globalNamed "stemma/symbols.order" = some 0 by kernel_rfl) (show (Tryd.prog.globals[0]?).map (·.type) = some 139 by kernel_rfl)
      Tryd.underlying139 Tryd.underlying3 (show Tryd.prog.cellsOf 3 = 1 by kernel_rfl) (show Tryd.prog.cellsOf 139 = 19 by kernel_rfl) h
  have hg : Tryd.prog.globalNamed "stemma/symbols.order" = some 0 := by kernel_rfl
  have hc0 := ht.cell hg 0 (by decide)
  have hblk : ∃ C T fr, W.heap[0]? = some (.cells C T fr) := by
    unfold World.cell? at hc0
    split at hc0
    · rename_i C T fr hb; exact ⟨C, T, fr, hb⟩
    · cases hc0
  obtain ⟨C, T, fr, hb⟩ := hblk
  refine ⟨C, T, fr, by simpa [Fnd] using blks_mem.2 hb, fun i hi => ?_⟩
  have := ht.cell hg i hi
  rw [cell_of hb] at this
  rw [this, tabZ_eq hi]
end Go.Proofs.YtdcehmhelfohfaaDoor
namespace Go.Proofs.YtdcehmhelfohfaaDoor
open Go Go.Vx Go.ChangeShapes Go.WideShapes Go.ChangeAt Go.RowKit
set_option maxRecDepth 4000
set_option linter.all false
section
variable [W0]
omit [W0] in
/-- Slices of bytes in a row that came in. -/
structure LlAt (L : List Chunk) (v : Value) (l : List (List UInt8)) : Prop where
  shape : ∃ a c, v = .slice a l.length c
  at_ : ∀ i b, l[i]? = some b → ∃ bb off c C T fr u, v = .slice (some ⟨bb, off, none⟩) l.length c ∧ Fnd L bb (.cells C T fr) ∧ C[off + i * 1]? = some u ∧ SlC L 1 u b.length (bsv b)
end
theorem bulk_pos {H : Type} (d : DataW H) : 1 ≤ Rows.uptoBulk d := by
  cases d with
  | lit l => cases l <;> simp [Rows.uptoBulk]
  | nil => simp [Rows.uptoBulk]
  | ptr d => simp [Rows.uptoBulk]
  | slice a b => simp [Rows.uptoBulk]
  | agg a => simp [Rows.uptoBulk]
  | iface a d => simp [Rows.uptoBulk]
  | map a => simp [Rows.uptoBulk]
  | held a => simp [Rows.uptoBulk]
theorem bulk_len {H : Type} : ∀ (l : List (DataW H)), l.length ≤ Rows.uptoBulkAll l
  | [] => Nat.zero_le _
  | d :: r => by
    have h1 := bulk_pos d
    have h2 := bulk_len r
    simp only [Rows.uptoBulkAll, List.length_cons]
    omega
theorem bulk_in {H : Type} {d : DataW H} : ∀ {l : List (DataW H)}, d ∈ l → Rows.uptoBulk d ≤ Rows.uptoBulkAll l
  | [], h => by simp at h
  | x :: r, h => by
    simp only [Rows.uptoBulkAll]
    rcases List.mem_cons.1 h with h2 | h2
    · subst h2; omega
    · have := bulk_in h2; omega
theorem open_cellL {H : Type} {enc : TypeId × Value → H} {P : Program} {W : World} {t e fuel : Nat} {cs : List Value} {x : DataW H × List MemPlace} (ht : P.underlying t = some (.slice e)) (he : P.underlying e = some (.int .u8)) (hc : P.cellsOf e = 1)
    (h : DataW.trod enc P W 0 (fun _ => true) true fuel t cs = some x) :
    ∃ (v : Value) (b : List UInt8), cs = [v] ∧ v.oneCell' = true ∧ SlC [blks W] 1 v b.length (bsv b) ∧ b.length ≤ Rows.uptoBulk x.1 := by
  have hcs : ∃ a len cap, cs = [.slice a len cap] := by
    rcases open_ints ht he hc h with ⟨h1, _⟩ | ⟨y, l, c, zs, h1, _⟩
    · exact ⟨_, _, _, h1⟩
    · exact ⟨_, _, _, h1⟩
  obtain ⟨a, len, cap, rfl⟩ := hcs
  obtain ⟨xs, hx, hs, hbk, _⟩ := open_bytes (enc := enc) (a := a) (len := len) (cap := cap) (d := x.1) (ps := x.2) ht he hc ⟨fuel, by simpa [Value.cells] using h⟩
  subst hx
  exact ⟨_, xs, rfl, rfl, hs, hbk⟩
theorem open_ll {H : Type} {enc : TypeId × Value → H} {W : World} {a : Option Addr} {len cap : Nat} {d : DataW H} {ps : List MemPlace} (h : DataW.Trod enc Tryd.prog W 0 (fun _ => true) true 34 (.slice a len cap) d ps) :
    ∃ l : List (List UInt8), LlAt [blks W] (.slice a len cap) l ∧ l.length = len ∧ (len ≤ Rows.uptoBulk d ∧ ∀ b ∈ l, b.length ≤ Rows.uptoBulk d) := by
  letI : W0 := ⟨W.os, W.output⟩
  obtain ⟨fuel, hf⟩ := h
  rcases DataW.trod_slice Tryd.underlying34 hf with ⟨hcs, _⟩ | ⟨x, l, c, elems, rest, n, _, hcs, hxx, _, hl, _, hel, hat, _, _⟩
  · simp [Value.cells] at hcs
    obtain ⟨rfl, rfl, rfl⟩ := hcs
    exact ⟨[], ⟨⟨_, _, rfl⟩, fun i o h => by simp at h⟩, rfl, Nat.zero_le _, fun o h => by simp at h⟩
  · simp [Value.cells] at hcs
    obtain ⟨rfl, rfl, rfl⟩ := hcs
    have csz : Tryd.prog.cellsOf 22 = 1 := by kernel_rfl
    simp only [csz] at hat
    have hdd : d = .slice (elems.map (·.1)) (rest.map (·.1)) := by injection hxx
    have hbd : ∀ y ∈ elems, Rows.uptoBulk y.1 ≤ Rows.uptoBulk d := fun y hy => by
      have := bulk_in (List.mem_map_of_mem (f := (·.1)) hy)
      rw [hdd]; simp only [Rows.uptoBulk]; omega
    have hlen : len ≤ Rows.uptoBulk d := by
      have h1 := bulk_len (elems.map (·.1))
      rw [List.length_map] at h1
      rw [hdd]; simp only [Rows.uptoBulk]
      omega
    clear hxx
    have key : ∀ i, i < len → ∃ (u : Value) (b : List UInt8), W.cell? (x.add (i * 1)) = some u ∧ SlC [blks W] 1 u b.length (bsv b) ∧ b.length ≤ Rows.uptoBulk d := by
      intro i hi
      have h1 := hat i hi
      rw [List.getElem?_eq_getElem (by omega)] at h1
      obtain ⟨cs, h2, h3⟩ := Option.bind_eq_some_iff.1 h1
      obtain ⟨_, h4, h5⟩ := World.cells?_some h2
      obtain ⟨u, b, rfl, _, g2, g3⟩ := open_cellL Tryd.underlying22 Tryd.underlying5 (by kernel_rfl) h3
      have h6 := h5 0 (by omega)
      refine ⟨u, b, ?_, g2, Nat.le_trans g3 (hbd _ (List.getElem_mem _))⟩
      simpa [Addr.add] using h6
    have hex : ∀ m, m ≤ len → ∃ l : List (List UInt8), l.length = m ∧ ∀ i b, l[i]? = some b → ∃ u, W.cell? (x.add (i * 1)) = some u ∧ SlC [blks W] 1 u b.length (bsv b) ∧ b.length ≤ Rows.uptoBulk d := by
      intro m
      induction m with
      | zero => intro _; exact ⟨[], rfl, fun i o h => by simp at h⟩
      | succ m ih =>
        intro hm
        obtain ⟨l, g1, g2⟩ := ih (by omega)
        obtain ⟨u, b, r1, r2, r3⟩ := key m (by omega)
        refine ⟨l ++ [b], by simp [g1], fun i o ho => ?_⟩
        rcases Nat.lt_or_ge i l.length with h' | h'
        · rw [List.getElem?_append_left h'] at ho; exact g2 i o ho
        · rw [List.getElem?_append_right h'] at ho
          have hi0 : i = m := by
            rcases Nat.eq_zero_or_pos (i - l.length) with h3 | h3
            · omega
            · rw [List.getElem?_eq_none (by simp; omega)] at ho; simp at ho
          subst hi0
          rw [g1] at ho
          simp at ho
          subst ho
          exact ⟨u, r1, r2, r3⟩
    obtain ⟨ll, g1, g2⟩ := hex len (Nat.le_refl _)
    refine ⟨ll, ⟨⟨_, _, by rw [g1]⟩, fun i b hb => ?_⟩, g1, hlen, fun b hb => ?_⟩
    · obtain ⟨u, r1, r2, _⟩ := g2 i b hb
      obtain ⟨bb, off, spot⟩ := x
      have hspot : spot = none := by
        have h0 : 0 < ll.length := by
          rcases Nat.eq_zero_or_pos ll.length with h0 | h0
          · rw [List.getElem?_eq_none (by omega)] at hb; simp at hb
          · exact h0
        obtain ⟨u0, q1, _⟩ := g2 0 ll[0] (by simp [h0])
        have := World.cell?_spot q1
        simpa [Addr.add] using this
      subst hspot
      rw [addr_add] at r1
      have hblk : ∃ C T fr, W.heap[bb]? = some (.cells C T fr) := by
        have h7 := r1
        unfold World.cell? at h7
        split at h7
        · rename_i C T fr hb; exact ⟨C, T, fr, hb⟩
        · cases h7
      obtain ⟨C, T, fr, hbk⟩ := hblk
      rw [cell_of hbk] at r1
      exact ⟨bb, off, cap, C, T, fr, u, by rw [g1], by simpa [Fnd] using blks_mem.2 hbk, r1, r2⟩
    · obtain ⟨i, hi⟩ := List.getElem?_of_mem hb
      obtain ⟨u, _, _, r3⟩ := g2 i b hi
      exact r3
end Go.Proofs.YtdcehmhelfohfaaDoor
namespace Go.If
open Go.Vx Go.Hf
set_option linter.all false
def hdB (n : Nat) : List UInt8 := [UInt8.ofNat n, UInt8.ofNat (n / 256), UInt8.ofNat (255 - (UInt8.ofNat n).toNat), UInt8.ofNat (255 - (UInt8.ofNat (n / 256)).toNat)]
def blB (h : UInt8) (p : List UInt8) : List UInt8 := h :: (hdB p.length ++ p)
theorem hdB_val {n : Nat} (h : n < 65536) : val (hdB n) = n + 2 ^ 16 * (65535 - n) := by
  simp only [hdB, val, UInt8.toNat_ofNat']
  omega
theorem blB_length (h : UInt8) (p : List UInt8) : (blB h p).length = 5 + p.length := by simp [blB, hdB]; omega
theorem rw_stored [W0] (h : UInt8) (hh : h.toNat ≤ 1) (pre p rest out : List UInt8) (most f : Nat) (hp : p.length < 65536) (ho : out.length + p.length ≤ most) :
    rwS (pre ++ (blB h p ++ rest)) most (f + 1) ⟨8 * pre.length, out, 0⟩ = if h.toNat = 1 then ⟨8 * (pre ++ blB h p).length, out ++ p, 0⟩ else rwS (pre ++ (blB h p ++ rest)) most f ⟨8 * (pre ++ blB h p).length, out ++ p, 0⟩ := by
  have h0 := at_mid pre (blB h p) rest
  generalize pre ++ (blB h p ++ rest) = d at h0 ⊢
  have h1 : At d (8 * pre.length) (h.toNat + 2 ^ 3 * (0 + 2 ^ 5 * (p.length + 2 ^ 16 * ((65535 - p.length) + 2 ^ 16 * val p)))) (3 + (5 + (16 + (16 + 8 * p.length)))) := by
    have e1 : val (blB h p) = h.toNat + 2 ^ 3 * (0 + 2 ^ 5 * (p.length + 2 ^ 16 * ((65535 - p.length) + 2 ^ 16 * val p))) := by
      rw [blB, val, val_append, hdB_val hp, show 8 * (hdB p.length).length = 32 from by simp [hdB]]
      generalize val p = z
      omega
    have e2 : 8 * (blB h p).length = 3 + (5 + (16 + (16 + 8 * p.length))) := by rw [blB_length]; omega
    rw [e1, e2] at h0
    exact h0
  obtain ⟨a1, h2⟩ := h1.split (by omega)
  obtain ⟨a2, h3⟩ := h2.split (by decide)
  obtain ⟨a3, h4⟩ := h3.split (by omega)
  obtain ⟨a4, h5⟩ := h4.split (by omega)
  obtain ⟨e1, e2⟩ := tk_at (s := ⟨8 * pre.length, out, 0⟩) a1
  have eb : stS d most ⟨8 * pre.length + 3, out, 0⟩ = ⟨8 * (pre ++ blB h p).length, out ++ p, 0⟩ := by
    have ea : 8 * ((8 * pre.length + 3 + 7) / 8) = 8 * pre.length + 3 + 5 := by omega
    obtain ⟨e3, e4⟩ := tk_at (s := ⟨8 * pre.length + 3 + 5, out, 0⟩) a3
    obtain ⟨e5, e6⟩ := tk_at (s := ⟨8 * pre.length + 3 + 5 + 16, out, 0⟩) a4
    rw [stS_4 (by simp only [ea]; rw [e4, e3, e6]; omega)]
    simp only [ea]
    rw [e4, e3, e5, stL_at d most p ⟨8 * pre.length + 3 + 5 + 16 + 16, out, 0⟩ rfl ho h5]
    simp only [List.length_append, blB_length]
    congr 1
    omega
  rw [rwS, e1, e2]
  simp only
  rw [if_neg (by decide), if_neg (by omega), show h.toNat / 2 = 0 from by omega, show h.toNat % 2 = h.toNat from by omega]
  have eb2 : bkS d most 0 ⟨8 * pre.length + 3, out, 0⟩ = ⟨8 * (pre ++ blB h p).length, out ++ p, 0⟩ := by
    unfold bkS
    rw [if_pos rfl]
    exact eb
  rw [eb2]
  simp
def catB (ps : List (List UInt8)) : List UInt8 := (ps.map (blB 0)).flatten
def endB : List UInt8 := [1, 0, 0, 255, 255]
theorem blocks_all [W0] (more : List UInt8) (most : Nat) : ∀ (ps : List (List UInt8)) (pre out : List UInt8) (f : Nat), ps.length < f → (∀ p ∈ ps, p.length ≤ 1000) → out.length + ps.flatten.length ≤ most →
    rwS (pre ++ (catB ps ++ (endB ++ more))) most f ⟨8 * pre.length, out, 0⟩ = ⟨8 * (pre ++ (catB ps ++ endB)).length, out ++ ps.flatten, 0⟩
  | [], pre, out, f, hf, _, ho => by
    obtain ⟨f, rfl⟩ : ∃ g, f = g + 1 := ⟨f - 1, by simp at hf; omega⟩
    have := rw_stored 1 (by decide) pre [] more out most f (by decide) (by simp at ho ⊢; omega)
    have e : blB 1 [] = endB := by decide
    rw [e] at this
    simpa [catB] using this
  | p :: ps, pre, out, f, hf, hp, ho => by
    obtain ⟨f, rfl⟩ : ∃ g, f = g + 1 := ⟨f - 1, by simp at hf; omega⟩
    have hp1 := hp p List.mem_cons_self
    simp only [List.flatten_cons, List.length_append] at ho
    have h1 := rw_stored 0 (by decide) pre p (catB ps ++ (endB ++ more)) out most f (by omega) (by omega)
    have e : pre ++ (catB (p :: ps) ++ (endB ++ more)) = pre ++ (blB 0 p ++ (catB ps ++ (endB ++ more))) := by simp [catB]
    rw [e, h1, if_neg (by decide)]
    have ih := blocks_all more most ps (pre ++ blB 0 p) (out ++ p) f (by simp at hf; omega) (fun q hq => hp q (List.mem_cons_of_mem _ hq)) (by simp only [List.length_append]; omega)
    rw [show pre ++ (blB 0 p ++ (catB ps ++ (endB ++ more))) = (pre ++ blB 0 p) ++ (catB ps ++ (endB ++ more)) from by simp, ih]
    simp [catB]
theorem catB_length : ∀ ps : List (List UInt8), (catB ps).length = 5 * ps.length + ps.flatten.length
  | [] => rfl
  | p :: ps => by
    have ih := catB_length ps
    have e : catB (p :: ps) = blB 0 p ++ catB ps := by simp [catB]
    rw [e, List.length_append, ih, blB_length, List.length_cons, List.flatten_cons, List.length_append]
    omega
theorem blocks_raw [W0] (ps : List (List UInt8)) (more : List UInt8) (hp : ∀ p ∈ ps, p.length ≤ 1000) : rawS ((catB ps ++ endB) ++ more) ps.flatten.length = ⟨8 * (catB ps ++ endB).length, ps.flatten, 0⟩ := by
  have h := blocks_all more ps.flatten.length ps [] [] (8 * ((catB ps ++ endB) ++ more).length + 1) (by simp only [List.length_append, catB_length]; omega) hp (by simp)
  unfold rawS
  simpa using h
end Go.If
namespace Go.Vx
set_option linter.all false
theorem not8 : ∀ a : Fin 256, IntKind.u8.wrap (((BitVec.ofInt 8 255 ^^^ BitVec.ofInt 8 (a.val : Int)).toNat : Nat) : Int) = ((255 - a.val : Nat) : Int) := by decide +kernel
section
variable [W0] {P : Program} {n : Nat} {M : List (Nat × Value)} {L : List Chunk} {d : Nat} {ty : TypeId} {ps : String} {af : Array Edge} {g : Option (Nat × Bool)} {x : Operand}
theorem EV_not8 {t : TypeId} {i : Int} (a : Nat) (hx : ev M x = some (.int .u8 i)) (hi : i = (a : Int)) (ha : a < 256) :
    EV P n ⟨some d, .unOp .xor t x, ty, ps, af, g⟩ M L d (.int .u8 ((255 - a : Nat) : Int)) :=
  ⟨rfl, fun a' w h' _ => by
    subst hi
    have e : (Op.unary .xor (.int .u8 (a : Int))).run P w = .ok (.int .u8 ((255 - a : Nat) : Int)) w := by
      show (Sem.pure (Value.int .u8 (IntKind.u8.wrap ((BitVec.ofInt 8 255 ^^^ BitVec.ofInt 8 (a : Int)).toNat : Int)))).run P w = _
      rw [not8 ⟨a, ha⟩]; rfl
    simp only [execOp, h'.eval hx, Sem.run_bind, e, Result.andThen_ok, Sem.run_pure]⟩
end
end Go.Vx
namespace Go.Proofs.YtdcehmhelfohfaaDoor
open Go Go.Vx Go.Hf Go.If
variable [W0]
set_option maxRecDepth 4000
set_option linter.all false
theorem catB_snoc (ps : List (List UInt8)) (p : List UInt8) : catB (ps ++ [p]) = catB ps ++ (blB 0 p) := by simp [catB]
theorem bsv_app (a b : List UInt8) : bsv (a ++ b) = bsv a ++ bsv b := by simp [bsv]
set_option maxHeartbeats 16000000 in
theorem inflateblocks_n (l : List (List UInt8)) (v : Value) (a1 : Option Addr) (c1 : Nat) (more : List UInt8) (L : List Chunk) (hl : LlAt L v l) (hll : l.length ≤ 1048576) (hv : Sl L 1 (.slice a1 more.length c1) more.length (bsv more)) (hml : more.length ≤ 1048576) (hor : OrAt L) :
    GvP Tryd.prog 5 [v, .slice a1 more.length c1].toArray L (.bool true) := by
  refine Gv.of_body Tryd.func5 rfl rfl ?_
  obtain ⟨a, c, hsh⟩ := hl.shape
  have hat := hl.at_
  subst hsh
  ((repeat' first|refine kW ?_|refine kU fun bk=>?_|refine kV fun hc=>?_|refine kZ (fun hc=>?_) fun hc=>?_|fail) <;> try exact absurd trivial hc)
  refine WC_loop (X := Nat × Value × Chunk × Value × Chunk) (fun x => [(0, .slice a l.length c), (1, .slice a1 more.length c1), (5, x.2.1), (6, x.2.2.2.1), (7, .int .i64 (x.1 : Int))]) (fun x => x.2.2.1 :: x.2.2.2.2 :: L)
    (fun x => x.1 ≤ l.length ∧ x.1 ≤ 10 ∧ (∀ p ∈ l.take x.1, p.length ≤ 1000) ∧ Ow 5 1 x.2.1 (catB (l.take x.1)).length (bsv (catB (l.take x.1))) x.2.2.1 ∧ Ow 5 1 x.2.2.2.1 (l.take x.1).flatten.length (bsv (l.take x.1).flatten) x.2.2.2.2) (fun x => 10 - x.1)
    (0, .slice none 0 0, [], .slice none 0 0, []) ⟨Nat.zero_le _, Nat.zero_le _, by simp, .inl ⟨rfl, rfl, rfl, rfl⟩, .inl ⟨rfl, rfl, rfl, rfl⟩⟩ iS (fun w h => by simpa only [Holds, List.flatten_cons, List.nil_append] using h) ?_
  rintro ⟨i, vb, Cb, vw, Cw⟩ ⟨hi, hi10, hle, hob, how⟩
  simp only at hi hi10 hle hob how ⊢
  have hlen : (l.take i).flatten.length ≤ 10000 := by
    have h2 : ∀ (q : List (List UInt8)), (∀ p ∈ q, p.length ≤ 1000) → q.flatten.length ≤ 1000 * q.length := by
      intro q
      induction q with
      | nil => simp
      | cons p q ih =>
        intro hq
        have h3 := ih (fun r hr => hq r (List.mem_cons_of_mem _ hr))
        have h4 := hq p List.mem_cons_self
        simp only [List.flatten_cons, List.length_append, List.length_cons]
        omega
    have h3 := h2 _ hle
    rw [List.length_take] at h3
    omega
  have hcl := catB_length (l.take i)
  rw [List.length_take] at hcl
  obtain ⟨va, vca, rfl⟩ := ow_slc hob
  obtain ⟨wa, wca, rfl⟩ := ow_slc how
  ((repeat' first|refine kW ?_|refine kU fun bk=>?_|refine kV fun hc=>?_|refine kZ (fun hc=>?_) fun hc=>?_|fail) <;> try exact absurd trivial hc)
  · have hlt : i < l.length := by omega
    obtain ⟨b, hb⟩ : ∃ b, l[i]? = some b := ⟨l[i], List.getElem?_eq_getElem hlt⟩
    obtain ⟨bb, off, cc, C, T, fr, u, hve, hfn, hcell, hsl⟩ := hat i b hb
    injection hve with q1 q2 q3
    subst q1 q3
    clear q2
    obtain ⟨ua, uc, rfl, _⟩ := hsl.room
    have hsu : l.take (i + 1) = l.take i ++ [b] := by rw [List.take_add_one, hb]; rfl
    refine OW_EV (EV_indexAddr (j := i) rfl rfl rfl hlt) rfl ?_
    ((repeat' first|refine kW ?_|refine kU fun bk=>?_|refine kV fun hc=>?_|refine kZ (fun hc=>?_) fun hc=>?_|fail) <;> try exact absurd trivial hc)
    refine OW_EV (EV_load rfl hfn.there.there hcell) rfl ?_
    ((repeat' first|refine kW ?_|refine kU fun bk=>?_|refine kV fun hc=>?_|refine kZ (fun hc=>?_) fun hc=>?_|fail) <;> try exact absurd trivial hc)
    · refine OW_callP rfl rfl rfl (iawake_n _ hor.there.there) rfl ?_
      ((repeat' first|refine kW ?_|refine kU fun bk=>?_|refine kV fun hc=>?_|refine kZ (fun hc=>?_) fun hc=>?_|fail) <;> try exact absurd trivial hc)
      exact kE
    have hb1000 : b.length ≤ 1000 := by omega
    refine OW_EV (EV_indexAddr (j := i) rfl rfl rfl hlt) rfl ?_
    ((repeat' first|refine kW ?_|refine kU fun bk=>?_|refine kV fun hc=>?_|refine kZ (fun hc=>?_) fun hc=>?_|fail) <;> try exact absurd trivial hc)
    refine OW_EV (EV_load rfl hfn.there.there hcell) rfl ?_
    ((repeat' first|refine kW ?_|refine kU fun bk=>?_|refine kV fun hc=>?_|refine kZ (fun hc=>?_) fun hc=>?_|fail) <;> try exact absurd trivial hc)
    have hq : (b.length : Int) / 256 = ((b.length / 256 : Nat) : Int) := by omega
    rw [hq, wrap_byte, wrap_byte]
    have hx1 := (UInt8.ofNat b.length).toNat_lt
    have hx2 := (UInt8.ofNat (b.length / 256)).toNat_lt
    refine OW_EV (EV_not8 (UInt8.ofNat b.length).toNat rfl rfl hx1) rfl ?_
    ((repeat' first|refine kW ?_|refine kU fun bk=>?_|refine kV fun hc=>?_|refine kZ (fun hc=>?_) fun hc=>?_|fail) <;> try exact absurd trivial hc)
    rw [hq, wrap_byte]
    refine OW_EV (EV_not8 (UInt8.ofNat (b.length / 256)).toNat rfl rfl hx2) rfl ?_
    ((repeat' first|refine kW ?_|refine kU fun bk=>?_|refine kV fun hc=>?_|refine kZ (fun hc=>?_) fun hc=>?_|fail) <;> try exact absurd trivial hc)
    have hcs : [Value.int .u8 0, .int .u8 ((UInt8.ofNat b.length).toNat : Int), .int .u8 ((UInt8.ofNat (b.length / 256)).toNat : Int), .int .u8 ((255 - (UInt8.ofNat b.length).toNat : Nat) : Int), .int .u8 ((255 - (UInt8.ofNat (b.length / 256)).toNat : Nat) : Int)] = bsv (0 :: hdB b.length) := by
      have e1 : ((UInt8.ofNat (255 - (UInt8.ofNat b.length).toNat)).toNat) = 255 - (UInt8.ofNat b.length).toNat := by rw [UInt8.toNat_ofNat']; omega
      have e2 : ((UInt8.ofNat (255 - (UInt8.ofNat (b.length / 256)).toNat)).toNat) = 255 - (UInt8.ofNat (b.length / 256)).toNat := by rw [UInt8.toNat_ofNat']; omega
      show _ = [Value.int .u8 (((0 : UInt8).toNat : Nat) : Int), .int .u8 ((UInt8.ofNat b.length).toNat : Int), .int .u8 ((UInt8.ofNat (b.length / 256)).toNat : Int), .int .u8 ((UInt8.ofNat (255 - (UInt8.ofNat b.length).toNat)).toNat : Int), .int .u8 ((UInt8.ofNat (255 - (UInt8.ofNat (b.length / 256)).toNat)).toNat : Int)]
      rw [e1, e2]
      rfl
    refine OW_buildSlice (cs := [Value.int .u8 0, .int .u8 ((UInt8.ofNat b.length).toNat : Int), .int .u8 ((UInt8.ofNat (b.length / 256)).toNat : Int), .int .u8 ((255 - (UInt8.ofNat b.length).toNat : Nat) : Int), .int .u8 ((255 - (UInt8.ofNat (b.length / 256)).toNat : Nat) : Int)]) rfl (by rfl) (by first | (simp [fillL, patch, Value.cells, zeros]; done) | (simp [fillL, patch, Value.cells, zeros]; rfl)) (by omega) rfl rfl (fun bn => ?_)
    rw [hcs]
    ((repeat' first|refine kW ?_|refine kU fun bk=>?_|refine kV fun hc=>?_|refine kZ (fun hc=>?_) fun hc=>?_|fail) <;> try exact absurd trivial hc)
    refine OW_append rfl rfl hob (sl_cells (k := 1) (c := (bsv (0 :: hdB b.length)).toArray) (xs := bsv (0 :: hdB b.length)) (m := 5) Fnd.here rfl (by simp)) (by repeat (first | exact Zip.here _ | apply Zip.there)) rfl bsv_ones (by omega) (by show _ ≤ 9223372036854775807; omega) rfl (fun v2 C2 ho2 _ _ => ?_)
    rw [← bsv_app] at ho2
    obtain ⟨v2a, v2c, rfl⟩ := ow_slc ho2
    ((repeat' first|refine kW ?_|refine kU fun bk=>?_|refine kV fun hc=>?_|refine kZ (fun hc=>?_) fun hc=>?_|fail) <;> try exact absurd trivial hc)
    refine OW_EV (EV_indexAddr (j := i) rfl rfl rfl hlt) rfl ?_
    ((repeat' first|refine kW ?_|refine kU fun bk=>?_|refine kV fun hc=>?_|refine kZ (fun hc=>?_) fun hc=>?_|fail) <;> try exact absurd trivial hc)
    refine OW_EV (EV_load rfl (by repeat (first | exact hfn | apply Fnd.there)) hcell) rfl ?_
    ((repeat' first|refine kW ?_|refine kU fun bk=>?_|refine kV fun hc=>?_|refine kZ (fun hc=>?_) fun hc=>?_|fail) <;> try exact absurd trivial hc)
    refine OW_append rfl rfl ho2 (by repeat (first | exact hsl.sl | apply sl_there)) (by repeat (first | exact Zip.here _ | apply Zip.there)) rfl bsv_ones (by omega) (by show _ ≤ 9223372036854775807; omega) rfl (fun v3 C3 ho3 _ _ => ?_)
    rw [← bsv_app] at ho3
    obtain ⟨v3a, v3c, rfl⟩ := ow_slc ho3
    ((repeat' first|refine kW ?_|refine kU fun bk=>?_|refine kV fun hc=>?_|refine kZ (fun hc=>?_) fun hc=>?_|fail) <;> try exact absurd trivial hc)
    refine OW_EV (EV_indexAddr (j := i) rfl rfl rfl hlt) rfl ?_
    ((repeat' first|refine kW ?_|refine kU fun bk=>?_|refine kV fun hc=>?_|refine kZ (fun hc=>?_) fun hc=>?_|fail) <;> try exact absurd trivial hc)
    refine OW_EV (EV_load rfl (by repeat (first | exact hfn | apply Fnd.there)) hcell) rfl ?_
    ((repeat' first|refine kW ?_|refine kU fun bk=>?_|refine kV fun hc=>?_|refine kZ (fun hc=>?_) fun hc=>?_|fail) <;> try exact absurd trivial hc)
    refine OW_append rfl rfl how (by repeat (first | exact hsl.sl | apply sl_there)) (by repeat (first | exact Zip.here _ | apply Zip.there)) rfl bsv_ones (by omega) (by show _ ≤ 9223372036854775807; omega) rfl (fun v4 C4 ho4 _ _ => ?_)
    rw [← bsv_app] at ho4
    obtain ⟨v4a, v4c, rfl⟩ := ow_slc ho4
    ((repeat' first|refine kW ?_|refine kU fun bk=>?_|refine kV fun hc=>?_|refine kZ (fun hc=>?_) fun hc=>?_|fail) <;> try exact absurd trivial hc)
    have hc1 : catB (l.take (i + 1)) = catB (l.take i) ++ 0 :: hdB b.length ++ b := by rw [hsu, catB_snoc]; simp [blB]
    have hc2 : (l.take (i + 1)).flatten = (l.take i).flatten ++ b := by rw [hsu]; simp
    have hn1 : (catB (l.take (i + 1))).length = (catB (l.take i)).length + 5 + b.length := by rw [hc1]; simp [hdB]; omega
    have hn2 : (l.take (i + 1)).flatten.length = (l.take i).flatten.length + b.length := by rw [hc2, List.length_append]
    refine WQ_round (X := Nat × Value × Chunk × Value × Chunk) (μ := fun x => 10 - x.1) (x := (i, .slice va (catB (l.take i)).length vca, Cb, .slice wa (l.take i).flatten.length wca, Cw)) (i + 1, .slice v3a ((catB (l.take i)).length + 5 + b.length) v3c, C3, .slice v4a ((l.take i).flatten.length + b.length) v4c, C4) (by simp only; omega)
      ⟨by simp only; omega, by simp only; omega, fun p hp => ?_, by simp only; rw [hn1, hc1]; exact ho3, by simp only; rw [hn2, hc2]; exact ho4⟩ iS (fun w h => iH h)
    rw [hsu] at hp
    rcases List.mem_append.1 hp with hp | hp
    · exact hle p hp
    · simp at hp; subst hp; exact hb1000
  all_goals
    have hX : (catB (l.take i) ++ endB).length = (catB (l.take i)).length + 5 := by rw [List.length_append]; rfl
    have hraw := blocks_raw (l.take i) more hle
    generalize hps : l.take i = ps at hob how hcl hlen hle hX hraw
    clear hps hle
    refine OW_buildSlice (cs := bsv endB) rfl (by rfl) (by first | (simp [fillL, patch, Value.cells, zeros]; done) | (simp [fillL, patch, Value.cells, zeros]; rfl)) (by omega) rfl rfl (fun bn => ?_)
    ((repeat' first|refine kW ?_|refine kU fun bk=>?_|refine kV fun hc=>?_|refine kZ (fun hc=>?_) fun hc=>?_|fail) <;> try exact absurd trivial hc)
    refine OW_append rfl rfl hob (sl_cells (k := 1) (c := (bsv endB).toArray) (xs := bsv endB) (m := 5) Fnd.here rfl (by simp)) (by repeat (first | exact Zip.here _ | apply Zip.there)) rfl bsv_ones (by omega) (by show _ ≤ 9223372036854775807; omega) rfl (fun v2 C2 ho2 _ _ => ?_)
    rw [← bsv_app] at ho2
    obtain ⟨v2a, v2c, rfl⟩ := ow_slc ho2
    ((repeat' first|refine kW ?_|refine kU fun bk=>?_|refine kV fun hc=>?_|refine kZ (fun hc=>?_) fun hc=>?_|fail) <;> try exact absurd trivial hc)
    apply OW_buildSlice (parts := []) (pvs := []) (cs := [])
    · rfl
    · rfl
    · rfl
    · omega
    · rfl
    · rfl
    intro b1
    ((repeat' first|refine kW ?_|refine kU fun bk=>?_|refine kV fun hc=>?_|refine kZ (fun hc=>?_) fun hc=>?_|fail) <;> try exact absurd trivial hc)
    refine OW_append rfl rfl (m := 0) (xs := []) (C := [(b1, cl [] 5)]) (.inr ⟨b1, 0, [], rfl, rfl, rfl, rfl, Nat.le_refl _, by simp [maxLen]⟩) (c := (catB ps).length + 5) (ys := bsv (catB ps ++ endB)) (by repeat (first | exact ow_sl ho2 | apply sl_there)) (by repeat (first | exact Zip.here _ | apply Zip.there)) rfl bsv_ones (by omega) (by show _ ≤ 9223372036854775807; omega) rfl (fun v3 C3 ho3 _ _ => ?_)
    rw [List.nil_append, Nat.zero_add] at ho3
    obtain ⟨v3a, v3c, rfl⟩ := ow_slc ho3
    ((repeat' first|refine kW ?_|refine kU fun bk=>?_|refine kV fun hc=>?_|refine kZ (fun hc=>?_) fun hc=>?_|fail) <;> try exact absurd trivial hc)
    refine OW_append rfl rfl ho3 (by repeat (first | exact hv | apply sl_there)) (by repeat (first | exact Zip.here _ | apply Zip.there)) rfl bsv_ones (by omega) (by show _ ≤ 9223372036854775807; omega) rfl (fun v4 C4 ho4 _ _ => ?_)
    rw [← bsv_app] at ho4
    obtain ⟨v4a, v4c, rfl⟩ := ow_slc ho4
    ((repeat' first|refine kW ?_|refine kU fun bk=>?_|refine kV fun hc=>?_|refine kZ (fun hc=>?_) fun hc=>?_|fail) <;> try exact absurd trivial hc)
    have hXl : ((catB ps ++ endB) ++ more).length = (catB ps).length + 5 + more.length := by rw [List.length_append, hX]
    have hpr := praw_n v4a v4c ((catB ps ++ endB) ++ more) (ps.flatten.length : Int) ps.flatten.length (C4 :: [(bn, cl (bsv endB) 5)] :: C2 :: Cw :: L) (by rw [hXl]; exact ow_sl ho4) (by omega) (by omega) (by omega) (by repeat (first | exact hor | apply OrAt.there))
    rw [hraw, hXl] at hpr
    refine OW_call rfl rfl rfl hpr rfl (fun r L' hp => ?_)
    rcases hp with ⟨h, _⟩ | ⟨_, v5, C5, rfl, ho5, _, _, rfl⟩
    · exact absurd rfl h
    ((repeat' first|refine kW ?_|refine kU fun bk=>?_|refine kV fun hc=>?_|refine kZ (fun hc=>?_) fun hc=>?_|fail) <;> try exact absurd trivial hc)
    refine OW_EV (EV_convStr (m := ps.flatten.length) (b := ps.flatten) rfl (by exact ow_sl ho5)) rfl ?_
    ((repeat' first|refine kW ?_|refine kU fun bk=>?_|refine kV fun hc=>?_|refine kZ (fun hc=>?_) fun hc=>?_|fail) <;> try exact absurd trivial hc)
    refine OW_EV (EV_convStr (m := ps.flatten.length) (b := ps.flatten) rfl (by repeat (first | exact ow_sl how | apply sl_there))) rfl ?_
    ((repeat' first|refine kW ?_|refine kU fun bk=>?_|refine kV fun hc=>?_|refine kZ (fun hc=>?_) fun hc=>?_|fail) <;> try exact absurd trivial hc)
    refine OW_callP rfl rfl rfl (iawake_n _ (by repeat (first | exact hor | apply OrAt.there))) rfl ?_
    ((repeat' first|refine kW ?_|refine kU fun bk=>?_|refine kV fun hc=>?_|refine kZ (fun hc=>?_) fun hc=>?_|fail) <;> try exact absurd trivial hc)
    exact kE
end Go.Proofs.YtdcehmhelfohfaaDoor
namespace Go.Proofs.YtdcehmhelfohfaaDoor
open Go Go.Vx Go.ChangeShapes Go.WideShapes Go.ChangeAt Go.RowKit
set_option linter.all false
set_option maxRecDepth 4000
theorem top_row (H : Type) (enc : TypeId × Value → H) (W : World) (base : Nat) (args : Array Value) (ds gs : List (DataW H)) (before : List MemPlace)
    (hval : ∀ (j : Nat) t v, Tryd.f5.params[j]? = some t → args[j]? = some v → Value.okWide Tryd.prog W .any base t v)
    (hW : DataW.Whole enc Tryd.prog Tryd.f5.params.toList Rows.inflateBlocksSpec.vars false W args.toList ds gs before) (hk : Rows.uptoSmall H (ds ++ gs) = true)
    (hz : (DataW.weightsEach Tryd.prog (Tryd.f5.params.toList ++ Rows.inflateBlocksSpec.plain.varTypes Tryd.prog) (ds ++ gs)).all (· ≤ reachBytes) = true) (hL : laidMetH Tryd.prog [("stemma/symbols.order", Rows.laid_stemma_symbols_order)] W) :
    Calls Tryd.prog 5 args W fun e W' => ∃ v, e = .returned v ∧ Rows.inflateBlocksSpec.post enc Tryd.prog Tryd.f5 false true false false W args v W' := by
  have hW' := hW
  obtain ⟨p, q, hA0, hV, rfl, hfz, hnd⟩ := hW
  have hA : DataW.TrodAll enc Tryd.prog W 0 (fun _ => true) true Tryd.f5.params.toList args.toList ds p := hA0
  rw [Tryd.params5] at hA hval hz
  obtain ⟨v0, vs0, d0, ds0, p0, q0, hargs, rfl, rfl, h0, r0⟩ := trodAll_cons hA
  obtain ⟨v1, vs1, d1, ds1, p1, q1, rfl, rfl, rfl, h1, r1⟩ := trodAll_cons r0
  obtain ⟨rfl, rfl, rfl⟩ := trodAll_nil r1
  obtain rfl : args = #[v0, v1] := by cases args; simp_all
  obtain ⟨rfl, rfl⟩ := trodVars_none hV
  obtain ⟨a0, l0, c0, rfl⟩ := okWide_slice Tryd.underlying34 (hval 0 _ v0 rfl rfl)
  obtain ⟨x0, s0, e0, b0⟩ := open_ll h0
  obtain ⟨a1, l1, c1, rfl⟩ := okWide_slice Tryd.underlying22 (hval 1 _ v1 rfl rfl)
  obtain ⟨x1, e1, s1, b1, g1⟩ := open_bytes Tryd.underlying22 Tryd.underlying5 (by kernel_rfl) h1
  have r1 : l1 ≤ 140737488351232 := reach_len hz (j := 1) rfl rfl Tryd.underlying22 (by kernel_rfl) g1
  clear hA0
  have lt0 : ∀ x ∈ p0, x.block < W.heap.size := by obtain ⟨m, hm⟩ := h0; exact DataW.trod_lt m _ _ _ hm
  have lt1 : ∀ x ∈ p1, x.block < W.heap.size := by obtain ⟨m, hm⟩ := h1; exact DataW.trod_lt m _ _ _ hm
  have hbulk : Rows.uptoBulk d0 + Rows.uptoBulk d1 ≤ 1048576 := by
    simp only [Rows.uptoSmall, decide_eq_true_eq, List.append_nil, Rows.uptoBulkAll, Rows.uptoBulk] at hk
    omega
  have hc : Calls Tryd.prog 5 #[.slice a0 l0 c0, .slice a1 l1 c1] W fun e W' => e = .returned (.bool true) ∧ Kept W W' := by
    have ht := tab_met hL
    refine bridge (fun {i} => ?_)
    subst e0 e1
    exact inflateblocks_n x0 _ a1 c1 x1 [blks W] s0 (by have := b0.1; omega) s1.sl (by omega) ht
  refine hc.mono fun e W' ⟨he, bel⟩ => ?_
  subst he
  exact ⟨_, rfl, _, _, _, [], _, [], hW', trodAll_mk1 (shut_bool Tryd.underlying4 _), (trodAll_cons_mk (Kept.trod Tryd.laidOut (by kernel_rfl) (of_decide_eq_true (by kernel_rfl)) h0 bel lt0) (trodAll_cons_mk (Kept.trod Tryd.laidOut (by kernel_rfl) (of_decide_eq_true (by kernel_rfl)) h1 bel lt1) trodAll_mk0)), rfl, bel.frame _, fun h => by cases h⟩
noncomputable def laidWorld (os : Os) : World :=
  { World.holding Tryd.prog os ⟨#[], #[], []⟩ with heap := (World.holding Tryd.prog os ⟨#[], #[], []⟩).heap.modify 0 fun
      | .cells _ t frozen => .cells (tabZ.map (Value.int .i64)).toArray t frozen
      | o => o }
theorem laid_met (os : Os) : laidMet Tryd.prog Rows.inflateBlocksUptoRow.laid ((laidWorld os).forCall (fun _ _ => 0) ⟨#[], #[.slice none 0 0, .slice none 0 0], []⟩).memory :=
  laidMet_of_run' 8 (by kernel_rfl) (by kernel_rfl)
theorem reads (os : Os) {H : Type} (enc : TypeId × Value → H) : ∃ places, DataW.whole enc Tryd.prog ((laidWorld os).forCall (fun _ _ => 0) ⟨#[], #[.slice none 0 0, .slice none 0 0], []⟩).memory Tryd.f5.params.toList Rows.inflateBlocksSpec.vars false #[.slice none 0 0, .slice none 0 0].toList 8 = some ([.nil, .nil], [], places) :=
  ⟨[], by kernel_rfl⟩
set_option maxRecDepth 100000 in
theorem top_lifted (os : Os) (started : os.Started) (H : Type) (enc : TypeId × Value → H) (F : Stop.Interp) :
    ReturnsInHanded {} Tryd.checked os 5 .any ((Rows.OpenSpec.upto Rows.inflateBlocksSpec).preRow enc Tryd.prog Tryd.f5 Rows.inflateBlocksUptoRow.domain false Rows.inflateBlocksUptoRow.laid) (((Rows.OpenSpec.upto Rows.inflateBlocksSpec).at F).post enc Tryd.prog Tryd.f5 false true false false) := by
  obtain ⟨places, hx⟩ := reads os enc
  refine returnsInHanded_of_row (C := Tryd.checked) (s := (Rows.OpenSpec.upto Rows.inflateBlocksSpec)) Tryd.own started (by kernel_rfl) Tryd.func5
    (witness_row_at (enc := enc) (C := Tryd.checked) false (laidWorld os) #[.slice none 0 0, .slice none 0 0] rfl (by kernel_rfl) (by kernel_rfl) (by kernel_rfl)
      (OpenSpec.preRow_of_cond 8 hx (by kernel_rfl) (fun k hk => by cases hk; kernel_rfl) (by kernel_rfl) (laid_met os))) ?_
  intro W base args ds gs before hval hW _ hcond hz hL _ _
  exact top_row H enc W base args ds gs before hval hW (hcond _ rfl) hz hL
theorem top_over : Rows.InflateBlocksUptoSaid :=
  OpenClaim.holds_of_cond 5 Tryd.f5 rfl rfl rfl rfl rfl rfl rfl ⟨rfl, rfl, rfl, rfl, rfl⟩ rfl rfl rfl rfl rfl (by kernel_rfl) Tryd.func5 (by kernel_rfl)
    (of_decide_eq_true (by kernel_rfl)) (by unfold Func.isWrapper; first | (rw [if_pos (by decide +kernel)]; kernel_rfl) | (rw [if_neg (by decide +kernel)]; exact ⟨rfl, rfl⟩))
    (fun os started H enc _ F => by rw [OpenClaim.pre_eq_preRow]; exact top_lifted os started H enc F)
theorem top_plain (f : FuncId) (fn : Func) (hf : Tryd.pinned.checked.prog.funcNamed "stemma/stemmalaw6.InflateBlocks" = some f) (hfn : Tryd.pinned.checked.prog.funcs[f]? = some fn) :
    false = Tryd.pinned.checked.prog.looks [] ∧ ∀ (j : Nat) t, fn.params[j]? = some t → Tryd.pinned.checked.prog.wantsStandIn t = false := by
  obtain rfl : f = 5 := Option.some.inj ((show Tryd.prog.funcNamed "stemma/stemmalaw6.InflateBlocks" = some 5 by kernel_rfl).symm.trans hf) |>.symm
  obtain rfl : fn = Tryd.f5 := (Option.some.inj (Tryd.func5.symm.trans hfn)).symm
  have all : (Tryd.f5.params.toList.all fun t => !Tryd.prog.wantsStandIn t) = true := by kernel_rfl
  refine ⟨by kernel_rfl, fun j t ht => ?_⟩
  have hm : t ∈ Tryd.f5.params.toList := by
    have := Array.mem_of_getElem? ht
    simpa using this
  have := List.all_eq_true.1 all t hm
  show Tryd.prog.wantsStandIn t = false
  simpa using this
theorem top_holds : Rows.InflateBlocksUptoCardSaid :=
  Claim7.holds_tied_plain_at .later [] _ _ _ _ top_over (fun _ h => by cases h) (by kernel_rfl) (fun _ h => by cases h) inflateBlocksUpto_row_tie rfl ⟨rfl, rfl⟩ (by kernel_rfl) rfl top_plain (by kernel_rfl)
end Go.Proofs.YtdcehmhelfohfaaDoor
