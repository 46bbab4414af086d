/- ObjectOrder returns true and leaves its arguments as they were, for every argument; the table that the program reads is tied to its text (the card). No conditions beyond the row's. -/
import Derived.Test.YtlomjmdgcpjepaaDoorPko1
namespace Go.Ob
open Go Go.Lib Go.Vx
set_option linter.all false
set_option maxRecDepth 4000
def sCommit : List UInt8 := [99, 111, 109, 109, 105, 116]
def sTree : List UInt8 := [116, 114, 101, 101]
def sBlob : List UInt8 := [98, 108, 111, 98]
def sTag : List UInt8 := [116, 97, 103]
def mDir : List UInt8 := [52, 48, 48, 48, 48]
open Go.Proofs.YtlomjmdgcpjepaaDoor
def nmL : Nat → List UInt8
  | 1 => sCommit
  | 2 => sTree
  | 3 => sBlob
  | 4 => sTag
  | _ => []
def nmI (k : Int) : List UInt8 := if 1 ≤ k ∧ k ≤ 4 then nmL k.toNat else []
def kdL (s : List UInt8) : Nat := if s = sCommit then 1 else if s = sTree then 2 else if s = sBlob then 3 else if s = sTag then 4 else 0
def dgF : Nat → Nat → List UInt8
  | 0, _ => []
  | f + 1, n => if n < 10 then [UInt8.ofNat (48 + n)] else dgF f (n / 10) ++ [UInt8.ofNat (48 + n % 10)]
def dgL (n : Nat) : List UInt8 := dgF 20 n
def hdL (k size : Int) : List UInt8 := nmI k ++ [32] ++ dgL (max size 0).toNat ++ [0]
def idL (k : Int) (body : List UInt8) : List UInt8 := hexL (shaN (hdL k (body.length : Int) ++ body))
def inP (c : Nat) : Bool := decide (c ≠ 60) && decide (c ≠ 62) && decide (c ≠ 10) && decide (c ≠ 0)
def inD (c : Nat) : Bool := decide (48 ≤ c) && decide (c ≤ 57)
def cutN (c : UInt8) : List UInt8 → List UInt8 × List UInt8
  | [] => ([], [])
  | x :: t => if x = c then ([], t) else (x :: (cutN c t).1, (cutN c t).2)
def cutT (a b : UInt8) : List UInt8 → List UInt8 × List UInt8
  | [] => ([], [])
  | x :: t => if x = a ∧ t.head? = some b then ([], t.tail) else (x :: (cutT a b t).1, (cutT a b t).2)
def timB (s : List UInt8) : Bool := decide (s ≠ []) && decide (s.length ≤ 12) && (decide (s.length ≤ 1) || decide (s.getD 0 0 ≠ 48)) && s.all (fun b => inD b.toNat)
def zonB (s : List UInt8) : Bool := decide (s.length = 5) && (decide (s.getD 0 0 = 43) || decide (s.getD 0 0 = 45)) && (s.drop 1).all (fun b => inD b.toNat)
def perB (s : List UInt8) : Bool :=
  let p1 := cutT 32 60 s
  let p2 := cutT 62 32 p1.2
  let p3 := cutN 32 p2.2
  consB inP p1.1 && consB inP p2.1 && timB p3.1 && zonB p3.2
structure Et where
  m : List UInt8
  n : List UInt8
  i : List UInt8
def keyL (m n : List UInt8) : List UInt8 := if m = mDir then n ++ [47] else n
def lesE (x y : Et) : Bool := Op.bytesLess (keyL x.m x.n) (keyL y.m y.n)
end Go.Ob
namespace Go.Ob
open Go Go.Lib Go.Vx
set_option linter.all false
set_option maxRecDepth 4000
theorem cutN_spec (c : UInt8) : ∀ s : List UInt8, (c ∉ s ∧ cutN c s = (s, [])) ∨ ∃ a t, c ∉ a ∧ s = a ++ c :: t ∧ cutN c s = (a, t)
  | [] => .inl ⟨by simp, rfl⟩
  | x :: s => by
    unfold cutN
    by_cases hx : x = c
    · subst hx
      exact .inr ⟨[], s, by simp, rfl, by rw [if_pos rfl]⟩
    · rw [if_neg hx]
      rcases cutN_spec c s with ⟨h1, h2⟩ | ⟨a, t, h1, h2, h3⟩
      · exact .inl ⟨by simp [h1, Ne.symm hx], by rw [h2]⟩
      · exact .inr ⟨x :: a, t, by simp [h1, Ne.symm hx], by rw [h2]; rfl, by rw [h3]⟩
theorem cutT_spec (a b : UInt8) : ∀ s : List UInt8, cutT a b s = (s, []) ∨ ∃ x t, s = x ++ a :: b :: t ∧ cutT a b s = (x, t)
  | [] => .inl rfl
  | x :: s => by
    unfold cutT
    by_cases hx : x = a ∧ s.head? = some b
    · rw [if_pos hx]
      obtain ⟨rfl, hx⟩ := hx
      cases s with
      | nil => simp at hx
      | cons y s =>
        simp only [List.head?_cons, Option.some.injEq] at hx
        subst hx
        exact .inr ⟨[], s, rfl, rfl⟩
    · rw [if_neg hx]
      rcases cutT_spec a b s with h | ⟨y, t, h1, h2⟩
      · left; rw [h]
      · exact .inr ⟨x :: y, t, by rw [h1]; rfl, by rw [h2]⟩
theorem inD_lo (c : Nat) (h : 128 ≤ c) : inD c = false := by unfold inD; simp; omega
end Go.Ob
namespace Go.Vx
open Go Go.Lib Go.RowKit
set_option linter.all false
variable [W0]
omit [W0] in
/-- A slice of bytes of the call's own: none, or a row that may bear a mark. -/
def OwG (e : Nat) (v : Value) (m : Nat) (xs : List Value) (C : Chunk) : Prop := (v = .slice none 0 0 ∧ m = 0 ∧ xs = [] ∧ C = []) ∨ OwF e 1 v m xs C
theorem OwG.nil {e : Nat} : OwG e (.slice none 0 0) 0 [] [] := .inl ⟨rfl, rfl, rfl, rfl⟩
theorem OwG.f {e m : Nat} {v : Value} {xs : List Value} {C : Chunk} (h : OwF e 1 v m xs C) : OwG e v m xs C := .inr h
theorem OwG.ow {e m : Nat} {v : Value} {xs : List Value} {C : Chunk} (h : Ow e 1 v m xs C) : OwG e v m xs C := by
  rcases h with h | ⟨b, cap, rest, rfl, rfl, h1, h2, h3, h4⟩
  · exact .inl h
  · exact .inr ⟨b, cap, rest, (0, 0), rfl, rfl, h1, h2, h3, h4, FrOk.zero _⟩
theorem OwG.sl {e m : Nat} {v : Value} {xs : List Value} {C : Chunk} {L : List Chunk} (h : OwG e v m xs C) : Sl (C :: L) 1 v m xs := by
  rcases h with ⟨rfl, rfl, rfl, rfl⟩ | h
  · exact .inl ⟨0, rfl, rfl, rfl⟩
  · exact owf_sl h
theorem OwG.room {e m : Nat} {v : Value} {xs : List Value} {C : Chunk} (h : OwG e v m xs C) : ∃ a c, v = .slice a m c ∧ m ≤ c := by
  rcases h with ⟨rfl, rfl, rfl, rfl⟩ | ⟨b, cap, rest, fr, rfl, rfl, h1, h2, h3, h4, _⟩
  · exact ⟨_, _, rfl, Nat.le_refl _⟩
  · exact ⟨_, _, rfl, h3⟩
theorem OwG.len {e m : Nat} {v : Value} {xs : List Value} {C : Chunk} (h : OwG e v m xs C) : xs.length = m := by
  rcases h with ⟨rfl, rfl, rfl, rfl⟩ | ⟨b, cap, rest, fr, rfl, rfl, h1, h2, h3, h4, _⟩
  · rfl
  · simpa using h1
section
variable {P : Program} {n : Nat} {M : List (Nat × Value)} {L : List Chunk} {K : List (Nat × Value) → List Chunk → Prop}
variable {d : Nat} {ty : TypeId} {ps : String} {af : Array Edge} {g : Option (Nat × Bool)} {x y : Operand} {v : Value}
theorem OW_appG {t e by_ : Nat} [hs : SL P t e 1 by_] {z : Value} [hz : ZV P e z] {v r : Value} {m c : Nat} {xs ys : List Value} {C : Chunk} {A B : List Chunk} (hx : ev M x = some v) (hy : ev M y = some r) (hown : OwG e v m xs C)
    (hsl : Sl L 1 r c ys) (hzip : Zip C L A B) (hzk : z.cells.size = 1) (h1 : ones ys = true) (hb : (m + c) * by_ ≤ 140737488355328) (h63 : m + c ≤ maxLen)
    (hn : Nat.blt d n = true) (h : ∀ v' C', OwG e v' (m + c) (xs ++ ys) C' → K ((d, v') :: M) (A ++ C' :: B)) :
    OW P n ⟨some d, .call ⟨.builtin .append, #[x, y], #[t, t]⟩, ty, ps, af, g⟩ K M L := by
  rcases hown with ⟨rfl, rfl, rfl, rfl⟩ | hown
  · exact OW_append hx hy (.inl ⟨rfl, rfl, rfl, rfl⟩) hsl hzip hzk h1 hb h63 hn (fun v' C' ho _ _ => h v' C' (OwG.ow ho))
  · exact OW_appendF hx hy hown hsl hzip hzk h1 hb h63 hn (fun v' C' ho => h v' C' (.inr ho))
omit [W0] in
theorem strCells_bsv (q : ByteArray) : strCells q = bsv q.data.toList := rfl
theorem OW_appGS {t s e by_ : Nat} [hs : SL P t e 1 by_] [hst : ST P s] [hz : ZV P e (.int .u8 0)] {v : Value} {m : Nat} {xs : List Value} {C : Chunk} {A B : List Chunk} {q : ByteArray} (hx : ev M x = some v) (hy : ev M y = some (.string q)) (hown : OwG e v m xs C)
    (hzip : Zip C L A B) (hb : (m + q.size) * by_ ≤ 140737488355328) (h63 : m + q.size ≤ maxLen)
    (hn : Nat.blt d n = true) (h : ∀ v' C', OwG e v' (m + q.size) (xs ++ bsv q.data.toList) C' → K ((d, v') :: M) (A ++ C' :: B)) :
    OW P n ⟨some d, .call ⟨.builtin .append, #[x, y], #[t, s]⟩, ty, ps, af, g⟩ K M L := ⟨fun a w next Q ha hw0 hk => by
  have hL := hzip.eq
  subst hL
  have hw := hw0.perm List.perm_middle
  obtain ⟨ht, i, hi, hik, hib, hk0⟩ := hs.parts
  have hu := hst.out
  have hzz : i.zero = some (.int .u8 0) := by have := hz.out; rw [hi] at this; simpa using this
  subst hib
  have hsmall : m + q.size ≤ 9223372036854775807 := by simpa [maxLen] using h63
  have main : ∃ v' C' w', (Builtin.append_ #[t, s] ty #[v, .string q]).run P w = .ok v' w' ∧ OwG e v' (m + q.size) (xs ++ bsv q.data.toList) C' ∧ Holds w' (C' :: (A ++ B)) := by
    rcases hown with ⟨rfl, rfl, rfl, rfl⟩ | ⟨b, cap, rest, fr, rfl, rfl, hxl, hrl, hmc, hcm, hfr⟩
    · by_cases hm : q.size = 0
      · have hn : strCells q = [] := List.eq_nil_of_length_eq_zero (by rw [strCells_length]; exact hm)
        refine ⟨.slice none 0 0, [], w, ?_, ?_, hw⟩
        · have hf := run_firstCells_string (P := P) w 1 q
          rw [hm] at hf
          simp [Builtin.append_, run_underlying ht, run_underlying hu, sizeOf, typeInfo, hi, hik, Builtin.lenOf, hm, hf]
        · rw [← strCells_bsv, hn, hm]; exact OwG.nil
      · have hr := run_append_nil_string (P := P) w t s ty e i (.int .u8 0) ht hu hi hzz q (by omega) (by omega) (by have h2 := hb; simp only [Nat.zero_add] at h2; omega)
        have e0 : (q.data.map fun b => Value.int .u8 b.toNat) = (strCells q).toArray := by
          apply Array.ext'
          simp [strCells]
        rw [e0] at hr
        refine ⟨_, [(w.heap.size, .cells (bsv q.data.toList ++ (Builtin.zeroCells (Value.int .u8 0).cells (grownCap w q.size 0 e - q.size)).toList).toArray e (0, 0))], _, hr, .inr ⟨w.heap.size, grownCap w q.size 0 e, (Builtin.zeroCells (Value.int .u8 0).cells (grownCap w q.size 0 e - q.size)).toList, (0, 0), by rw [Nat.zero_add], rfl, ?_, ?_, ?_, grownCap_le_maxLen w q.size 0 e (by omega), FrOk.zero _⟩, ?_⟩
        · rw [List.nil_append, ← strCells_bsv, strCells_length]; omega
        · simp [size_zeroCells, Value.cells]
        · rw [Nat.zero_add]; exact grownCap_ge w q.size 0 e
        · have h0 := (hw.drop.same (w' := w.drew) rfl rfl rfl).alloc (.cells ((strCells q).toArray ++ Builtin.zeroCells (Value.int .u8 0).cells (grownCap w q.size 0 e - q.size)) e)
          have e1 : (bsv q.data.toList ++ (Builtin.zeroCells (Value.int .u8 0).cells (grownCap w q.size 0 e - q.size)).toList).toArray = (strCells q).toArray ++ Builtin.zeroCells (Value.int .u8 0).cells (grownCap w q.size 0 e - q.size) := by
            apply Array.ext'; simp [strCells_bsv]
          rw [e1]; exact h0
    · have hfnd : w.heap[b]? = some (.cells (xs ++ rest).toArray e fr) := (Fnd.here : Fnd ([(b, .cells (xs ++ rest).toArray e fr)] :: (A ++ B)) b _).get hw
      by_cases hroom : m + q.size ≤ cap
      · have hxl' : xs.length = m := by simpa using hxl
        have hrl' : rest.length = cap - m := by simpa using hrl
        have hlen : m + (strCells q).length ≤ (xs ++ rest).length := by
          simp only [List.length_append, hxl', hrl', strCells_length]; omega
        have hf := run_firstCells_string (P := P) w 1 q
        have hst := run_storeCells_cells (P := P) b m (strCells q) 0 w
          (fun j hj => by rw [cell_of hfnd]; simp; simp at hlen; omega)
          (fun j hj => by
            have := hfr (m + 0 + j) (by omega)
            simp only [World.frozen?, hfnd]
            cases hd : (decide (fr.1 ≤ m + 0 + j) && decide (m + 0 + j < fr.2)) with
            | false => simpa using hd
            | true => simp at hd; exact absurd (by simpa using hd) this)
          (strCells_oneCell q)
        simp only [Nat.add_zero] at hst
        have hr : (Builtin.append_ #[t, s] ty #[.slice (some ⟨b, 0, none⟩) m cap, .string q]).run P w = .ok (.slice (some ⟨b, 0, none⟩) (m + q.size) cap) (w.setCells b m (strCells q)) := by
          simp [Builtin.append_, run_underlying ht, run_underlying hu, sizeOf, typeInfo, hi, hik, Builtin.lenOf, hroom, hf, Addr.add_lit, hst]
        have hx1 : patch (xs ++ rest).toArray.toList m (strCells q) = (xs ++ bsv q.data.toList) ++ rest.drop (strCells q).length := by
          simp only [List.toList_toArray, patch]
          rw [← hxl', List.take_left]
          congr 1
          rw [List.drop_append]
          simp
        have hat := setCells_at (T := e) (fr := fr) (strCells q) m _ w hfnd (by simpa using hlen)
        rw [hx1] at hat
        refine ⟨_, [(b, .cells ((xs ++ bsv q.data.toList) ++ rest.drop (strCells q).length).toArray e fr)], _, hr, .inr ⟨b, cap, rest.drop (strCells q).length, fr, rfl, rfl, ?_, ?_, hroom, hcm, ?_⟩, ?_⟩
        · rw [List.length_append, hxl', ← strCells_bsv, strCells_length]; omega
        · rw [List.length_drop, hrl', strCells_length]; omega
        · intro j hj
          refine hfr j ?_
          simp only [List.length_append, List.length_drop, ← strCells_bsv] at hj hlen ⊢
          omega
        · exact hw.upd .here hat (fun q hq => setCells_ne _ _ _ _ hq) (setCells_out _ _ _).1 (setCells_out _ _ _).2
      · have hrd0 : RdAt ([(b, .cells (xs ++ rest).toArray e fr)] :: (A ++ B)) ⟨b, 0, none⟩ xs := .inr ⟨b, 0, _, _, _, rfl, .here, fun j u hj => by rw [Nat.zero_add]; simpa using getE_app hj⟩
        have hr := run_append_grow_string (P := P) w t s ty e i (.int .u8 0) ht hu hi hzz ⟨b, 0, none⟩ m cap xs (by rw [hik]; exact hxl) (hrd0.cells hw) q (by omega) (by omega) (growslice_fits (by omega) hb)
        refine ⟨_, [(w.heap.size, .cells ((xs ++ bsv q.data.toList) ++ (Builtin.zeroCells (Value.int .u8 0).cells (grownCap w (m + q.size) cap e - (m + q.size))).toList).toArray e (0, 0))], _, hr, .inr ⟨w.heap.size, _, _, (0, 0), rfl, rfl, ?_, ?_, grownCap_ge w (m + q.size) cap e, grownCap_le_maxLen w (m + q.size) cap e h63, FrOk.zero _⟩, ?_⟩
        · have hxl' : xs.length = m := by simpa using hxl
          rw [List.length_append, hxl', ← strCells_bsv, strCells_length]; omega
        · simp [size_zeroCells, Value.cells]
        · have h0 := (hw.drop.same (w' := w.drew) rfl rfl rfl).alloc (.cells (xs.toArray ++ (strCells q).toArray ++ Builtin.zeroCells (Value.int .u8 0).cells (grownCap w (m + q.size) cap e - (m + q.size))) e)
          have e1 : (xs ++ bsv q.data.toList ++ (Builtin.zeroCells (Value.int .u8 0).cells (grownCap w (m + q.size) cap e - (m + q.size))).toList).toArray = xs.toArray ++ (strCells q).toArray ++ Builtin.zeroCells (Value.int .u8 0).cells (grownCap w (m + q.size) cap e - (m + q.size)) := by
            apply Array.ext'; simp [strCells_bsv]
          rw [e1]; exact h0
  obtain ⟨v', C', w', hr, ho, hw'⟩ := main
  unfold Oper.wp
  have hrun : (execOp a.eval ⟨some d, .call ⟨.builtin .append, #[x, y], #[t, s]⟩, ty, ps, af, g⟩).run P w = .ok (.value v') w' := by
    simp only [execOp, resolve, invoke, builtin, Sem.run_bind, Sem.run_pure, Result.andThen_ok, List.map_toArray, List.map_cons, List.map_nil, ha.eval hx, ha.eval hy, hr]
  rw [hrun, Oper.upon_value]
  exact (hk _ _ (h v' C' ho)).out _ _ (ha.put v' hn) (hw'.perm List.perm_middle.symm)⟩
end
end Go.Vx
namespace Go.Ob
open Go Go.Vx Go.Proofs.YtlomjmdgcpjepaaDoor Go.Lib
set_option linter.all false
variable [W0]
theorem str_app (a b : List UInt8) : str a ++ str b = str (a ++ b) := by
  apply ByteArray.ext
  simp [str]
theorem str_inj {a b : List UInt8} : str a = str b ↔ a = b := by
  constructor
  · intro h
    have := congrArg (fun s => s.data.toList) h
    simpa [str] using this
  · rintro rfl; rfl
theorem str_ext (t : List UInt8) (l h : Nat) : (str t).extract l h = str ((t.drop l).take (h - l)) := by
  apply ByteArray.ext
  apply Array.ext'
  simp [str, List.drop_take]
theorem str_tl (t : List UInt8) : (str t).toList = t := by rw [ByteArray.toList_eq]; rfl
theorem str_dec (t : List UInt8) (pos : Nat) : Utf8.decode (str t) pos = decodeL (t.drop pos) := (decodeL_drop (str t) pos).symm
section
variable {P : Program} {n : Nat} {M : List (Nat × Value)} {L : List Chunk} {K : List (Nat × Value) → List Chunk → Prop}
variable {d : Nat} {ty : TypeId} {ps : String} {af : Array Edge} {g : Option (Nat × Bool)} {x y : Operand} {v : Value}
theorem EV_catL (a b : List UInt8) {t u : TypeId} (hx : ev M x = some (.string (str a))) (hy : ev M y = some (.string (str b))) (hs : a.length + b.length ≤ 9223372036854775807) :
    EV P n ⟨some d, .binOp .add t x y u, ty, ps, af, g⟩ M L d (.string (str (a ++ b))) := by
  have := EV_strCat (P := P) (n := n) (M := M) (L := L) (d := d) (ty := ty) (ps := ps) (af := af) (g := g) (t := t) (u := u) hx hy (by simpa [str_size] using hs)
  rw [str_app] at this
  exact this
theorem EV_ltL (a b : List UInt8) {t u : TypeId} (hx : ev M x = some (.string (str a))) (hy : ev M y = some (.string (str b))) :
    EV P n ⟨some d, .binOp .lss t x y u, ty, ps, af, g⟩ M L d (.bool (Op.bytesLess a b)) := by
  have := EV_strLt (P := P) (n := n) (M := M) (L := L) (d := d) (ty := ty) (ps := ps) (af := af) (g := g) (t := t) (u := u) hx hy
  simpa only [str_tl] using this
theorem EV_cutL (t : List UInt8) (l h : Nat) {T : Nat} [hs : ST P T] {lo hi : Option Operand} (hx : ev M x = some (.string (str t))) (hl : bnd M lo 0 = some (l : Int)) (hh : bnd M hi t.length = some (h : Int))
    (h1 : l ≤ h) (h2 : h ≤ t.length) : EV P n ⟨some d, .slice T x lo hi none, ty, ps, af, g⟩ M L d (.string (str ((t.drop l).take (h - l)))) := by
  have := EV_sliceStr (P := P) (n := n) (M := M) (L := L) (d := d) (ty := ty) (ps := ps) (af := af) (g := g) (T := T) hx hl hh h1 h2
  rw [str_ext] at this
  exact this
end
omit [W0] in
theorem kdL_hit {k : Nat} (h1 : 1 ≤ k) (h2 : k ≤ 4) : kdL (nmL k) = k := by
  match k, h1, h2 with
  | 1, _, _ => decide
  | 2, _, _ => decide
  | 3, _, _ => decide
  | 4, _, _ => decide
omit [W0] in
theorem kdL_miss {s : List UInt8} (h : ∀ j, 1 ≤ j → j ≤ 4 → nmL j ≠ s) : kdL s = 0 := by
  have h1 := h 1 (by decide) (by decide)
  have h2 := h 2 (by decide) (by decide)
  have h3 := h 3 (by decide) (by decide)
  have h4 := h 4 (by decide) (by decide)
  unfold kdL
  exact (if_neg (Ne.symm h1)).trans ((if_neg (Ne.symm h2)).trans ((if_neg (Ne.symm h3)).trans (if_neg (Ne.symm h4))))
omit [W0] in
theorem nmI_nat {k : Nat} (h1 : 1 ≤ k) (h2 : k ≤ 4) : nmI (k : Int) = nmL k := by
  unfold nmI
  rw [if_pos (by omega)]
  rfl
omit [W0] in
theorem nmI_no {k : Int} (h : ¬ (1 ≤ k ∧ k ≤ 4)) : nmI k = [] := if_neg h
omit [W0] in
theorem nmI_len (k : Int) : (nmI k).length ≤ 6 := by
  unfold nmI
  split
  · rename_i h
    obtain ⟨n, rfl⟩ : ∃ n : Nat, k = n := ⟨k.toNat, by omega⟩
    match n, h with
    | 1, _ => decide
    | 2, _ => decide
    | 3, _ => decide
    | 4, _ => decide
    | 0, h => exact absurd h.1 (by decide)
    | n + 5, h => omega
  · exact Nat.zero_le _
end Go.Ob
namespace Go.Proofs.YtlomjmdgcpjepaaDoor
open Go Go.Vx Go.Ob
set_option linter.all false
variable [W0]
set_option maxRecDepth 4000
theorem obname_n (k : Int) (L : List Chunk) : GvP Tryd.prog 8 [.int .i64 k].toArray L (.string (str (nmI k))) := by
  refine Gv.of_body Tryd.func8 rfl rfl ?_
  (repeat' first|refine kW ?_|refine kU fun bk=>?_|refine kV fun hc=>?_|refine kZ (fun hc=>?_) fun hc=>?_|fail)
  · subst hc; exact kE
  · subst hc; exact kE
  · subst hc; exact kE
  · subst hc; exact kE
  · refine kR ?_
    exact ⟨_, iC, by rw [nmI_no (by omega)]; rfl, rfl⟩
theorem obkind_n (s : List UInt8) (L : List Chunk) : GvP Tryd.prog 6 [.string (str s)].toArray L (.tuple #[.int .i64 (kdL s : Int), .bool (decide (kdL s ≠ 0))]) := by
  refine Gv.of_body Tryd.func6 rfl rfl ?_
  (repeat' first|refine kW ?_|refine kU fun bk=>?_|refine kV fun hc=>?_|refine kZ (fun hc=>?_) fun hc=>?_|fail)
  refine WC_loop (X := Nat) (fun k => [(0, .string (str s)), (4, .int .i64 (k : Int))]) (fun _ => L) (fun k => 1 ≤ k ∧ k ≤ 5 ∧ ∀ j, 1 ≤ j → j < k → nmL j ≠ s) (fun k => 5 - k) 1 ⟨by omega, by omega, fun j h1 h2 => by omega⟩ iS (fun w h => h) ?_
  intro k ⟨h1, h2, h3⟩
  (repeat' first|refine kW ?_|refine kU fun bk=>?_|refine kV fun hc=>?_|refine kZ (fun hc=>?_) fun hc=>?_|fail)
  · refine OW_callP rfl rfl rfl (obname_n _ _) rfl ?_
    rw [nmI_nat h1 (by omega)]
    (repeat' first|refine kW ?_|refine kU fun bk=>?_|refine kV fun hc=>?_|refine kZ (fun hc=>?_) fun hc=>?_|fail)
    (repeat' first|refine kW ?_|refine kU fun bk=>?_|refine kV fun hc=>?_|refine kZ (fun hc=>?_) fun hc=>?_|fail)
    · have hc := str_inj.1 hc
      refine kR ?_
      refine ⟨_, iC, ?_, rfl⟩
      rw [← hc, kdL_hit h1 (by omega), decide_eq_true (by omega)]
      rfl
    · refine WQ_round (X := Nat) (μ := fun k => 5 - k) (x := k) (k + 1) (by omega) ⟨by omega, by omega, fun j g1 g2 => ?_⟩ iS (fun w h => h)
      rcases Nat.lt_or_ge j k with h | h
      · exact h3 j g1 h
      · rw [show j = k from by omega]; exact fun hh => hc (str_inj.2 hh)
  · refine kR ?_
    refine ⟨_, iC, ?_, rfl⟩
    rw [kdL_miss (fun j g1 g2 => h3 j g1 (by omega))]
    rfl
theorem sortname_n (m n i : List UInt8) (L : List Chunk) (hn : n.length ≤ 1000000000000000) : GvP Tryd.prog 40 [.agg #[.string (str m), .string (str n), .string (str i)]].toArray L (.string (str (keyL m n))) := by
  refine Gv.of_body (args := [.agg #[.string (str m), .string (str n), .string (str i)]]) Tryd.func40 rfl rfl ?_
  (repeat' first|refine kW ?_|refine kU fun bk=>?_|refine kV fun hc=>?_|refine kZ (fun hc=>?_) fun hc=>?_|fail)
  · have hc : m = mDir := str_inj.1 hc
    refine OW_EV (EV_catL n [47] rfl rfl (by simp; omega)) rfl ?_
    (repeat' first|refine kW ?_|refine kU fun bk=>?_|refine kV fun hc=>?_|refine kZ (fun hc=>?_) fun hc=>?_|fail)
    refine kR ?_
    exact ⟨_, iC, by rw [keyL, if_pos hc]; rfl, rfl⟩
  · have hc : ¬ m = mDir := fun h => hc (str_inj.2 h)
    refine kR ?_
    exact ⟨_, iC, by rw [keyL, if_neg hc]; rfl, rfl⟩
theorem refkey_n (m n i : List UInt8) (L : List Chunk) (hn : n.length ≤ 1000000000000000) : GvP Tryd.prog 41 [.agg #[.string (str m), .string (str n), .string (str i)]].toArray L (.string (str (keyL m n))) := by
  refine Gv.of_body (args := [.agg #[.string (str m), .string (str n), .string (str i)]]) Tryd.func41 rfl rfl ?_
  (repeat' first|refine kW ?_|refine kU fun bk=>?_|refine kV fun hc=>?_|refine kZ (fun hc=>?_) fun hc=>?_|fail)
  · have hc : m = mDir := str_inj.1 hc
    refine OW_EV (EV_catL n [47] rfl rfl (by simp; omega)) rfl ?_
    (repeat' first|refine kW ?_|refine kU fun bk=>?_|refine kV fun hc=>?_|refine kZ (fun hc=>?_) fun hc=>?_|fail)
    refine kR ?_
    exact ⟨_, iC, by rw [keyL, if_pos hc]; rfl, rfl⟩
  · have hc : ¬ m = mDir := fun h => hc (str_inj.2 h)
    refine kR ?_
    exact ⟨_, iC, by rw [keyL, if_neg hc]; rfl, rfl⟩
omit [W0] in
/-- An entry as a value. -/
def etV (x : Et) : Value := .agg #[.string (str x.m), .string (str x.n), .string (str x.i)]
theorem less_n (x y : Et) (L : List Chunk) (hx : x.n.length ≤ 1000000000000000) (hy : y.n.length ≤ 1000000000000000) : GvP Tryd.prog 21 [etV x, etV y].toArray L (.bool (lesE x y)) := by
  refine Gv.of_body (args := [etV x, etV y]) Tryd.func21 rfl rfl ?_
  unfold etV
  (repeat' first|refine kW ?_|refine kU fun bk=>?_|refine kV fun hc=>?_|refine kZ (fun hc=>?_) fun hc=>?_|fail)
  rename_i q
  refine WC_drawAll [5] mixed ?_
  (refine WR_t 0 ?_; refine WR_t 2 ?_)
  (refine WR_one 1 (by kernel_rfl) rfl rfl ?_)
  refine OW_callP rfl rfl rfl (sortname_n x.m x.n x.i _ hx) rfl ?_
  refine ⟨iC, ?_⟩
  (refine WR_one 3 (by kernel_rfl) rfl rfl ?_)
  refine OW_callP rfl rfl rfl (sortname_n y.m y.n y.i _ hy) rfl ?_
  refine ⟨iC, ?_⟩
  (refine WR_take 4 rfl rfl (by kernel_rfl) iP iC (EV_ltL (keyL x.m x.n) (keyL y.m y.n) rfl rfl) (by rfl) ?_)
  (refine WR_t 5 ?_)
  (refine WR_done (by kernel_rfl) ?_)
  (repeat' first|refine kW ?_|refine kU fun bk=>?_|refine kV fun hc=>?_|refine kZ (fun hc=>?_) fun hc=>?_|fail)
  exact kE
theorem refless_n (x y : Et) (L : List Chunk) (hx : x.n.length ≤ 1000000000000000) (hy : y.n.length ≤ 1000000000000000) : GvP Tryd.prog 22 [etV x, etV y].toArray L (.bool (lesE x y)) := by
  refine Gv.of_body (args := [etV x, etV y]) Tryd.func22 rfl rfl ?_
  unfold etV
  (repeat' first|refine kW ?_|refine kU fun bk=>?_|refine kV fun hc=>?_|refine kZ (fun hc=>?_) fun hc=>?_|fail)
  rename_i q
  refine WC_drawAll [5] mixed ?_
  (refine WR_t 0 ?_; refine WR_t 2 ?_)
  (refine WR_one 1 (by kernel_rfl) rfl rfl ?_)
  refine OW_callP rfl rfl rfl (refkey_n x.m x.n x.i _ hx) rfl ?_
  refine ⟨iC, ?_⟩
  (refine WR_one 3 (by kernel_rfl) rfl rfl ?_)
  refine OW_callP rfl rfl rfl (refkey_n y.m y.n y.i _ hy) rfl ?_
  refine ⟨iC, ?_⟩
  (refine WR_take 4 rfl rfl (by kernel_rfl) iP iC (EV_ltL (keyL x.m x.n) (keyL y.m y.n) rfl rfl) (by rfl) ?_)
  (refine WR_t 5 ?_)
  (refine WR_done (by kernel_rfl) ?_)
  (repeat' first|refine kW ?_|refine kU fun bk=>?_|refine kV fun hc=>?_|refine kZ (fun hc=>?_) fun hc=>?_|fail)
  exact kE
end Go.Proofs.YtlomjmdgcpjepaaDoor
namespace Go.Proofs.YtlomjmdgcpjepaaDoor
open Go Go.Shelf Go.Proofs
set_option linter.all false
set_option maxRecDepth 100000
def sh_v_ren : Go.Shelf.Ren :=
  {
    f := fun x =>
      match x with
      | 196 => 51
      | 259 => 60
      | n => n,
    t := fun x =>
      match x with
      | 9 => 9
      | 4 => 4
      | 3 => 3
      | 5 => 5
      | 12 => 12
      | 119 => 91
      | 0 => 0
      | 46 => 70
      | 139 => 94
      | 138 => 93
      | 53 => 74
      | n => n,
    g := fun x =>
      match x with
      | 3 => 0
      | 4 => 1
      | n => n }
theorem sh_v : Go.Proofs.Lays.n196 Go.Proofs.Tryd.prog sh_v_ren :=
  { mixed := by kernel_rfl,
    f196 := Eq.trans Go.Proofs.Tryd.func51 (congrArg Option.some (Eq.refl (Go.Proofs.Body.n196 sh_v_ren))),
    f259 := Eq.trans Go.Proofs.Tryd.func60 (congrArg Option.some (Eq.refl (Go.Proofs.Body.n259 sh_v_ren))),
    t0 := Go.Proofs.Tryd.underlying0, a0 := Go.Proofs.Tryd.isAgg0, z0 := Go.Proofs.Tryd.sizeOf0,
    v0 := Go.Proofs.Tryd.zeroValue0, t3 := Go.Proofs.Tryd.underlying3, a3 := Go.Proofs.Tryd.isAgg3,
    z3 := Go.Proofs.Tryd.sizeOf3, v3 := Go.Proofs.Tryd.zeroValue3, t4 := Go.Proofs.Tryd.underlying4,
    a4 := Go.Proofs.Tryd.isAgg4, z4 := Go.Proofs.Tryd.sizeOf4, v4 := Go.Proofs.Tryd.zeroValue4,
    t5 := Go.Proofs.Tryd.underlying5, a5 := Go.Proofs.Tryd.isAgg5, z5 := Go.Proofs.Tryd.sizeOf5,
    v5 := Go.Proofs.Tryd.zeroValue5, t9 := Go.Proofs.Tryd.underlying9, a9 := Go.Proofs.Tryd.isAgg9,
    z9 := Go.Proofs.Tryd.sizeOf9, v9 := Go.Proofs.Tryd.zeroValue9, t12 := Go.Proofs.Tryd.underlying12,
    a12 := Go.Proofs.Tryd.isAgg12, z12 := Go.Proofs.Tryd.sizeOf12, v12 := Go.Proofs.Tryd.zeroValue12,
    t46 := Go.Proofs.Tryd.underlying70, a46 := Go.Proofs.Tryd.isAgg70, z46 := Go.Proofs.Tryd.sizeOf70,
    v46 := Go.Proofs.Tryd.zeroValue70, t53 := Go.Proofs.Tryd.underlying74, a53 := Go.Proofs.Tryd.isAgg74,
    z53 := Go.Proofs.Tryd.sizeOf74, v53 := Go.Proofs.Tryd.zeroValue74, t119 := Go.Proofs.Tryd.underlying91,
    a119 := Go.Proofs.Tryd.isAgg91, z119 := Go.Proofs.Tryd.sizeOf91, t138 := Go.Proofs.Tryd.underlying93,
    a138 := Go.Proofs.Tryd.isAgg93, z138 := Go.Proofs.Tryd.sizeOf93, v138 := Go.Proofs.Tryd.zeroValue93,
    t139 := Go.Proofs.Tryd.underlying94, a139 := Go.Proofs.Tryd.isAgg94, z139 := Go.Proofs.Tryd.sizeOf94,
    v139 := Go.Proofs.Tryd.zeroValue94, g3 := by kernel_rfl,
    g4 := by kernel_rfl }
def sh_c_ren : Go.Shelf.Ren :=
  {
    f := fun x =>
      match x with
      | 145 => 31
      | 220 => 50
      | 219 => 59
      | 217 => 68
      | 225 => 69
      | 224 => 70
      | 267 => 71
      | 266 => 81
      | 314 => 82
      | n => n,
    t := fun x =>
      match x with
      | 9 => 9
      | 4 => 4
      | 59 => 54
      | 3 => 3
      | 5 => 5
      | 46 => 70
      | 146 => 114
      | 51 => 76
      | n => n,
    g := fun x =>
      match x with
      | 1 => 2
      | n => n }
theorem sh_c : Go.Proofs.Lays.n145 Go.Proofs.Tryd.prog sh_c_ren :=
  { mixed := by kernel_rfl,
    f145 := Eq.trans Go.Proofs.Tryd.func31 (congrArg Option.some (Eq.refl (Go.Proofs.Body.n145 sh_c_ren))),
    f217 := Eq.trans Go.Proofs.Tryd.func68 (congrArg Option.some (Eq.refl (Go.Proofs.Body.n217 sh_c_ren))),
    f219 := Eq.trans Go.Proofs.Tryd.func59 (congrArg Option.some (Eq.refl (Go.Proofs.Body.n219 sh_c_ren))),
    f220 := Eq.trans Go.Proofs.Tryd.func50 (congrArg Option.some (Eq.refl (Go.Proofs.Body.n220 sh_c_ren))),
    f224 := Eq.trans Go.Proofs.Tryd.func70 (congrArg Option.some (Eq.refl (Go.Proofs.Body.n224 sh_c_ren))),
    f225 := Eq.trans Go.Proofs.Tryd.func69 (congrArg Option.some (Eq.refl (Go.Proofs.Body.n225 sh_c_ren))),
    f266 := Eq.trans Go.Proofs.Tryd.func81 (congrArg Option.some (Eq.refl (Go.Proofs.Body.n266 sh_c_ren))),
    f267 := Eq.trans Go.Proofs.Tryd.func71 (congrArg Option.some (Eq.refl (Go.Proofs.Body.n267 sh_c_ren))),
    f314 := Eq.trans Go.Proofs.Tryd.func82 (congrArg Option.some (Eq.refl (Go.Proofs.Body.n314 sh_c_ren))),
    t3 := Go.Proofs.Tryd.underlying3, a3 := Go.Proofs.Tryd.isAgg3, z3 := Go.Proofs.Tryd.sizeOf3,
    v3 := Go.Proofs.Tryd.zeroValue3, t4 := Go.Proofs.Tryd.underlying4, a4 := Go.Proofs.Tryd.isAgg4,
    z4 := Go.Proofs.Tryd.sizeOf4, v4 := Go.Proofs.Tryd.zeroValue4, t5 := Go.Proofs.Tryd.underlying5,
    a5 := Go.Proofs.Tryd.isAgg5, z5 := Go.Proofs.Tryd.sizeOf5, v5 := Go.Proofs.Tryd.zeroValue5,
    t9 := Go.Proofs.Tryd.underlying9, a9 := Go.Proofs.Tryd.isAgg9, z9 := Go.Proofs.Tryd.sizeOf9,
    v9 := Go.Proofs.Tryd.zeroValue9, t46 := Go.Proofs.Tryd.underlying70, a46 := Go.Proofs.Tryd.isAgg70,
    z46 := Go.Proofs.Tryd.sizeOf70, v46 := Go.Proofs.Tryd.zeroValue70, t51 := Go.Proofs.Tryd.underlying76,
    a51 := Go.Proofs.Tryd.isAgg76, z51 := Go.Proofs.Tryd.sizeOf76, v51 := Go.Proofs.Tryd.zeroValue76,
    t59 := Go.Proofs.Tryd.underlying54, a59 := Go.Proofs.Tryd.isAgg54, z59 := Go.Proofs.Tryd.sizeOf54,
    v59 := Go.Proofs.Tryd.zeroValue54, t146 := Go.Proofs.Tryd.underlying114, a146 := Go.Proofs.Tryd.isAgg114,
    z146 := Go.Proofs.Tryd.sizeOf114, v146 := Go.Proofs.Tryd.zeroValue114,
    g1 := by kernel_rfl }
def sh_s_ren : Go.Shelf.Ren :=
  {
    f := fun x =>
      match x with
      | 283 => 61
      | n => n,
    t := fun x =>
      match x with
      | 3 => 3
      | 9 => 9
      | 4 => 4
      | n => n,
    g := fun x =>
      have n := x;
      n }
theorem sh_s : Go.Proofs.Lays.n283 Go.Proofs.Tryd.prog sh_s_ren :=
  { mixed := by kernel_rfl,
    f283 := Eq.trans Go.Proofs.Tryd.func61 (congrArg Option.some (Eq.refl (Go.Proofs.Body.n283 sh_s_ren))),
    t3 := Go.Proofs.Tryd.underlying3, a3 := Go.Proofs.Tryd.isAgg3, z3 := Go.Proofs.Tryd.sizeOf3,
    v3 := Go.Proofs.Tryd.zeroValue3, t4 := Go.Proofs.Tryd.underlying4, a4 := Go.Proofs.Tryd.isAgg4,
    z4 := Go.Proofs.Tryd.sizeOf4, v4 := Go.Proofs.Tryd.zeroValue4, t9 := Go.Proofs.Tryd.underlying9,
    a9 := Go.Proofs.Tryd.isAgg9, z9 := Go.Proofs.Tryd.sizeOf9, v9 := Go.Proofs.Tryd.zeroValue9 }
def sh_d_ren : Go.Shelf.Ren :=
  {
    f := fun x =>
      match x with
      | 284 => 62
      | 129 => 73
      | 317 => 72
      | 318 => 74
      | n => n,
    t := fun x =>
      match x with
      | 53 => 74
      | 3 => 3
      | 212 => 110
      | 0 => 0
      | 4 => 4
      | 46 => 70
      | 5 => 5
      | 9 => 9
      | n => n,
    g := fun x =>
      match x with
      | 17 => 3
      | n => n }
theorem sh_d : Go.Proofs.LaysM.n284 Go.Proofs.Tryd.prog sh_d_ren :=
  { mixed := by kernel_rfl,
    f129 := Eq.trans Go.Proofs.Tryd.func73 (congrArg Option.some (Eq.refl (Go.Proofs.Body.n129 sh_d_ren))),
    f284 := Eq.trans Go.Proofs.Tryd.func62 (congrArg Option.some (Eq.refl (Go.Proofs.Body.n284 sh_d_ren))),
    f317 := Eq.trans Go.Proofs.Tryd.func72 (congrArg Option.some (Eq.refl (Go.Proofs.Body.n317 sh_d_ren))),
    f318 := Eq.trans Go.Proofs.Tryd.func74 (congrArg Option.some (Eq.refl (Go.Proofs.Body.n318 sh_d_ren))),
    t0 := Go.Proofs.Tryd.underlying0, a0 := Go.Proofs.Tryd.isAgg0, z0 := Go.Proofs.Tryd.sizeOf0,
    v0 := Go.Proofs.Tryd.zeroValue0, t3 := Go.Proofs.Tryd.underlying3, a3 := Go.Proofs.Tryd.isAgg3,
    z3 := Go.Proofs.Tryd.sizeOf3, v3 := Go.Proofs.Tryd.zeroValue3, t4 := Go.Proofs.Tryd.underlying4,
    a4 := Go.Proofs.Tryd.isAgg4, z4 := Go.Proofs.Tryd.sizeOf4, v4 := Go.Proofs.Tryd.zeroValue4,
    t5 := Go.Proofs.Tryd.underlying5, a5 := Go.Proofs.Tryd.isAgg5, z5 := Go.Proofs.Tryd.sizeOf5,
    v5 := Go.Proofs.Tryd.zeroValue5, t9 := Go.Proofs.Tryd.underlying9, a9 := Go.Proofs.Tryd.isAgg9,
    z9 := Go.Proofs.Tryd.sizeOf9, v9 := Go.Proofs.Tryd.zeroValue9, t46 := Go.Proofs.Tryd.underlying70,
    a46 := Go.Proofs.Tryd.isAgg70, z46 := Go.Proofs.Tryd.sizeOf70, v46 := Go.Proofs.Tryd.zeroValue70,
    t53 := Go.Proofs.Tryd.underlying74, a53 := Go.Proofs.Tryd.isAgg74, z53 := Go.Proofs.Tryd.sizeOf74,
    v53 := Go.Proofs.Tryd.zeroValue74, t212 := Go.Proofs.Tryd.underlying110, a212 := Go.Proofs.Tryd.isAgg110,
    z212 := Go.Proofs.Tryd.sizeOf110, v212 := Go.Proofs.Tryd.zeroValue110,
    g17 := by kernel_rfl,
    i0 := Eq.refl (Option.some (Option.some (Go.Value.tuple #[]), 1, 0)),
    i3 := Eq.refl (Option.some (Option.some (Go.Value.int Go.IntKind.i64 0), 1, 8)),
    i4 := Eq.refl (Option.some (Option.some (Go.Value.bool Bool.false), 1, 1)),
    i5 := Eq.refl (Option.some (Option.some (Go.Value.int Go.IntKind.u8 0), 1, 1)),
    i9 := Eq.refl (Option.some (Option.some (Go.Value.string { data := #[] }), 1, 16)),
    i46 := Eq.refl (Option.some (Option.some (Go.Value.int Go.IntKind.u64 0), 1, 8)),
    i53 := Eq.refl (Option.some (Option.some (Go.Value.int Go.IntKind.u64 0), 1, 8)),
    i212 :=
      Eq.refl
        (Option.some
          (Option.some
              (Go.Value.agg
                #[Go.Value.int Go.IntKind.u64 0, Go.Value.int Go.IntKind.u64 0, Go.Value.int Go.IntKind.u64 0,
                  Go.Value.int Go.IntKind.u64 0, Go.Value.int Go.IntKind.u64 0, Go.Value.int Go.IntKind.u64 0,
                  Go.Value.int Go.IntKind.u64 0, Go.Value.int Go.IntKind.u64 0, Go.Value.int Go.IntKind.u64 0,
                  Go.Value.int Go.IntKind.u64 0, Go.Value.int Go.IntKind.u64 0, Go.Value.int Go.IntKind.u64 0,
                  Go.Value.int Go.IntKind.u64 0, Go.Value.int Go.IntKind.u64 0, Go.Value.int Go.IntKind.u64 0,
                  Go.Value.int Go.IntKind.u64 0, Go.Value.int Go.IntKind.u64 0, Go.Value.int Go.IntKind.u64 0,
                  Go.Value.int Go.IntKind.u64 0, Go.Value.int Go.IntKind.u64 0]),
            20, 160)),
    m17 := by kernel_rfl }
def sh_b_ren : Go.Shelf.Ren :=
  {
    f := fun x =>
      match x with
      | 285 => 63
      | n => n,
    t := fun x =>
      match x with
      | 37 => 25
      | 53 => 74
      | 3 => 3
      | 4 => 4
      | 51 => 76
      | 9 => 9
      | 5 => 5
      | 0 => 0
      | n => n,
    g := fun x =>
      have n := x;
      n }
theorem sh_b : Go.Proofs.Lays.n285 Go.Proofs.Tryd.prog sh_b_ren :=
  { mixed := by kernel_rfl,
    f285 := Eq.trans Go.Proofs.Tryd.func63 (congrArg Option.some (Eq.refl (Go.Proofs.Body.n285 sh_b_ren))),
    t0 := Go.Proofs.Tryd.underlying0, a0 := Go.Proofs.Tryd.isAgg0, z0 := Go.Proofs.Tryd.sizeOf0,
    v0 := Go.Proofs.Tryd.zeroValue0, t3 := Go.Proofs.Tryd.underlying3, a3 := Go.Proofs.Tryd.isAgg3,
    z3 := Go.Proofs.Tryd.sizeOf3, v3 := Go.Proofs.Tryd.zeroValue3, t4 := Go.Proofs.Tryd.underlying4,
    a4 := Go.Proofs.Tryd.isAgg4, z4 := Go.Proofs.Tryd.sizeOf4, v4 := Go.Proofs.Tryd.zeroValue4,
    t5 := Go.Proofs.Tryd.underlying5, a5 := Go.Proofs.Tryd.isAgg5, z5 := Go.Proofs.Tryd.sizeOf5,
    v5 := Go.Proofs.Tryd.zeroValue5, t9 := Go.Proofs.Tryd.underlying9, a9 := Go.Proofs.Tryd.isAgg9,
    z9 := Go.Proofs.Tryd.sizeOf9, v9 := Go.Proofs.Tryd.zeroValue9, t37 := Go.Proofs.Tryd.underlying25,
    a37 := Go.Proofs.Tryd.isAgg25, z37 := Go.Proofs.Tryd.sizeOf25, v37 := Go.Proofs.Tryd.zeroValue25,
    t51 := Go.Proofs.Tryd.underlying76, a51 := Go.Proofs.Tryd.isAgg76, z51 := Go.Proofs.Tryd.sizeOf76,
    v51 := Go.Proofs.Tryd.zeroValue76, t53 := Go.Proofs.Tryd.underlying74, a53 := Go.Proofs.Tryd.isAgg74,
    z53 := Go.Proofs.Tryd.sizeOf74, v53 := Go.Proofs.Tryd.zeroValue74 }
end Go.Proofs.YtlomjmdgcpjepaaDoor
namespace Go.Proofs.YtlomjmdgcpjepaaDoor
open Go Go.Vx Go.Ob Go.RowKit
set_option linter.all false
set_option maxRecDepth 4000
theorem zz (n j : Nat) : (bsv (List.replicate n 0))[j]? = if j < n then some (.int .u8 0) else none := by
  unfold bsv
  rw [List.map_replicate, List.getElem?_replicate]
  rfl
variable [W0]
structure BsAt (L : List Chunk) : Prop where
  ut : ∀ w, Vx.Holds w L → Lib.Utf8Tabs (sh_v_ren.g 3) (sh_v_ren.g 4) w
  mx : ∃ m, ∀ w, Vx.Holds w L → w.cell? ⟨(sh_c_ren.g 1), 0, none⟩ = some (.int .i64 m)
  pw : ∀ w, Vx.Holds w L → Lib.TabIs Tryd.prog w "internal/strconv.uint64pow10" .u64 Lib.pow10Tab
theorem BsAt.of {S L : List Chunk} (h : BsAt S) (hi : ∀ w, Vx.Holds w L → Vx.Holds w S) : BsAt L :=
  ⟨fun w hw => h.ut w (hi w hw), h.mx.imp fun m hm w hw => hm w (hi w hw), fun w hw => h.pw w (hi w hw)⟩
theorem BsAt.inc {S L : List Chunk} (h : BsAt S) (hi : Inc S L) : BsAt L := h.of fun w hw => hi.holds hw
theorem BsAt.there {L : List Chunk} {C : Chunk} (h : BsAt L) : BsAt (C :: L) := h.of fun w hw => hw.drop
theorem GvP.of_below {P : Program} {f : FuncId} {args : Array Value} {L : List Chunk} {v : Value} (h : ∀ w, Vx.Holds w L → Calls P f args w fun e w' => e = .returned v ∧ Below w.heap.size w w') : GvP P f args L v :=
  ⟨fun w hw => (h w hw).mono fun e w' he => ⟨v, L, he.1, ⟨rfl, rfl⟩, hw.1, fun x hx => by rw [he.2.block _ (hw.lt hx)]; exact hw.2.1 x hx, he.2.os.trans hw.2.2.1, he.2.output.trans hw.2.2.2⟩⟩
theorem below_drewN (w : World) (n : Nat) : Below w.heap.size w (w.drewN n) := ⟨rfl, rfl, rfl, Nat.le_refl _, fun _ _ => rfl⟩
theorem valid_n (t : List UInt8) (L : List Chunk) (hb : BsAt L) (hl : t.length ≤ 9223372036854775807) : GvP Tryd.prog 51 [.string (str t)].toArray L (.bool (Lib.validD t)) :=
  GvP.of_below fun w hw => Any.utf8_ValidString sh_v (str t) w hl (hb.ut w hw)
theorem cut_n (s sep : List UInt8) (L : List Chunk) (hb : BsAt L) (hl : s.length < 4294967281) :
    GvP Tryd.prog 31 [.string (str s), .string (str sep)].toArray L (.tuple #[.string (str (Lib.cut s sep).1), .string (str (Lib.cut s sep).2.1), .bool (Lib.cut s sep).2.2]) := by
  obtain ⟨m, hm⟩ := hb.mx
  refine GvP.of_below fun w hw => (Any.strings_Cut sh_c (str s) (str sep) m w hl (hm w hw)).mono ?_
  rintro e w' ⟨rfl, n, rfl⟩
  exact ⟨rfl, below_drewN w n⟩
theorem small_n (i : Nat) (L : List Chunk) (h : i < 100) : GvP Tryd.prog 61 [.int .i64 (i : Int)].toArray L (.string (str (Lib.decDigits i))) :=
  GvP.of_below fun w hw => (Any.internal_strconv_small sh_s i h w).mono (by rintro e w' ⟨rfl, rfl⟩; exact ⟨rfl, Below.refl _ _⟩)
theorem numdigits_n (u : Nat) (L : List Chunk) (hb : BsAt L) (h1 : 1 ≤ u) (h2 : u < 18446744073709551616) : GvP Tryd.prog 62 [.int .u64 (u : Int)].toArray L (.int .i64 (Lib.nDigits u : Int)) :=
  GvP.of_below fun w hw => (Any.internal_strconv_numDigits sh_d u h1 h2 w (hb.pw w hw)).mono (by rintro e w' ⟨rfl, rfl⟩; exact ⟨rfl, Below.refl _ _⟩)
theorem numdigits_le {u : Nat} (h1 : 1 ≤ u) (h2 : u < 18446744073709551616) : Lib.nDigits u ≤ 20 := by
  have := Lib.numDigits_eq u h1 h2
  split at this <;> omega
theorem fmt_n (b T u : Nat) (L : List Chunk) (h1 : 1 ≤ u) (h2 : u < 18446744073709551616) :
    Gv Tryd.prog 63 [.slice (some ⟨b, 0, none⟩) (Lib.nDigits u) 24, .int .u64 (u : Int)].toArray ([(b, cl (bsv (List.replicate 24 0)) T)] :: L)
      (fun r L' => r = .tuple #[] ∧ ∃ rest, rest.length = 24 - Lib.nDigits u ∧ L' = [(b, cl (bsv (Lib.decDigits u) ++ rest) T)] :: L) := ⟨fun w hw => by
  have hnd := numdigits_le h1 h2
  have hf : w.heap[b]? = some (cl (bsv (List.replicate 24 0)) T) := (Fnd.here : Fnd ([(b, _)] :: L) b _).get hw
  have hH : Sort.Holds (fun (b : UInt8) => Value.int .u8 (b.toNat : Int)) w b 0 (Array.replicate (Lib.nDigits u) (0 : UInt8)) := fun j hj => by
    have hj' : j < Lib.nDigits u := by simpa using hj
    constructor
    · rw [Nat.zero_add, cell_of hf, getElem!_pos _ j hj, List.getElem?_toArray, zz, if_pos (by omega), Array.getElem_replicate]
      rfl
    · simp [World.frozen?, hf, cl]
  have hc := Any.internal_strconv_formatBase10 sh_b b 0 24 u (Array.replicate (Lib.nDigits u) 0) w hH (by rw [Array.size_replicate]; exact Lib.lt_pow_nDigits u) h2 (by rw [Array.size_replicate]; omega)
  rw [Array.size_replicate] at hc
  refine hc.mono ?_
  rintro e w' ⟨rfl, n, v', dk, rfl, hF⟩
  have hsz : dk.size = Lib.nDigits u := hF.size
  have hdk : dk.toList = Lib.decDigits u := by
    refine List.ext_getElem (by rw [Array.length_toList, hsz, Lib.decDigits_length]) fun j hj1 hj2 => ?_
    rw [Lib.row_is_numeral hF j hj2, getElem!_pos _ j (by simpa using hj1)]
    rfl
  have hrow : Sort.putCells (fun (b : UInt8) => Value.int .u8 (b.toNat : Int)) 0 dk (bsv (List.replicate 24 0)).toArray = (bsv (Lib.decDigits u) ++ bsv (List.replicate (24 - Lib.nDigits u) 0)).toArray := by
    apply Array.ext'
    rw [← hdk]
    refine List.ext_getElem? fun j => ?_
    unfold Sort.putCells
    simp only [Array.getElem?_toList, Array.getElem?_mapIdx, List.getElem?_toArray, List.toList_toArray]
    rw [zz]
    rcases Nat.lt_or_ge j dk.size with h | h
    · rw [List.getElem?_append_left (by simpa [bsv] using h), if_pos (by omega)]
      simp [bsv, h, Array.getElem?_eq_getElem h]
    · rw [List.getElem?_append_right (by simpa [bsv] using h), zz]
      have hl : (bsv dk.toList).length = dk.size := by simp [bsv]
      rw [hl]
      rcases Nat.lt_or_ge j 24 with h' | h'
      · rw [if_pos h', if_pos (by omega), Option.map_some, if_neg (by omega)]
      · rw [if_neg (by omega), if_neg (by omega)]
        rfl
  refine ⟨.tuple #[], _, rfl, ⟨rfl, bsv (List.replicate (24 - Lib.nDigits u) 0), by simp [bsv], rfl⟩, hw.upd .here ?_ ?_ rfl rfl⟩
  · show (w.heap.modify b _)[b]? = _
    rw [Array.getElem?_modify, if_pos rfl, hf]
    show some (Obj.cells _ _ _) = _
    rw [hrow]
    rfl
  · intro c hc
    show (w.heap.modify b _)[c]? = _
    rw [Array.getElem?_modify, if_neg (Ne.symm hc)]⟩
end Go.Proofs.YtlomjmdgcpjepaaDoor
namespace Go.Vx
open Go
set_option linter.all false
variable [W0]
omit [W0] in
def val : List UInt8 → Nat
  | [] => 0
  | b :: r => b.toNat + 256 * val r
end Go.Vx
namespace Go.Proofs.YtlomjmdgcpjepaaDoor
open Go Go.Vx Go.Ob
set_option linter.all false
variable [W0]
set_option maxRecDepth 4000
omit [W0] in
theorem dgF_eq : ∀ (f n : Nat), n < 10 ^ (f + 1) → dgF (f + 1) n = Lib.decDigits n
  | 0, n, h => by
    unfold dgF
    rw [if_pos (by simpa using h), Lib.decDigits_one (by simpa using h)]
  | f + 1, n, h => by
    rw [Lib.decDigits]
    unfold dgF
    split
    · rfl
    · rw [dgF_eq f (n / 10) (by rw [Nat.pow_succ] at h; omega)]
omit [W0] in
theorem dgL_eq {n : Nat} (h : n < 100000000000000000000) : dgL n = Lib.decDigits n := dgF_eq 19 n h
theorem numdigits_lt (u : Nat) (h : u < 18446744073709551616) : Lib.nDigits u ≤ 20 := by
  rcases Nat.eq_zero_or_pos u with rfl | h1
  · rw [Lib.nDigits_small (by decide)]; decide
  · exact numdigits_le h1 h
theorem appenduint_n (u m : Nat) (v : Value) (xs : List Value) (C : Chunk) (L : List Chunk) (hb : BsAt L) (h : OwG 5 v m xs C) (hm : m ≤ 1000000) (hu : u < 18446744073709551616) :
    Gv Tryd.prog 55 [v, .int .u64 (u : Int), .int .i64 10].toArray (C :: L) (fun r L' => ∃ C', OwG 5 r (m + (Lib.decDigits u).length) (xs ++ bsv (Lib.decDigits u)) C' ∧ L' = C' :: L) := by
  refine Gv.of_body (args := [v, .int .u64 (u : Int), .int .i64 10]) Tryd.func55 rfl rfl ?_
  (repeat' first|refine kW ?_|refine kU fun bk=>?_|refine kV fun hc=>?_|refine kZ (fun hc=>?_) fun hc=>?_|fail)
  · refine OW_callP rfl rfl rfl (small_n u _ (by omega)) rfl ?_
    (repeat' first|refine kW ?_|refine kU fun bk=>?_|refine kV fun hc=>?_|refine kZ (fun hc=>?_) fun hc=>?_|fail)
    refine OW_appGS rfl rfl h (by repeat (first | exact Zip.here _ | apply Zip.there)) (by rw [str_size, Lib.decDigits_length]; have := numdigits_lt u hu; omega) (by rw [str_size, Lib.decDigits_length]; have := numdigits_lt u hu; unfold maxLen; omega) rfl (fun v' C' ho => ?_)
    (repeat' first|refine kW ?_|refine kU fun bk=>?_|refine kV fun hc=>?_|refine kZ (fun hc=>?_) fun hc=>?_|fail)
    refine kR ?_
    exact ⟨_, iC, C', ho, rfl⟩
  · refine OW_callP rfl rfl rfl (numdigits_n u _ hb.there.there (by omega) hu) rfl ?_
    (repeat' first|refine kW ?_|refine kU fun bk=>?_|refine kV fun hc=>?_|refine kZ (fun hc=>?_) fun hc=>?_|fail)
    have hnd := numdigits_le (by omega : 1 ≤ u) hu
    refine OW_EV (EV_sliceArr (l := 0) (h := Lib.nDigits u) rfl rfl rfl (Nat.zero_le _) (by omega) (by omega)) rfl ?_
    (repeat' first|refine kW ?_|refine kU fun bk=>?_|refine kV fun hc=>?_|refine kZ (fun hc=>?_) fun hc=>?_|fail)
    refine OW_call rfl rfl rfl (fmt_n _ _ u (C :: L) (by omega) hu) rfl (fun r L' hp => ?_)
    obtain ⟨rfl, rest, hrl, rfl⟩ := hp
    (repeat' first|refine kW ?_|refine kU fun bk=>?_|refine kV fun hc=>?_|refine kZ (fun hc=>?_) fun hc=>?_|fail)
    refine OW_EV (EV_sliceArr (l := 0) (h := Lib.nDigits u) rfl rfl rfl (Nat.zero_le _) (by omega) (by omega)) rfl ?_
    (repeat' first|refine kW ?_|refine kU fun bk=>?_|refine kV fun hc=>?_|refine kZ (fun hc=>?_) fun hc=>?_|fail)
    have hdl := Lib.decDigits_length u
    refine OW_appG rfl rfl h (sl_cells (xs := bsv (Lib.decDigits u)) (m := Lib.nDigits u) Fnd.here (by rw [bsv_length, hdl]; omega) (by simp)) (by repeat (first | exact Zip.here _ | apply Zip.there)) (by rfl) bsv_ones (by omega) (by unfold maxLen; omega) rfl (fun v' C' ho => ?_)
    (repeat' first|refine kW ?_|refine kU fun bk=>?_|refine kV fun hc=>?_|refine kZ (fun hc=>?_) fun hc=>?_|fail)
    refine kR ?_
    rw [← hdl] at ho
    exact ⟨_, iC, C', ho, rfl⟩
theorem appendint_n (i m : Nat) (v : Value) (xs : List Value) (C : Chunk) (L : List Chunk) (hb : BsAt L) (h : OwG 5 v m xs C) (hm : m ≤ 1000000) (hu : i ≤ 9223372036854775807) :
    Gv Tryd.prog 23 [v, .int .i64 (i : Int), .int .i64 10].toArray (C :: L) (fun r L' => ∃ C', OwG 5 r (m + (Lib.decDigits i).length) (xs ++ bsv (Lib.decDigits i)) C' ∧ L' = C' :: L) := by
  refine Gv.of_body (args := [v, .int .i64 (i : Int), .int .i64 10]) Tryd.func23 rfl rfl ?_
  (repeat' first|refine kW ?_|refine kU fun bk=>?_|refine kV fun hc=>?_|refine kZ (fun hc=>?_) fun hc=>?_|fail)
  have hin : Gv Tryd.prog 42 [v, .int .i64 (i : Int), .int .i64 10].toArray (C :: L) (fun r L' => ∃ C', OwG 5 r (m + (Lib.decDigits i).length) (xs ++ bsv (Lib.decDigits i)) C' ∧ L' = C' :: L) := by
    refine Gv.of_body (args := [v, .int .i64 (i : Int), .int .i64 10]) Tryd.func42 rfl rfl ?_
    (repeat' first|refine kW ?_|refine kU fun bk=>?_|refine kV fun hc=>?_|refine kZ (fun hc=>?_) fun hc=>?_|fail)
    refine OW_call rfl rfl rfl (appenduint_n i m v xs C L hb h hm (by omega)) rfl (fun r L' hp => ?_)
    obtain ⟨C', ho, rfl⟩ := hp
    (repeat' first|refine kW ?_|refine kU fun bk=>?_|refine kV fun hc=>?_|refine kZ (fun hc=>?_) fun hc=>?_|fail)
    refine kR ?_
    exact ⟨_, iC, C', ho, rfl⟩
  refine OW_call rfl rfl rfl hin rfl (fun r L' hp => ?_)
  obtain ⟨C', ho, rfl⟩ := hp
  (repeat' first|refine kW ?_|refine kU fun bk=>?_|refine kV fun hc=>?_|refine kZ (fun hc=>?_) fun hc=>?_|fail)
  refine kR ?_
  exact ⟨_, iC, C', ho, rfl⟩
theorem header_n (k n : Int) (L : List Chunk) (hb : BsAt L) (hn : n ≤ 9223372036854775807) :
    Gv Tryd.prog 10 [.int .i64 k, .int .i64 n].toArray L (fun r L' => ∃ C, OwG 5 r (hdL k n).length (bsv (hdL k n)) C ∧ L' = C :: L) := by
  refine Gv.of_body (args := [.int .i64 k, .int .i64 n]) Tryd.func10 rfl rfl ?_
  (repeat' first|refine kW ?_|refine kU fun bk=>?_|refine kV fun hc=>?_|refine kZ (fun hc=>?_) fun hc=>?_|fail)
  refine OW_callP rfl rfl rfl (obname_n k _) rfl ?_
  (repeat' first|refine kW ?_|refine kU fun bk=>?_|refine kV fun hc=>?_|refine kZ (fun hc=>?_) fun hc=>?_|fail)
  have h6 := nmI_len k
  refine OW_convBytes rfl (by rw [str_size]; unfold maxLen; omega) rfl (fun v C ho => ?_)
  rw [str_size, str_data] at ho
  (repeat' first|refine kW ?_|refine kU fun bk=>?_|refine kV fun hc=>?_|refine kZ (fun hc=>?_) fun hc=>?_|fail)
  refine OW_buildSlice (cs := bsv [32]) rfl (by rfl) (by simp [fillL, patch, Value.cells, zeros]; rfl) (by omega) rfl rfl (fun b1 => ?_)
  (repeat' first|refine kW ?_|refine kU fun bk=>?_|refine kV fun hc=>?_|refine kZ (fun hc=>?_) fun hc=>?_|fail)
  refine OW_appG rfl rfl (OwG.f ho) (sl_cells (xs := bsv [32]) (m := 1) Fnd.here rfl (by simp)) (by repeat (first | exact Zip.here _ | apply Zip.there)) (by rfl) bsv_ones (by omega) (by unfold maxLen; omega) rfl (fun v1 C1 h1 => ?_)
  (repeat' first|refine kW ?_|refine kU fun bk=>?_|refine kV fun hc=>?_|refine kZ (fun hc=>?_) fun hc=>?_|fail)
  obtain ⟨i, hi⟩ : ∃ i : Nat, max n 0 = (i : Int) := ⟨(max n 0).toNat, by omega⟩
  rw [hi]
  have hi2 : i ≤ 9223372036854775807 := by omega
  refine OW_call rfl rfl rfl (Gv.take (appendint_n i _ v1 _ C1 _ (hb.there) h1 (by omega) hi2) (by repeat (first | exact Take.here | apply Take.there))) rfl (fun r L' hp => ?_)
  obtain ⟨C2, h2, rfl⟩ := hp
  (repeat' first|refine kW ?_|refine kU fun bk=>?_|refine kV fun hc=>?_|refine kZ (fun hc=>?_) fun hc=>?_|fail)
  refine OW_buildSlice (cs := bsv [0]) rfl (by rfl) (by simp [fillL, patch, Value.cells, zeros]; rfl) (by omega) rfl rfl (fun b2 => ?_)
  (repeat' first|refine kW ?_|refine kU fun bk=>?_|refine kV fun hc=>?_|refine kZ (fun hc=>?_) fun hc=>?_|fail)
  have hd := numdigits_lt i (by omega)
  rw [← Lib.decDigits_length] at hd
  refine OW_appG rfl rfl h2 (sl_cells (xs := bsv [0]) (m := 1) Fnd.here rfl (by simp)) (by repeat (first | exact Zip.here _ | apply Zip.there)) (by rfl) bsv_ones (by omega) (by unfold maxLen; omega) rfl (fun v3 C3 h3 => ?_)
  (repeat' first|refine kW ?_|refine kU fun bk=>?_|refine kV fun hc=>?_|refine kZ (fun hc=>?_) fun hc=>?_|fail)
  refine kR ?_
  have e : hdL k n = nmI k ++ [32] ++ Lib.decDigits i ++ [0] := by
    unfold hdL
    rw [hi, Int.toNat_natCast, dgL_eq (by omega)]
  refine ⟨C3 :: L, iC, C3, ?_, rfl⟩
  have e2 : (nmI k ++ [32] ++ Lib.decDigits i ++ [0]).length = (nmI k).length + 1 + (Lib.decDigits i).length + 1 := by simp only [List.length_append, List.length_cons, List.length_nil]
  rw [e, e2, bsv_append, bsv_append, bsv_append]
  exact h3
theorem hdL_len (k n : Int) (hn : n ≤ 9223372036854775807) : (hdL k n).length ≤ 28 := by
  have h6 := nmI_len k
  have hd := numdigits_lt (max n 0).toNat (by omega)
  rw [← Lib.decDigits_length] at hd
  unfold hdL
  rw [dgL_eq (by omega)]
  simp only [List.length_append, List.length_cons, List.length_nil]
  omega
theorem OwG.slc {e m : Nat} {v : Value} {xs : List Value} {C : Chunk} {L : List Chunk} (h : OwG e v m xs C) : SlC (C :: L) 1 v m xs := ⟨h.sl, h.room⟩
theorem id_n (k : Int) (v : Value) (t : List UInt8) (L : List Chunk) (hb : BsAt L) (ht : t.length ≤ 140737488351232) (hv : SlC L 1 v t.length (bsv t)) :
    GvP Tryd.prog 12 [.int .i64 k, v].toArray L (.string (str (idL k t))) := by
  obtain ⟨a, c, rfl, hac⟩ := hv.room
  refine Gv.of_body (args := [.int .i64 k, .slice a t.length c]) Tryd.func12 rfl rfl ?_
  (repeat' first|refine kW ?_|refine kU fun bk=>?_|refine kV fun hc=>?_|refine kZ (fun hc=>?_) fun hc=>?_|fail)
  refine OW_call rfl rfl rfl (header_n k t.length L hb (by omega)) rfl (fun r L' hp => ?_)
  obtain ⟨C, ho, rfl⟩ := hp
  have hl := hdL_len k t.length (by omega)
  (repeat' first|refine kW ?_|refine kU fun bk=>?_|refine kV fun hc=>?_|refine kZ (fun hc=>?_) fun hc=>?_|fail)
  refine OW_appG rfl rfl ho hv.there.sl (by repeat (first | exact Zip.here _ | apply Zip.there)) (by rfl) bsv_ones (by omega) (by unfold maxLen; omega) rfl (fun v1 C1 h1 => ?_)
  rw [← bsv_append, ← List.length_append] at h1
  (repeat' first|refine kW ?_|refine kU fun bk=>?_|refine kV fun hc=>?_|refine kZ (fun hc=>?_) fun hc=>?_|fail)
  refine OW_call rfl rfl rfl (sha1_n (hdL k t.length ++ t) v1 _ (by rw [List.length_append]; omega) (OwG.slc h1)) rfl (fun r L' hp => ?_)
  obtain ⟨C2, rfl, h2⟩ := hp
  (repeat' first|refine kW ?_|refine kU fun bk=>?_|refine kV fun hc=>?_|refine kZ (fun hc=>?_) fun hc=>?_|fail)
  refine OW_callP rfl rfl rfl (hex_n (shaN (hdL k t.length ++ t)) _ _ (by rw [shaN_length]; decide) (by rw [shaN_length]; exact SlC.ow h2)) rfl ?_
  (repeat' first|refine kW ?_|refine kU fun bk=>?_|refine kV fun hc=>?_|refine kZ (fun hc=>?_) fun hc=>?_|fail)
  exact kE
end Go.Proofs.YtlomjmdgcpjepaaDoor
namespace Go.Proofs.YtlomjmdgcpjepaaDoor
open Go Go.Vx Go.Ob Go.Lib
set_option linter.all false
variable [W0]
set_option maxRecDepth 4000
theorem consists_n (p : Nat → Bool) (f : FuncId) [hbd : BD Tryd.prog f] (hp : ∀ (c : Nat) (L : List Chunk), GvP Tryd.prog f [.int .i32 (c : Int)].toArray L (.bool (p c))) (s : List UInt8) (L : List Chunk) (hb : BsAt L) (hs : s.length ≤ 9223372036854775807) :
    GvP Tryd.prog 32 [.string (str s), .func (.func f) #[] #[]].toArray L (.bool (consB p s)) := by
  refine Gv.of_body (args := [.string (str s), .func (.func f) #[] #[]]) Tryd.func32 rfl rfl ?_
  (repeat' first|refine kW ?_|refine kU fun bk=>?_|refine kV fun hc=>?_|refine kZ (fun hc=>?_) fun hc=>?_|fail)
  refine OW_rangeS rfl rfl (fun b => ?_)
  (repeat' first|refine kW ?_|refine kU fun bk=>?_|refine kV fun hc=>?_|refine kZ (fun hc=>?_) fun hc=>?_|fail)
  refine WC_loop (X := Nat) (fun x => [(0, .string (str s)), (1, .func (.func f) #[] #[]), (8, .pointer (some ⟨b, 0, none⟩))]) (fun x => [(b, .stringIter (str s) x)] :: L) (fun x => x ≤ s.length ∧ rall p (s.drop x) = rall p s) (fun x => s.length - x) 0 ⟨Nat.zero_le _, rfl⟩ iS (fun w h => h) ?_
  intro k ⟨h1, h2⟩
  by_cases hk : k < s.length
  · have hne : s.drop k ≠ [] := fun h => by have := congrArg List.length h; simp at this; omega
    have hst := rall_step p _ hne
    have hle := decodeL_le _ hne
    have hwd := decodeL_width (s.drop k)
    rw [List.length_drop] at hle
    rw [h2] at hst
    (repeat' first|refine kW ?_|refine kU fun bk=>?_|refine kV fun hc=>?_|refine kZ (fun hc=>?_) fun hc=>?_|fail)
    refine OW_nextS rfl (by rw [str_size]; exact hk) .here rfl ?_
    rw [str_dec]
    generalize (decodeL (s.drop k)).1 = c at *
    generalize (decodeL (s.drop k)).2 = wd at *
    (repeat' first|refine kW ?_|refine kU fun bk=>?_|refine kV fun hc=>?_|refine kZ (fun hc=>?_) fun hc=>?_|fail)
    refine OW_callP rfl rfl rfl (hp c _) rfl ?_
    cases hc : p c with
    | true =>
      rw [hc, Bool.true_and, List.drop_drop] at hst
      (repeat' first|refine kW ?_|refine kU fun bk=>?_|refine kV fun hc=>?_|refine kZ (fun hc=>?_) fun hc=>?_|fail)
      refine WQ_round (X := Nat) (μ := fun x => s.length - x) (x := k) (k + wd) (by omega) ⟨by omega, hst.symm⟩ iS (fun w h => h)
    | false =>
      rw [hc, Bool.false_and] at hst
      (repeat' first|refine kW ?_|refine kU fun bk=>?_|refine kV fun hc=>?_|refine kZ (fun hc=>?_) fun hc=>?_|fail)
      refine kR ?_
      exact ⟨L, iC, by unfold consB; rw [hst]; rfl, rfl⟩
  · (repeat' first|refine kW ?_|refine kU fun bk=>?_|refine kV fun hc=>?_|refine kZ (fun hc=>?_) fun hc=>?_|fail)
    refine OW_EV (EV_endS rfl Fnd.here (by rw [str_size]; exact hk)) rfl ?_
    (repeat' first|refine kW ?_|refine kU fun bk=>?_|refine kV fun hc=>?_|refine kZ (fun hc=>?_) fun hc=>?_|fail)
    refine OW_callP rfl rfl rfl (valid_n s _ hb.there hs) rfl ?_
    (repeat' first|refine kW ?_|refine kU fun bk=>?_|refine kV fun hc=>?_|refine kZ (fun hc=>?_) fun hc=>?_|fail)
    refine kR ?_
    rw [List.drop_eq_nil_of_le (by omega)] at h2
    exact ⟨L, iC, by unfold consB; rw [← h2]; rfl, rfl⟩
theorem inperson_n (c : Nat) (L : List Chunk) : GvP Tryd.prog 33 [.int .i32 (c : Int)].toArray L (.bool (inP c)) := by
  refine Gv.of_body Tryd.func33 rfl rfl ?_
  (repeat' first|refine kW ?_|refine kU fun bk=>?_|refine kV fun hc=>?_|refine kZ (fun hc=>?_) fun hc=>?_|fail)
  all_goals (refine kR ?_; refine ⟨L, iC, ?_, rfl⟩; unfold inP; show Value.bool _ = Value.bool _; congr 1; rw [Bool.eq_iff_iff]; simp; omega)
theorem isdigit_n (c : Nat) (L : List Chunk) : GvP Tryd.prog 52 [.int .i32 (c : Int)].toArray L (.bool (inD c)) := by
  refine Gv.of_body Tryd.func52 rfl rfl ?_
  (repeat' first|refine kW ?_|refine kU fun bk=>?_|refine kV fun hc=>?_|refine kZ (fun hc=>?_) fun hc=>?_|fail)
  all_goals (refine kR ?_; refine ⟨L, iC, ?_, rfl⟩; unfold inD; show Value.bool _ = Value.bool _; congr 1; rw [Bool.eq_iff_iff]; simp; omega)
omit [W0] in
theorem timB_cons (a : UInt8) (t : List UInt8) : timB (a :: t) = (decide (t.length ≤ 11) && (decide (t.length = 0) || decide (a.toNat ≠ 48)) && (a :: t).all (fun b => inD b.toNat)) := by
  unfold timB
  have q : a ≠ 48 ↔ a.toNat ≠ 48 := not_congr (UInt8.toNat_inj (a := a) (b := 48)).symm
  rw [decide_eq_true (show a :: t ≠ [] by simp), Bool.true_and]
  congr 2
  · rw [Bool.eq_iff_iff]; simp
  · congr 1
    · rw [Bool.eq_iff_iff]; simp
    · exact decide_eq_decide.2 q
theorem istime_n (s : List UInt8) (L : List Chunk) (hb : BsAt L) (hs : s.length ≤ 9223372036854775807) : GvP Tryd.prog 34 [.string (str s)].toArray L (.bool (timB s)) := by
  refine Gv.of_body Tryd.func34 rfl rfl ?_
  have hcs := consists_n inD _ isdigit_n s L hb hs
  rw [cons_lo inD inD_lo] at hcs
  cases s with
  | nil =>
    (repeat' first|refine kW ?_|refine kU fun bk=>?_|refine kV fun hc=>?_|refine kZ (fun hc=>?_) fun hc=>?_|fail)
    exact kE
  | cons a t =>
    have he : ¬ str (a :: t) = str [] := fun h => by have := str_inj.1 h; simp at this
    have hl : (str (a :: t)).size = t.length + 1 := by rw [str_size]; rfl
    rw [timB_cons]
    (repeat' first|refine kW ?_|refine kU fun bk=>?_|refine kV fun hc=>?_|refine kZ (fun hc=>?_) fun hc=>?_|fail)
    · rw [hl] at hc
      refine kR ?_
      exact ⟨L, iC, by rw [decide_eq_false (by omega)]; rfl, rfl⟩
    · refine OW_EV (EV_indexStr (j := 0) (u := a) rfl rfl rfl (str_get (t := a :: t) (by simp))) rfl ?_
      have h1 := hc
      rename_i h12
      rw [hl] at h12 h1
      (repeat' first|refine kW ?_|refine kU fun bk=>?_|refine kV fun hc=>?_|refine kZ (fun hc=>?_) fun hc=>?_|fail)
      · refine kR ?_
        exact ⟨L, iC, by rw [decide_eq_false (p := t.length = 0) (by omega), decide_eq_false (p := a.toNat ≠ 48) (by omega), Bool.or_self, Bool.and_false, Bool.false_and]; rfl, rfl⟩
      · refine OW_callP rfl rfl rfl hcs rfl ?_
        (repeat' first|refine kW ?_|refine kU fun bk=>?_|refine kV fun hc=>?_|refine kZ (fun hc=>?_) fun hc=>?_|fail)
        refine kR ?_
        exact ⟨L, iC, by rw [decide_eq_true (p := t.length ≤ 11) (by omega), decide_eq_true (p := a.toNat ≠ 48) (by omega), Bool.or_true]; rfl, rfl⟩
    · rename_i h12 
      rw [hl] at h12 hc
      refine OW_callP rfl rfl rfl hcs rfl ?_
      (repeat' first|refine kW ?_|refine kU fun bk=>?_|refine kV fun hc=>?_|refine kZ (fun hc=>?_) fun hc=>?_|fail)
      refine kR ?_
      exact ⟨L, iC, by rw [decide_eq_true (p := t.length ≤ 11) (by omega), decide_eq_true (p := t.length = 0) (by omega)]; rfl, rfl⟩
theorem iszone_n (s : List UInt8) (L : List Chunk) (hb : BsAt L) (hs : s.length ≤ 9223372036854775807) : GvP Tryd.prog 35 [.string (str s)].toArray L (.bool (zonB s)) := by
  refine Gv.of_body Tryd.func35 rfl rfl ?_
  by_cases h5 : s.length = 5
  · match s, h5 with
    | [c0, c1, c2, c3, c4], _ =>
      have hcs := consists_n inD _ isdigit_n [c1, c2, c3, c4] L hb (by simp)
      rw [cons_lo inD inD_lo] at hcs
      have q43 : c0 = 43 ↔ c0.toNat = 43 := (UInt8.toNat_inj (a := c0) (b := 43)).symm
      have q45 : c0 = 45 ↔ c0.toNat = 45 := (UInt8.toNat_inj (a := c0) (b := 45)).symm
      have hz : zonB [c0, c1, c2, c3, c4] = ((decide (c0.toNat = 43) || decide (c0.toNat = 45)) && [c1, c2, c3, c4].all (fun b => inD b.toNat)) := by
        unfold zonB
        rw [decide_eq_true (show [c0, c1, c2, c3, c4].length = 5 from rfl), Bool.true_and]
        show ((decide (c0 = 43) || decide (c0 = 45)) && _) = _
        rw [decide_eq_decide.2 q43, decide_eq_decide.2 q45]
        rfl
      have hl : (str [c0, c1, c2, c3, c4]).size = 5 := rfl
      rw [hz]
      (repeat' first|refine kW ?_|refine kU fun bk=>?_|refine kV fun hc=>?_|refine kZ (fun hc=>?_) fun hc=>?_|fail)
      refine OW_EV (EV_indexStr (j := 0) (u := c0) rfl rfl rfl (str_get (t := [c0, c1, c2, c3, c4]) (by simp))) rfl ?_
      (repeat' first|refine kW ?_|refine kU fun bk=>?_|refine kV fun hc=>?_|refine kZ (fun hc=>?_) fun hc=>?_|fail)
      · refine OW_EV (EV_cutL [c0, c1, c2, c3, c4] 1 5 rfl rfl rfl (by decide) (Nat.le_refl 5)) rfl ?_
        (repeat' first|refine kW ?_|refine kU fun bk=>?_|refine kV fun hc=>?_|refine kZ (fun hc=>?_) fun hc=>?_|fail)
        refine OW_callP rfl rfl rfl hcs rfl ?_
        (repeat' first|refine kW ?_|refine kU fun bk=>?_|refine kV fun hc=>?_|refine kZ (fun hc=>?_) fun hc=>?_|fail)
        refine kR ?_
        exact ⟨L, iC, by rw [decide_eq_true (p := c0.toNat = 43) (by omega)]; rfl, rfl⟩
      · refine OW_EV (EV_indexStr (j := 0) (u := c0) rfl rfl rfl (str_get (t := [c0, c1, c2, c3, c4]) (by simp))) rfl ?_
        (repeat' first|refine kW ?_|refine kU fun bk=>?_|refine kV fun hc=>?_|refine kZ (fun hc=>?_) fun hc=>?_|fail)
        · refine OW_EV (EV_cutL [c0, c1, c2, c3, c4] 1 5 rfl rfl rfl (by decide) (Nat.le_refl 5)) rfl ?_
          (repeat' first|refine kW ?_|refine kU fun bk=>?_|refine kV fun hc=>?_|refine kZ (fun hc=>?_) fun hc=>?_|fail)
          refine OW_callP rfl rfl rfl hcs rfl ?_
          (repeat' first|refine kW ?_|refine kU fun bk=>?_|refine kV fun hc=>?_|refine kZ (fun hc=>?_) fun hc=>?_|fail)
          refine kR ?_
          exact ⟨L, iC, by rw [decide_eq_true (p := c0.toNat = 45) (by omega), Bool.or_true]; rfl, rfl⟩
        · rename_i h43
          refine kR ?_
          exact ⟨L, iC, by rw [decide_eq_false (p := c0.toNat = 43) (by omega), decide_eq_false (p := c0.toNat = 45) (by omega)]; rfl, rfl⟩
  · have h6 : ¬ ((str s).size : Int) = 5 := by rw [str_size]; omega
    (repeat' first|refine kW ?_|refine kU fun bk=>?_|refine kV fun hc=>?_|refine kZ (fun hc=>?_) fun hc=>?_|fail)
    refine kR ?_
    exact ⟨L, iC, by unfold zonB; rw [decide_eq_false h5]; rfl, rfl⟩
omit [W0] in
theorem index_ge : ∀ s sub : List UInt8, -1 ≤ Lib.index s sub
  | [], sub => by unfold Lib.index; split <;> decide
  | x :: t, sub => by
    have := index_ge t sub
    unfold Lib.index
    split
    · decide
    · split <;> omega
omit [W0] in
theorem cut_cons (x : UInt8) (t sep : List UInt8) : Lib.cut (x :: t) sep = if sep.isPrefixOf (x :: t) then ([], (x :: t).drop sep.length, true) else (x :: (Lib.cut t sep).1, (Lib.cut t sep).2.1, (Lib.cut t sep).2.2) := by
  have hge := index_ge t sep
  by_cases hp : sep.isPrefixOf (x :: t) = true
  · rw [if_pos hp]
    unfold Lib.cut
    rw [show Lib.index (x :: t) sep = 0 from by rw [Lib.index, if_pos hp]]
    rw [if_pos (by decide)]
    simp
  · rw [if_neg hp]
    rcases Int.lt_or_le (Lib.index t sep) 0 with h | h
    · have h1 : Lib.index t sep = -1 := by omega
      unfold Lib.cut
      rw [show Lib.index (x :: t) sep = -1 from by rw [Lib.index, if_neg hp, h1]; rfl, h1]
      simp
    · unfold Lib.cut
      rw [show Lib.index (x :: t) sep = Lib.index t sep + 1 from by rw [Lib.index, if_neg hp, if_neg (by simp; omega)]]
      obtain ⟨k, hk⟩ : ∃ k : Nat, Lib.index t sep = k := ⟨(Lib.index t sep).toNat, by omega⟩
      rw [hk, if_pos (by omega), if_pos (by omega)]
      simp [show ((k : Int) + 1).toNat = k + 1 from by omega, show k + 1 + sep.length = (k + sep.length) + 1 from by omega]
omit [W0] in
theorem cut_one (c : UInt8) : ∀ s : List UInt8, (Lib.cut s [c]).1 = (cutN c s).1 ∧ (Lib.cut s [c]).2.1 = (cutN c s).2
  | [] => by simp [Lib.cut, Lib.index, cutN]
  | x :: t => by
    obtain ⟨h1, h2⟩ := cut_one c t
    rw [cut_cons]
    unfold cutN
    by_cases h : x = c
    · subst h
      simp
    · rw [if_neg h, if_neg (by simp [List.isPrefixOf, Ne.symm h])]
      exact ⟨by rw [h1], h2⟩
omit [W0] in
theorem cut_two (a b : UInt8) : ∀ s : List UInt8, (Lib.cut s [a, b]).1 = (cutT a b s).1 ∧ (Lib.cut s [a, b]).2.1 = (cutT a b s).2
  | [] => by simp [Lib.cut, Lib.index, cutT]
  | x :: t => by
    obtain ⟨h1, h2⟩ := cut_two a b t
    rw [cut_cons]
    unfold cutT
    by_cases h : x = a ∧ t.head? = some b
    · obtain ⟨rfl, h⟩ := h
      cases t with
      | nil => simp at h
      | cons y t =>
        simp only [List.head?_cons, Option.some.injEq] at h
        subst h
        simp
    · rw [if_neg h, if_neg ?_]
      · exact ⟨by rw [h1], h2⟩
      · intro hh
        cases t with
        | nil => simp [List.isPrefixOf] at hh
        | cons y t =>
          simp only [List.isPrefixOf, Bool.and_eq_true, beq_iff_eq, Bool.and_true] at hh
          exact h ⟨hh.1.symm, by simp [hh.2]⟩
omit [W0] in
theorem cutT_len (a b : UInt8) (s : List UInt8) : (cutT a b s).1.length ≤ s.length ∧ (cutT a b s).2.length ≤ s.length := by
  rcases cutT_spec a b s with h | ⟨x, t, h1, h2⟩
  · rw [h]; simp
  · rw [h2, h1]; simp; omega
omit [W0] in
theorem cutN_len2 (c : UInt8) (s : List UInt8) : (cutN c s).1.length ≤ s.length ∧ (cutN c s).2.length ≤ s.length := by
  rcases cutN_spec c s with ⟨_, h⟩ | ⟨x, t, _, h1, h2⟩
  · rw [h]; simp
  · rw [h2, h1]; simp; omega
theorem person_n (s : List UInt8) (L : List Chunk) (hb : BsAt L) (hs : s.length < 4294967281) : GvP Tryd.prog 16 [.string (str s)].toArray L (.bool (perB s)) := by
  refine Gv.of_body Tryd.func16 rfl rfl ?_
  unfold perB
  simp only
  have l1 := cutT_len 32 60 s
  have l2 := cutT_len 62 32 (cutT 32 60 s).2
  have l3 := cutN_len2 32 (cutT 62 32 (cutT 32 60 s).2).2
  have c1 := cut_n s [32, 60] L hb hs
  rw [(cut_two 32 60 s).1, (cut_two 32 60 s).2] at c1
  have c2 := cut_n (cutT 32 60 s).2 [62, 32] L hb (by omega)
  rw [(cut_two 62 32 _).1, (cut_two 62 32 _).2] at c2
  have c3 := cut_n (cutT 62 32 (cutT 32 60 s).2).2 [32] L hb (by omega)
  rw [(cut_one 32 _).1, (cut_one 32 _).2] at c3
  have k1 := consists_n inP _ inperson_n (cutT 32 60 s).1 L hb (by omega)
  have k2 := consists_n inP _ inperson_n (cutT 62 32 (cutT 32 60 s).2).1 L hb (by omega)
  have k3 := istime_n (cutN 32 (cutT 62 32 (cutT 32 60 s).2).2).1 L hb (by omega)
  have k4 := iszone_n (cutN 32 (cutT 62 32 (cutT 32 60 s).2).2).2 L hb (by omega)
  generalize (Lib.cut s [32, 60]).2.2 = f1 at c1
  generalize (Lib.cut (cutT 32 60 s).2 [62, 32]).2.2 = f2 at c2
  generalize (Lib.cut (cutT 62 32 (cutT 32 60 s).2).2 [32]).2.2 = f3 at c3
  generalize (cutN 32 (cutT 62 32 (cutT 32 60 s).2).2).1 = q at *
  generalize (cutN 32 (cutT 62 32 (cutT 32 60 s).2).2).2 = z at *
  generalize (cutT 62 32 (cutT 32 60 s).2).1 = m at *
  generalize (cutT 62 32 (cutT 32 60 s).2).2 = r2 at *
  generalize (cutT 32 60 s).1 = n at *
  generalize (cutT 32 60 s).2 = r1 at *
  (repeat' first|refine kW ?_|refine kU fun bk=>?_|refine kV fun hc=>?_|refine kZ (fun hc=>?_) fun hc=>?_|fail)
  refine OW_callP rfl rfl rfl c1 rfl ?_
  (repeat' first|refine kW ?_|refine kU fun bk=>?_|refine kV fun hc=>?_|refine kZ (fun hc=>?_) fun hc=>?_|fail)
  refine OW_callP rfl rfl rfl c2 rfl ?_
  (repeat' first|refine kW ?_|refine kU fun bk=>?_|refine kV fun hc=>?_|refine kZ (fun hc=>?_) fun hc=>?_|fail)
  refine OW_callP rfl rfl rfl c3 rfl ?_
  (repeat' first|refine kW ?_|refine kU fun bk=>?_|refine kV fun hc=>?_|refine kZ (fun hc=>?_) fun hc=>?_|fail)
  refine OW_callP rfl rfl rfl k1 rfl ?_
  cases consB inP n with
  | false =>
    (repeat' first|refine kW ?_|refine kU fun bk=>?_|refine kV fun hc=>?_|refine kZ (fun hc=>?_) fun hc=>?_|fail)
    exact kE
  | true =>
    (repeat' first|refine kW ?_|refine kU fun bk=>?_|refine kV fun hc=>?_|refine kZ (fun hc=>?_) fun hc=>?_|fail)
    refine OW_callP rfl rfl rfl k2 rfl ?_
    cases consB inP m with
    | false =>
      (repeat' first|refine kW ?_|refine kU fun bk=>?_|refine kV fun hc=>?_|refine kZ (fun hc=>?_) fun hc=>?_|fail)
      exact kE
    | true =>
      (repeat' first|refine kW ?_|refine kU fun bk=>?_|refine kV fun hc=>?_|refine kZ (fun hc=>?_) fun hc=>?_|fail)
      refine OW_callP rfl rfl rfl k3 rfl ?_
      cases timB q with
      | false =>
        (repeat' first|refine kW ?_|refine kU fun bk=>?_|refine kV fun hc=>?_|refine kZ (fun hc=>?_) fun hc=>?_|fail)
        exact kE
      | true =>
        (repeat' first|refine kW ?_|refine kU fun bk=>?_|refine kV fun hc=>?_|refine kZ (fun hc=>?_) fun hc=>?_|fail)
        refine OW_callP rfl rfl rfl k4 rfl ?_
        cases zonB z with
        | false =>
          (repeat' first|refine kW ?_|refine kU fun bk=>?_|refine kV fun hc=>?_|refine kZ (fun hc=>?_) fun hc=>?_|fail)
          exact kE
        | true =>
          (repeat' first|refine kW ?_|refine kU fun bk=>?_|refine kV fun hc=>?_|refine kZ (fun hc=>?_) fun hc=>?_|fail)
          exact kE
end Go.Proofs.YtlomjmdgcpjepaaDoor
namespace Go.Proofs.YtlomjmdgcpjepaaDoor
open Go Go.Vx Go.Ob Go.Lib
set_option linter.all false
set_option maxRecDepth 4000
theorem idBlob : idL 3 [] = [101, 54, 57, 100, 101, 50, 57, 98, 98, 50, 100, 49, 100, 54, 52, 51, 52, 98, 56, 98, 50, 57, 97, 101, 55, 55, 53, 97, 100, 56, 99, 50, 101, 52, 56, 99, 53, 51, 57, 49] := by kernel_rfl
theorem idTree : idL 2 [] = [52, 98, 56, 50, 53, 100, 99, 54, 52, 50, 99, 98, 54, 101, 98, 57, 97, 48, 54, 48, 101, 53, 52, 98, 102, 56, 100, 54, 57, 50, 56, 56, 102, 98, 101, 101, 52, 57, 48, 52] := by kernel_rfl
theorem perYes : perB [65, 32, 60, 97, 62, 32, 49, 32, 43, 48, 48, 48, 48] = true := by kernel_rfl
theorem perNo : perB [65, 32, 60, 97, 62, 32, 48, 49, 32, 43, 48, 48, 48, 48] = false := by kernel_rfl
theorem hdTag : hdL 4 7 = [116, 97, 103, 32, 55, 0] := by kernel_rfl
variable [W0]
theorem slcNil (L : List Chunk) : SlC L 1 (.slice none 0 0) 0 [] := ⟨.inl ⟨0, rfl, rfl, rfl⟩, _, _, rfl, Nat.le_refl _⟩
set_option maxHeartbeats 1000000 in
theorem awake8_n (L : List Chunk) (hb : BsAt L) : GvP Tryd.prog 18 [].toArray L (.bool true) := by
  refine Gv.of_body Tryd.func18 rfl rfl ?_
  (repeat' first|refine kW ?_|refine kU fun bk=>?_|refine kV fun hc=>?_|refine kZ (fun hc=>?_) fun hc=>?_|fail)
  refine OW_callP rfl rfl rfl (obkind_n sTree L) rfl ?_
  rw [show kdL sTree = 2 from rfl]
  (repeat' first|refine kW ?_|refine kU fun bk=>?_|refine kV fun hc=>?_|refine kZ (fun hc=>?_) fun hc=>?_|fail)
  refine OW_callP rfl rfl rfl (id_n 3 (.slice none 0 0) [] L hb (by decide) (slcNil L)) rfl ?_
  rw [idBlob]
  (repeat' first|refine kW ?_|refine kU fun bk=>?_|refine kV fun hc=>?_|refine kZ (fun hc=>?_) fun hc=>?_|fail)
  all_goals (try exact absurd rfl hc)
  refine OW_callP rfl rfl rfl (id_n 2 (.slice none 0 0) [] L hb (by decide) (slcNil L)) rfl ?_
  rw [idTree]
  (repeat' first|refine kW ?_|refine kU fun bk=>?_|refine kV fun hc=>?_|refine kZ (fun hc=>?_) fun hc=>?_|fail)
  all_goals (try exact absurd rfl hc)
  refine OW_callP rfl rfl rfl (person_n [65, 32, 60, 97, 62, 32, 49, 32, 43, 48, 48, 48, 48] L hb (by decide)) rfl ?_
  rw [perYes]
  (repeat' first|refine kW ?_|refine kU fun bk=>?_|refine kV fun hc=>?_|refine kZ (fun hc=>?_) fun hc=>?_|fail)
  refine OW_callP rfl rfl rfl (person_n [65, 32, 60, 97, 62, 32, 48, 49, 32, 43, 48, 48, 48, 48] L hb (by decide)) rfl ?_
  rw [perNo]
  (repeat' first|refine kW ?_|refine kU fun bk=>?_|refine kV fun hc=>?_|refine kZ (fun hc=>?_) fun hc=>?_|fail)
  refine OW_call rfl rfl rfl (header_n 4 7 L hb (by decide)) rfl (fun r L' hp => ?_)
  obtain ⟨C, ho, rfl⟩ := hp
  rw [hdTag] at ho
  (repeat' first|refine kW ?_|refine kU fun bk=>?_|refine kV fun hc=>?_|refine kZ (fun hc=>?_) fun hc=>?_|fail)
  refine OW_EV (EV_convStr (b := [116, 97, 103, 32, 55, 0]) rfl ho.sl) rfl ?_
  (repeat' first|refine kW ?_|refine kU fun bk=>?_|refine kV fun hc=>?_|refine kZ (fun hc=>?_) fun hc=>?_|fail)
  refine kR ?_
  exact ⟨L, iC, by rw [decide_eq_true rfl]; rfl, rfl⟩
end Go.Proofs.YtlomjmdgcpjepaaDoor
namespace Go.Proofs.YtlomjmdgcpjepaaDoor
open Go Go.Vx Go.Ob Go.Lib
set_option linter.all false
set_option maxRecDepth 4000
theorem bl_irr : ∀ a : List UInt8, Op.bytesLess a a = false
  | [] => by simp [Op.bytesLess]
  | x :: t => by
    have := bl_irr t
    simp [Op.bytesLess, this, UInt8.lt_irrefl]
theorem bl_cons (x y : UInt8) (a b : List UInt8) : Op.bytesLess (x :: a) (y :: b) = true ↔ x < y ∨ (x = y ∧ Op.bytesLess a b = true) := by
  have : Op.bytesLess (x :: a) (y :: b) = (decide (x < y) || (x == y && Op.bytesLess a b)) := by simp only [Op.bytesLess]
  rw [this]
  simp
theorem bl_trans : ∀ a b c : List UInt8, Op.bytesLess a b = true → Op.bytesLess b c = true → Op.bytesLess a c = true
  | [], b, [], _, h => by cases b <;> simp [Op.bytesLess] at h
  | [], b, z :: c, _, _ => by simp [Op.bytesLess]
  | x :: a, [], c, h, _ => by simp [Op.bytesLess] at h
  | x :: a, y :: b, [], _, h => by simp [Op.bytesLess] at h
  | x :: a, y :: b, z :: c, h1, h2 => by
    rw [bl_cons] at h1 h2 ⊢
    rcases h1 with h1 | ⟨rfl, h1⟩
    · rcases h2 with h2 | ⟨rfl, h2⟩
      · exact .inl (UInt8.lt_trans h1 h2)
      · exact .inl h1
    · rcases h2 with h2 | ⟨rfl, h2⟩
      · exact .inl h2
      · exact .inr ⟨rfl, bl_trans a b c h1 h2⟩
theorem les_irr (x : Et) : lesE x x = false := bl_irr _
theorem les_trans {x y z : Et} (h1 : lesE x y = true) (h2 : lesE y z = true) : lesE x z = true := bl_trans _ _ _ h1 h2
theorem les_anti {x y : Et} (h1 : lesE x y = true) : lesE y x = false := by
  rw [← Bool.not_eq_true]
  intro h2
  have := les_trans h1 h2
  rw [les_irr] at this
  exact absurd this (by decide)
variable [W0]
set_option maxHeartbeats 1000000 in
theorem objectorder_n (x y z : Et) (L : List Chunk) (hb : BsAt L) (hx : x.n.length ≤ 1000000000000000) (hy : y.n.length ≤ 1000000000000000) (hz : z.n.length ≤ 1000000000000000) :
    GvP Tryd.prog 5 [etV x, etV y, etV z].toArray L (.bool true) := by
  refine Gv.of_body (args := [etV x, etV y, etV z]) Tryd.func5 rfl rfl ?_
  have lxy := fun L => less_n x y L hx hy
  have lyx := fun L => less_n y x L hy hx
  have lxx := fun L => less_n x x L hx hx
  have lyz := fun L => less_n y z L hy hz
  have lxz := fun L => less_n x z L hx hz
  have rxy := fun L => refless_n x y L hx hy
  rw [les_irr] at lxx
  have ha := @les_anti x y
  have ht := @les_trans x y z
  generalize lesE x y = b1 at *
  generalize lesE y x = b2 at *
  generalize lesE y z = b3 at *
  generalize lesE x z = b4 at *
  unfold etV at *
  cases b1 with
  | false =>
    (repeat' first|refine kW ?_|refine kU fun bk=>?_|refine kV fun hc=>?_|refine kZ (fun hc=>?_) fun hc=>?_|fail)
    refine WC_drawAll [] mixed ?_
    (refine WR_t 0 ?_; refine WR_t 1 ?_; refine WR_t 3 ?_; refine WR_t 4 ?_)
    (refine WR_one 2 (by kernel_rfl) rfl rfl ?_)
    refine OW_callP rfl rfl rfl (lxy _) rfl ?_
    refine ⟨iC, ?_⟩
    (refine WR_one 5 (by kernel_rfl) rfl rfl ?_)
    refine OW_callP rfl rfl rfl (rxy _) rfl ?_
    refine ⟨iC, ?_⟩
    (refine WR_t 6 ?_; refine WR_t 7 ?_)
    (refine WR_u 8 ?_; refine WR_u 9 ?_)
    (refine WR_oneOn 10 (by kernel_rfl) rfl rfl rfl ?_)
    refine OW_callP rfl rfl rfl (lxx _) rfl ?_
    refine ⟨iC, ?_⟩
    (refine WR_t 11 ?_; refine WR_t 12 ?_)
    (refine WR_u 13 ?_; refine WR_u 14 ?_)
    (refine WR_oneOn 15 (by kernel_rfl) rfl rfl rfl ?_)
    refine OW_callP rfl rfl rfl (lxy _) rfl ?_
    refine ⟨iC, ?_⟩
    (refine WR_u 16 ?_)
    (refine WR_v 17 ?_; refine WR_v 18 ?_; refine WR_v 19 ?_)
    (refine WR_u 20 ?_)
    (refine WR_t 21 ?_)
    (refine WR_done (by kernel_rfl) ?_)
    (repeat' first|refine kW ?_|refine kU fun bk=>?_|refine kV fun hc=>?_|refine kZ (fun hc=>?_) fun hc=>?_|fail)
    refine OW_callP rfl rfl rfl (lxy _) rfl ?_
    (repeat' first|refine kW ?_|refine kU fun bk=>?_|refine kV fun hc=>?_|refine kZ (fun hc=>?_) fun hc=>?_|fail)
    refine OW_callP rfl rfl rfl (awake8_n _ hb.there.there.there) rfl ?_
    (repeat' first|refine kW ?_|refine kU fun bk=>?_|refine kV fun hc=>?_|refine kZ (fun hc=>?_) fun hc=>?_|fail)
    exact kE
  | true =>
    rw [ha rfl] at lyx
    (repeat' first|refine kW ?_|refine kU fun bk=>?_|refine kV fun hc=>?_|refine kZ (fun hc=>?_) fun hc=>?_|fail)
    refine WC_drawAll [] mixed ?_
    (refine WR_t 0 ?_; refine WR_t 1 ?_; refine WR_t 3 ?_; refine WR_t 4 ?_)
    (refine WR_one 2 (by kernel_rfl) rfl rfl ?_)
    refine OW_callP rfl rfl rfl (lxy _) rfl ?_
    refine ⟨iC, ?_⟩
    (refine WR_one 5 (by kernel_rfl) rfl rfl ?_)
    refine OW_callP rfl rfl rfl (rxy _) rfl ?_
    refine ⟨iC, ?_⟩
    (refine WR_t 6 ?_; refine WR_t 7 ?_)
    (refine WR_u 8 ?_; refine WR_u 9 ?_)
    (refine WR_oneOn 10 (by kernel_rfl) rfl rfl rfl ?_)
    refine OW_callP rfl rfl rfl (lxx _) rfl ?_
    refine ⟨iC, ?_⟩
    (refine WR_t 11 ?_; refine WR_t 12 ?_)
    (refine WR_u 13 ?_; refine WR_u 14 ?_)
    (refine WR_oneOn 15 (by kernel_rfl) rfl rfl rfl ?_)
    refine OW_callP rfl rfl rfl (lxy _) rfl ?_
    refine ⟨iC, ?_⟩
    (refine WR_u 16 ?_; refine WR_u 17 ?_; refine WR_u 18 ?_)
    (refine WR_oneOn 19 (by kernel_rfl) rfl rfl rfl ?_)
    refine OW_callP rfl rfl rfl (lyx _) rfl ?_
    refine ⟨iC, ?_⟩
    (refine WR_u 20 ?_)
    (refine WR_t 21 ?_)
    (refine WR_done (by kernel_rfl) ?_)
    (repeat' first|refine kW ?_|refine kU fun bk=>?_|refine kV fun hc=>?_|refine kZ (fun hc=>?_) fun hc=>?_|fail)
    refine OW_callP rfl rfl rfl (lxy _) rfl ?_
    (repeat' first|refine kW ?_|refine kU fun bk=>?_|refine kV fun hc=>?_|refine kZ (fun hc=>?_) fun hc=>?_|fail)
    refine OW_callP rfl rfl rfl (lyz _) rfl ?_
    cases b3 with
    | false =>
      (repeat' first|refine kW ?_|refine kU fun bk=>?_|refine kV fun hc=>?_|refine kZ (fun hc=>?_) fun hc=>?_|fail)
      refine OW_callP rfl rfl rfl (awake8_n _ hb.there.there.there) rfl ?_
      (repeat' first|refine kW ?_|refine kU fun bk=>?_|refine kV fun hc=>?_|refine kZ (fun hc=>?_) fun hc=>?_|fail)
      exact kE
    | true =>
      rw [ht rfl rfl] at lxz
      (repeat' first|refine kW ?_|refine kU fun bk=>?_|refine kV fun hc=>?_|refine kZ (fun hc=>?_) fun hc=>?_|fail)
      refine OW_callP rfl rfl rfl (lxz _) rfl ?_
      (repeat' first|refine kW ?_|refine kU fun bk=>?_|refine kV fun hc=>?_|refine kZ (fun hc=>?_) fun hc=>?_|fail)
      refine OW_callP rfl rfl rfl (awake8_n _ hb.there.there.there) rfl ?_
      (repeat' first|refine kW ?_|refine kU fun bk=>?_|refine kV fun hc=>?_|refine kZ (fun hc=>?_) fun hc=>?_|fail)
      exact kE
end Go.Proofs.YtlomjmdgcpjepaaDoor
namespace Go.Proofs.YtlomjmdgcpjepaaDoor
open Go Go.Vx Go.ChangeShapes Go.WideShapes Go.ChangeAt Go.RowKit Go.Lib
set_option maxRecDepth 100000
set_option linter.all false
def laid8 : List (String × DataW Unit) := [("math/bits.deBruijn32tab", Rows.laid_math_bits_deBruijn32tab), ("math/bits.deBruijn64tab", Rows.laid_math_bits_deBruijn64tab), ("internal/strconv.uint64pow10", Rows.laid_internal_strconv_uint64pow10), ("unicode/utf8.acceptRanges", Rows.laid_unicode_utf8_acceptRanges), ("unicode/utf8.first", Rows.laid_unicode_utf8_first)]
def nums (k : IntKind) : List (DataW Unit) → List Value
  | [] => []
  | .lit (.int _ z) :: r => .int k z :: nums k r
  | .agg [.lit (.int _ z), .lit (.int _ y)] :: r => .int k z :: .int k y :: nums k r
  | _ :: r => nums k r
def parts : DataW Unit → List (DataW Unit)
  | .agg l => l
  | _ => []
def tab32 : List Value := nums .u8 (parts Rows.laid_math_bits_deBruijn32tab)
def tab64 : List Value := nums .u8 (parts Rows.laid_math_bits_deBruijn64tab)
def tab10 : List Value := nums .u64 (parts Rows.laid_internal_strconv_uint64pow10)
def tabAc : List Value := nums .u8 (parts Rows.laid_unicode_utf8_acceptRanges)
def tabFi : List Value := nums .u8 (parts Rows.laid_unicode_utf8_first)
theorem first_eq : Rows.laid_unicode_utf8_first = firstData := by kernel_rfl
theorem accept_eq : Rows.laid_unicode_utf8_acceptRanges (H := Unit) = acceptData := by kernel_rfl
theorem pow_eq : Rows.laid_internal_strconv_uint64pow10 (H := Unit) = tabData .u64 pow10Tab := by kernel_rfl
theorem met_plain {W : World} (h : laidMetH Tryd.prog laid8 W) : laidMet Tryd.prog laid8 W := by
  have e : laid8.filter (fun x => x.2.handleName?.isSome) = [] := by kernel_rfl
  unfold laidMetH at h
  rw [e] at h
  exact h
theorem u8extra : U8Extra Tryd.prog sh_v_ren := ⟨by kernel_rfl, by kernel_rfl, by kernel_rfl, by kernel_rfl, by kernel_rfl, by kernel_rfl, by kernel_rfl⟩
theorem bs_met {W : World} (hL : laidMetH Tryd.prog laid8 W) (hsh : W.ShapedOpen Tryd.prog) [W0] : BsAt [blks W] := by
  obtain ⟨ps, hv, _⟩ := met_plain hL
  have r3 := LaidVars_reads hv "unicode/utf8.first" Rows.laid_unicode_utf8_first (by simp [laid8])
  have r4 := LaidVars_reads hv "unicode/utf8.acceptRanges" Rows.laid_unicode_utf8_acceptRanges (by simp [laid8])
  have r5 := LaidVars_reads hv "internal/strconv.uint64pow10" Rows.laid_internal_strconv_uint64pow10 (by simp [laid8])
  rw [first_eq] at r3
  rw [accept_eq] at r4
  rw [pow_eq] at r5
  have hut := utf8Tabs_of_readsT (U8Types.of196 sh_v) u8extra r3 r4
  have hmx : ∃ m, W.cell? ⟨2, 0, none⟩ = some (.int .i64 m) :=
    cell_of_shapedOpen_int (t := 3) (zero := #[.int .i64 0]) hsh (of_decide_eq_true (by kernel_rfl)) (by kernel_rfl) (by kernel_rfl) (by kernel_rfl) (by kernel_rfl) Tryd.underlying3
  have hpw : TabIs Tryd.prog W "internal/strconv.uint64pow10" .u64 pow10Tab := by
    obtain ⟨g', t', cs, fuel, p, hg', ht', hvar, hd⟩ := r5
    obtain rfl := Option.some.inj ((show Tryd.prog.globalNamed "internal/strconv.uint64pow10" = some 3 by kernel_rfl).symm.trans hg')
    obtain rfl := Option.some.inj ((show (Tryd.prog.globals[3]?).map (·.type) = some 110 by kernel_rfl).symm.trans ht')
    unfold TabIs
    rw [hvar, ← cells_of_tab Tryd.underlying110 Tryd.underlying74 (by kernel_rfl) (by kernel_rfl) hd]
  have hkeep : ∀ w, Vx.Holds w [blks W] → ∀ k, k < W.heap.size → w.heap[k]? = W.heap[k]? := fun w hw k hk => by
    have hm : W.heap[k]? = some W.heap[k] := by simp [hk]
    rw [hm]
    exact hw.2.1 (k, W.heap[k]) (by simpa using blks_mem.2 hm)
  have hlt : ∀ {a : Addr} {v : Value}, W.cell? a = some v → a.block < W.heap.size := fun {a} {v} h => by
    rcases Nat.lt_or_ge a.block W.heap.size with h' | h'
    · exact h'
    · have : W.heap[a.block]? = none := by simp; omega
      simp [World.cell?, this] at h
  have hcell : ∀ w, Vx.Holds w [blks W] → ∀ {a : Addr} {v : Value}, W.cell? a = some v → w.cell? a = some v := fun w hw {a} {v} h => by
    have hb := hkeep w hw a.block (hlt h)
    rw [← h]
    unfold World.cell?
    rw [hb]
  refine ⟨fun w hw => ⟨fun c hc => hcell w hw (hut.1 c hc), fun i hi => ⟨hcell w hw (hut.2 i hi).1, hcell w hw (hut.2 i hi).2⟩⟩, hmx.imp fun m hm w hw => hcell w hw hm, fun w hw => ?_⟩
  have h0 := hpw.cell (g := 3) (by kernel_rfl) 0 (by decide)
  have hb := hkeep w hw _ (hlt h0)
  unfold TabIs World.var? at hpw ⊢
  rw [show Tryd.prog.globalNamed "internal/strconv.uint64pow10" = some 3 from by kernel_rfl] at hpw ⊢
  simp only [Option.bind_some] at hpw ⊢
  rw [hb]
  exact hpw
end Go.Proofs.YtlomjmdgcpjepaaDoor
namespace Go.Proofs.YtlomjmdgcpjepaaDoor
open Go Go.Vx Go.Ob Go.ChangeShapes Go.WideShapes Go.ChangeAt Go.RowKit Go.Lib Go.Joins
set_option maxRecDepth 4000
set_option linter.all false
theorem open_et {H : Type} {enc : TypeId × Value → H} {W : World} {base : Nat} {v : Value} {d : DataW H} {p : List MemPlace} (hv : Value.okWide Tryd.prog W .any base 45 v)
    (h : DataW.Trod enc Tryd.prog W 0 (fun _ => true) true 45 v d p) :
    ∃ x : Et, v = etV x ∧ d = .agg [.lit (.string x.m), .lit (.string x.n), .lit (.string x.i)] := by
  obtain ⟨v0, v1, v2, y0, y1, y2, n, rfl, rfl, rfl, h0, h1, h2⟩ := open_agg3 Tryd.underlying45 (by kernel_rfl) (by kernel_rfl) hv h
  obtain ⟨s0, e0, q0, w0⟩ := DataW.trod_string Tryd.underlying9 h0
  obtain ⟨s1, e1, q1, w1⟩ := DataW.trod_string Tryd.underlying9 h1
  obtain ⟨s2, e2, q2, w2⟩ := DataW.trod_string Tryd.underlying9 h2
  simp only [List.cons.injEq, and_true] at e0 e1 e2
  subst e0 e1 e2 q0 q1 q2
  exact ⟨⟨s0.data.toList, s1.data.toList, s2.data.toList⟩, rfl, rfl⟩
theorem et_len {H : Type} {ts : List TypeId} {ds : List (DataW H)} (h : (DataW.weightsEach Tryd.prog ts ds).all (· ≤ reachBytes) = true) {j : Nat} {x : Et} (ht : ts[j]? = some 45) (hd : ds[j]? = some (.agg [.lit (.string x.m), .lit (.string x.n), .lit (.string x.i)])) :
    x.m.length ≤ 1000000000000000 ∧ x.n.length ≤ 1000000000000000 ∧ x.i.length ≤ 1000000000000000 := by
  have hu := Tryd.underlying45
  have key : ∀ n ∈ [x.m.length, x.n.length, x.i.length], n ≤ 1000000000000000 := fun n hn => by
    have hin : n ∈ DataW.weights Tryd.prog 45 (.agg [.lit (.string x.m), .lit (.string x.n), .lit (.string x.i)] : DataW H) := by
      unfold DataW.weights
      rw [hu]
      simpa [DataW.weightsEach, DataW.weights] using hn
    have := List.all_eq_true.1 h n (DataW.weights_mem_each ht hd n hin)
    have h2 : n ≤ reachBytes := by simpa using this
    have h3 : reachBytes = 140737488351232 := rfl
    omega
  exact ⟨key _ (by simp), key _ (by simp), key _ (by simp)⟩
end Go.Proofs.YtlomjmdgcpjepaaDoor
namespace Go.Proofs.YtlomjmdgcpjepaaDoor
open Go Go.Vx Go.ChangeShapes Go.WideShapes Go.ChangeAt Go.RowKit
set_option linter.all false
set_option maxRecDepth 4000
theorem top_row (H : Type) (enc : TypeId × Value → H) (W : World) (base : Nat) (args : Array Value) (ds gs : List (DataW H)) (before : List MemPlace)
    (hval : ∀ (j : Nat) t v, Tryd.f5.params[j]? = some t → args[j]? = some v → Value.okWide Tryd.prog W .any base t v)
    (hW : DataW.Whole enc Tryd.prog Tryd.f5.params.toList Rows.objectOrderSpec.vars false W args.toList ds gs before)
    (hz : (DataW.weightsEach Tryd.prog (Tryd.f5.params.toList ++ Rows.objectOrderSpec.plain.varTypes Tryd.prog) (ds ++ gs)).all (· ≤ reachBytes) = true) (hL : laidMetH Tryd.prog laid8 W) (hsh : W.ShapedOpen Tryd.prog) :
    Calls Tryd.prog 5 args W fun e W' => ∃ v, e = .returned v ∧ Rows.objectOrderSpec.post enc Tryd.prog Tryd.f5 false true false false W args v W' := by
  have hW' := hW
  obtain ⟨p, q, hA0, hV, rfl, hfz, hnd⟩ := hW
  have hA : DataW.TrodAll enc Tryd.prog W 0 (fun _ => true) true Tryd.f5.params.toList args.toList ds p := hA0
  rw [Tryd.params5] at hA hval hz
  obtain ⟨v0, vs0, d0, ds0, p0, q0, hargs, rfl, rfl, h0, r0⟩ := trodAll_cons hA
  obtain ⟨v1, vs1, d1, ds1, p1, q1, rfl, rfl, rfl, h1, r1⟩ := trodAll_cons r0
  obtain ⟨v2, vs2, d2, ds2, p2, q2, rfl, rfl, rfl, h2, r2⟩ := trodAll_cons r1
  obtain ⟨rfl, rfl, rfl⟩ := trodAll_nil r2
  obtain rfl : args = #[v0, v1, v2] := by cases args; simp_all
  obtain ⟨rfl, rfl⟩ := trodVars_none hV
  have hu0 := h0
  obtain ⟨x0, rfl, rfl⟩ := open_et (hval 0 _ v0 rfl rfl) h0
  obtain ⟨rm0, rn0, ri0⟩ := et_len hz (j := 0) (x := x0) rfl rfl
  have hu1 := h1
  obtain ⟨x1, rfl, rfl⟩ := open_et (hval 1 _ v1 rfl rfl) h1
  obtain ⟨rm1, rn1, ri1⟩ := et_len hz (j := 1) (x := x1) rfl rfl
  have hu2 := h2
  obtain ⟨x2, rfl, rfl⟩ := open_et (hval 2 _ v2 rfl rfl) h2
  obtain ⟨rm2, rn2, ri2⟩ := et_len hz (j := 2) (x := x2) rfl rfl
  clear hA0
  have lt0 : ∀ x ∈ p0, x.block < W.heap.size := by obtain ⟨m, hm⟩ := h0; exact DataW.trod_lt m _ _ _ hm
  have lt1 : ∀ x ∈ p1, x.block < W.heap.size := by obtain ⟨m, hm⟩ := h1; exact DataW.trod_lt m _ _ _ hm
  have lt2 : ∀ x ∈ p2, x.block < W.heap.size := by obtain ⟨m, hm⟩ := h2; exact DataW.trod_lt m _ _ _ hm
  have hc : Calls Tryd.prog 5 #[etV x0, etV x1, etV x2] W fun e W' => e = .returned (.bool true) ∧ Kept W W' := by
    refine bridge (fun {i} => ?_)
    have ht := bs_met hL hsh
    exact objectorder_n x0 x1 x2 _ ht rn0 rn1 rn2
  refine hc.mono fun e W' ⟨he, bel⟩ => ?_
  subst he
  exact ⟨_, rfl, _, _, _, [], _, [], hW', trodAll_mk1 (shut_bool Tryd.underlying4 _), (trodAll_cons_mk (Kept.trod Tryd.laidOut (by kernel_rfl) (of_decide_eq_true (by kernel_rfl)) h0 bel lt0) (trodAll_cons_mk (Kept.trod Tryd.laidOut (by kernel_rfl) (of_decide_eq_true (by kernel_rfl)) h1 bel lt1) (trodAll_cons_mk (Kept.trod Tryd.laidOut (by kernel_rfl) (of_decide_eq_true (by kernel_rfl)) h2 bel lt2) trodAll_mk0))), rfl, bel.frame _, fun h => by cases h⟩
def putT (w : World) (g : Nat) (zs : List Value) : World := { w with heap := w.heap.modify g fun
      | .cells _ t frozen => .cells zs.toArray t frozen
      | o => o }
noncomputable def laidWorld (os : Os) : World :=
  putT (putT (putT (putT (putT (World.holding Tryd.prog os ⟨#[], #[], []⟩) 4 tab32) 5 tab64) 3 tab10) 1 tabAc) 0 tabFi
theorem laid_met (os : Os) : laidMet Tryd.prog Rows.objectOrderRow.laid ((laidWorld os).forCall (fun _ _ => 0) ⟨#[], #[.agg #[.string .empty, .string .empty, .string .empty], .agg #[.string .empty, .string .empty, .string .empty], .agg #[.string .empty, .string .empty, .string .empty]], []⟩).memory :=
  laidMet_of_run' 8 (by kernel_rfl) (by kernel_rfl)
theorem reads (os : Os) {H : Type} (enc : TypeId × Value → H) : ∃ places, DataW.whole enc Tryd.prog ((laidWorld os).forCall (fun _ _ => 0) ⟨#[], #[.agg #[.string .empty, .string .empty, .string .empty], .agg #[.string .empty, .string .empty, .string .empty], .agg #[.string .empty, .string .empty, .string .empty]], []⟩).memory Tryd.f5.params.toList Rows.objectOrderSpec.vars false #[.agg #[.string .empty, .string .empty, .string .empty], .agg #[.string .empty, .string .empty, .string .empty], .agg #[.string .empty, .string .empty, .string .empty]].toList 8 = some ([.agg [.lit (.string []), .lit (.string []), .lit (.string [])], .agg [.lit (.string []), .lit (.string []), .lit (.string [])], .agg [.lit (.string []), .lit (.string []), .lit (.string [])]], [], places) :=
  ⟨[], by kernel_rfl⟩
set_option maxRecDepth 100000 in
theorem top_lifted (os : Os) (started : os.Started) (H : Type) (enc : TypeId × Value → H) (F : Stop.Interp) :
    ReturnsInHanded {} Tryd.checked os 5 .any ((OpenSpec.ofChange Rows.objectOrderSpec).preRow enc Tryd.prog Tryd.f5 Rows.objectOrderRow.domain false Rows.objectOrderRow.laid) (((OpenSpec.ofChange Rows.objectOrderSpec).at F).post enc Tryd.prog Tryd.f5 false true false false) := by
  obtain ⟨places, hx⟩ := reads os enc
  refine returnsInHanded_of_row (C := Tryd.checked) (s := (OpenSpec.ofChange Rows.objectOrderSpec)) Tryd.own started (by kernel_rfl) Tryd.func5
    (witness_row_at (enc := enc) (C := Tryd.checked) false (laidWorld os) #[.agg #[.string .empty, .string .empty, .string .empty], .agg #[.string .empty, .string .empty, .string .empty], .agg #[.string .empty, .string .empty, .string .empty]] rfl (by kernel_rfl) (by kernel_rfl) (by kernel_rfl)
      (OpenSpec.preRow_of_cond 8 hx (by kernel_rfl) (fun k hk => by cases hk) (by kernel_rfl) (laid_met os))) ?_
  intro W base args ds gs before hval hW _ hcond hz hL hsh _
  exact top_row H enc W base args ds gs before hval hW hz hL hsh
theorem top_over : Rows.ObjectOrderSaid :=
  OpenClaim.holds_of_cond 5 Tryd.f5 rfl rfl rfl rfl rfl rfl rfl ⟨rfl, rfl, rfl, rfl, rfl⟩ rfl rfl rfl rfl rfl (by kernel_rfl) Tryd.func5 (by kernel_rfl)
    (of_decide_eq_true (by kernel_rfl)) (by unfold Func.isWrapper; first | (rw [if_pos (by decide +kernel)]; kernel_rfl) | (rw [if_neg (by decide +kernel)]; exact ⟨rfl, rfl⟩))
    (fun os started H enc _ F => by rw [OpenClaim.pre_eq_preRow]; exact top_lifted os started H enc F)
theorem top_plain (f : FuncId) (fn : Func) (hf : Tryd.pinned.checked.prog.funcNamed "stemma/stemmalaw8.ObjectOrder" = some f) (hfn : Tryd.pinned.checked.prog.funcs[f]? = some fn) :
    false = Tryd.pinned.checked.prog.looks [] ∧ ∀ (j : Nat) t, fn.params[j]? = some t → Tryd.pinned.checked.prog.wantsStandIn t = false := by
  obtain rfl : f = 5 := Option.some.inj ((show Tryd.prog.funcNamed "stemma/stemmalaw8.ObjectOrder" = some 5 by kernel_rfl).symm.trans hf) |>.symm
  obtain rfl : fn = Tryd.f5 := (Option.some.inj (Tryd.func5.symm.trans hfn)).symm
  have all : (Tryd.f5.params.toList.all fun t => !Tryd.prog.wantsStandIn t) = true := by kernel_rfl
  refine ⟨by kernel_rfl, fun j t ht => ?_⟩
  have hm : t ∈ Tryd.f5.params.toList := by
    have := Array.mem_of_getElem? ht
    simpa using this
  have := List.all_eq_true.1 all t hm
  show Tryd.prog.wantsStandIn t = false
  simpa using this
theorem top_holds : Rows.ObjectOrderCardSaid :=
  Claim7.holds_tied_plain_at .later [] _ _ _ _ top_over (fun _ h => by cases h) (by kernel_rfl) (fun _ h => by cases h) objectOrder_row_tie rfl ⟨rfl, rfl⟩ (by kernel_rfl) rfl top_plain (by kernel_rfl)
end Go.Proofs.YtlomjmdgcpjepaaDoor
