/- Contracts and facts on the way to the top. It proves no statement by itself. No conditions. -/
import Derived.WalkKit
import Derived.KernelRfl
import Derived.StillTail
import Derived.OrdersHeld
import Derived.Lib.Bytealg
import Derived.Lib.Overlaps
import Derived.Lib.UnsafeStr
import Derived.Laws.BytesArg
import Derived.RangeFuncRecord
import Derived.OrdersIn
import Derived.Lib.ValidLaws
import Derived.ProofKit
import Derived.OpenShut
import Derived.JoinedCond
import Derived.Below
import Derived.Laws.IdiomStrings
import Derived.ArgAppend
import Derived.Deep.Upon
import Derived.Lib.AppendStr
import Derived.WideKeyArr
import Derived.Shelf.Unicode.ValidAny
import Derived.Lib.Builder
import Derived.Lib.MakeNoZero
import Derived.Laws.IdiomCopy
import Derived.Laws.StructEq
import Derived.ChangeKeysEq
import Derived.Deep.DeepHandedRow
import Derived.Lib.LaidTab
import Derived.SizedLaws
import Derived.Lib.LaidU8T
import Derived.Shelf.Vars
import Derived.Test.YtehpnblbkldojaaDoorRows
import Derived.Test.YtehpnblbkldojaaDoorProg
import Derived.Test.YtehpnblbkldojaaDoorCards
import Derived.Test.YtehpnblbkldojaaDoorTie
namespace Go.Nm
end Go.Nm
namespace Go.Ob
end Go.Ob
namespace Go.Vx
end Go.Vx
namespace Go.Vx
open Go
set_option linter.all false
abbrev Chunk := List (Nat × Obj)
class W0 where
  os : Os
  output : Array (Nat × ByteArray)
variable [W0]
def Holds (w : World) (L : List Chunk) : Prop :=
  (L.flatten.map Prod.fst).Nodup ∧ (∀ x ∈ L.flatten, w.heap[x.1]? = some x.2) ∧ w.os = W0.os ∧ w.output = W0.output
omit [W0] in
/-- A block of cells that may be written. -/
def cl (l : List Value) (T : TypeId) : Obj := .cells l.toArray T (0, 0)
theorem Holds.lt {w : World} {L : List Chunk} (h : Holds w L) {x : Nat × Obj} (hx : x ∈ L.flatten) : x.1 < w.heap.size := by
  have := h.2.1 x hx
  rcases Nat.lt_or_ge x.1 w.heap.size with h' | h'
  · exact h'
  · simp [Array.getElem?_eq_none h'] at this
theorem Holds.same {w w' : World} {L : List Chunk} (h : Holds w L) (hh : w'.heap = w.heap) (ho : w'.os = w.os) (hq : w'.output = w.output) : Holds w' L :=
  ⟨h.1, fun x hx => by rw [hh]; exact h.2.1 x hx, ho.trans h.2.2.1, hq.trans h.2.2.2⟩
theorem Holds.perm {w : World} {L L' : List Chunk} (h : Holds w L) (hp : L.Perm L') : Holds w L' := by
  have hf : L.flatten.Perm L'.flatten := hp.flatten
  exact ⟨(hf.map Prod.fst).nodup_iff.1 h.1, fun x hx => h.2.1 x (hf.mem_iff.2 hx), h.2.2⟩
theorem Holds.alloc {w : World} {L : List Chunk} (h : Holds w L) (o : Obj) : Holds (w.alloc o) ([(w.heap.size, o)] :: L) := by
  refine ⟨?_, ?_, h.2.2⟩
  · simp only [List.flatten_cons, List.map_cons, List.singleton_append, List.nodup_cons]
    refine ⟨?_, h.1⟩
    intro hm
    obtain ⟨x, hx, he⟩ := List.mem_map.1 hm
    have := h.lt hx
    omega
  · intro x hx
    simp only [List.flatten_cons, List.mem_append, List.mem_singleton] at hx
    rcases hx with rfl | hx
    · show (w.heap.push o)[w.heap.size]? = some o
      simp
    · have := h.lt hx
      show (w.heap.push o)[x.1]? = some x.2
      rw [Array.getElem?_push, if_neg (by omega)]
      exact h.2.1 x hx
omit [W0] in
/-- Some chunk holds the block. -/
def Fnd (L : List Chunk) (b : Nat) (o : Obj) : Prop := (b, o) ∈ L.flatten
theorem Fnd.here {L : List Chunk} {b : Nat} {o : Obj} : Fnd ([(b, o)] :: L) b o := by simp [Fnd]
theorem Fnd.there {L : List Chunk} {C : Chunk} {b : Nat} {o : Obj} (h : Fnd L b o) : Fnd (C :: L) b o := by
  simp only [Fnd, List.flatten_cons, List.mem_append] at *; exact .inr h
theorem Fnd.mem {L : List Chunk} {C : Chunk} {b : Nat} {o : Obj} (h : (b, o) ∈ C) : Fnd (C :: L) b o := by
  simp only [Fnd, List.flatten_cons, List.mem_append]; exact .inl h
theorem Fnd.get {w : World} {L : List Chunk} {b : Nat} {o : Obj} (h : Fnd L b o) (hH : Holds w L) : w.heap[b]? = some o := hH.2.1 _ h
omit [W0] in
/-- A chunk of one block is turned. -/
inductive Upd : List Chunk → Nat → Obj → Obj → List Chunk → Prop
  | here {L b o o'} : Upd ([(b, o)] :: L) b o o' ([(b, o')] :: L)
  | there {C L L' b o o'} : Upd L b o o' L' → Upd (C :: L) b o o' (C :: L')
theorem Upd.fnd {L L' : List Chunk} {b : Nat} {o o' : Obj} (h : Upd L b o o' L') : Fnd L b o := by
  induction h with
  | here => exact .here
  | there _ ih => exact .there ih
theorem Upd.keys {L L' : List Chunk} {b : Nat} {o o' : Obj} (h : Upd L b o o' L') : L'.flatten.map Prod.fst = L.flatten.map Prod.fst := by
  induction h with
  | here => simp
  | there _ ih => simp [ih]
theorem Upd.mem {L L' : List Chunk} {b : Nat} {o o' : Obj} (h : Upd L b o o' L') (hn : (L.flatten.map Prod.fst).Nodup) :
    ∀ x ∈ L'.flatten, x = (b, o') ∨ (x.1 ≠ b ∧ x ∈ L.flatten) := by
  induction h with
  | @here L b o o' =>
    intro x hx
    simp only [List.flatten_cons, List.singleton_append, List.mem_cons, List.map_cons, List.nodup_cons] at *
    rcases hx with rfl | hx
    · exact .inl rfl
    · refine .inr ⟨fun he => hn.1 ?_, .inr hx⟩
      rw [← he]; exact List.mem_map_of_mem hx
  | @there C L L' b o o' hu ih =>
    intro x hx
    simp only [List.flatten_cons, List.mem_append, List.map_append] at *
    rw [List.nodup_append] at hn
    rcases hx with hx | hx
    · refine .inr ⟨fun he => ?_, .inl hx⟩
      have := hu.fnd
      exact hn.2.2 x.1 (List.mem_map_of_mem hx) b (List.mem_map_of_mem (f := Prod.fst) this) he
    · rcases ih hn.2.1 x hx with h | h
      · exact .inl h
      · exact .inr ⟨h.1, .inr h.2⟩
theorem Holds.upd {w w' : World} {L L' : List Chunk} {b : Nat} {o o' : Obj} (h : Holds w L) (hu : Upd L b o o' L')
    (hb : w'.heap[b]? = some o') (ho : ∀ c, c ≠ b → w'.heap[c]? = w.heap[c]?) (hos : w'.os = w.os) (hq : w'.output = w.output) : Holds w' L' := by
  refine ⟨by rw [hu.keys]; exact h.1, fun x hx => ?_, hos.trans h.2.2.1, hq.trans h.2.2.2⟩
  rcases hu.mem h.1 x hx with rfl | ⟨hne, hm⟩
  · exact hb
  · rw [ho _ hne]; exact h.2.1 x hm
omit [W0] in
/-- A chunk is taken out. -/
inductive Take : Chunk → List Chunk → List Chunk → Prop
  | here {C L} : Take C (C :: L) L
  | there {C D L L'} : Take C L L' → Take C (D :: L) (D :: L')
theorem Take.perm {C : Chunk} {L L' : List Chunk} (h : Take C L L') : L.Perm (C :: L') := by
  induction h with
  | here => exact .refl _
  | there _ ih => exact (ih.cons _).trans (.swap _ _ _)
theorem Holds.take {w : World} {C : Chunk} {L L' : List Chunk} (h : Holds w L) (ht : Take C L L') : Holds w (C :: L') := h.perm ht.perm
theorem Holds.split {w : World} {C D : Chunk} {L : List Chunk} : Holds w ((C ++ D) :: L) ↔ Holds w (C :: D :: L) := by
  simp [Holds, List.append_assoc]
theorem Holds.nil {w : World} {L : List Chunk} : Holds w ([] :: L) ↔ Holds w L := by simp [Holds]
theorem Holds.drop {w : World} {C : Chunk} {L : List Chunk} (h : Holds w (C :: L)) : Holds w L := by
  refine ⟨?_, fun x hx => h.2.1 x (by simp only [List.flatten_cons, List.mem_append]; exact .inr hx), h.2.2⟩
  have := h.1
  simp only [List.flatten_cons, List.map_append, List.nodup_append] at this
  exact this.2.1
omit [W0] in
def aggB (P : Program) (t : TypeId) : Bool := match P.underlying t with | some (.struct _) | some (.array _ _) | none => true | _ => false
omit [W0] in
def aggT (P : Program) (t : TypeId) : Bool := match P.underlying t with | some (.struct _) | some (.array _ _) => true | _ => false
omit [W0] in
/-- The function has a body that is run. -/
def bodyB (P : Program) (f : FuncId) : Bool := match P.funcs[f]? with
  | some fn => fn.name != "runtime.NumGoroutine" && fn.body.isSome
  | none => false
omit [W0] in
class NA (P : Program) (t : Nat) : Prop where out : aggB P t = false
omit [W0] in
class AG (P : Program) (t : Nat) (k : outParam Nat) : Prop where out : aggT P t = true ∧ (P.info? t).map (·.size) = some k
omit [W0] in
class SZ (P : Program) (t : Nat) (k : outParam Nat) : Prop where out : (P.info? t).map (·.size) = some k
omit [W0] in
def fldOff (P : Program) (s f : Nat) : Option Nat := match P.underlying s with
  | some (.struct fs) => match fs[f]? with
    | some fd => match P.info? fd.type with
      | some i => if Nat.blt 0 i.size then some fd.offset else none
      | none => none
    | none => none
  | _ => none
omit [W0] in
class FO (P : Program) (s f : Nat) (k : outParam Nat) : Prop where out : fldOff P s f = some k
omit [W0] in
def slcOf (P : Program) (T : Nat) : Option (Nat × Nat × Nat) := match P.underlying T with
  | some (.slice e) => match P.info? e with
    | some i => if Nat.blt 0 i.size then some (e, i.size, i.bytes) else none
    | none => none
  | _ => none
omit [W0] in
class SL (P : Program) (T : Nat) (e : outParam Nat) (k : outParam Nat) (by_ : outParam Nat) : Prop where out : slcOf P T = some (e, k, by_)
omit [W0] in
class ST (P : Program) (T : Nat) : Prop where out : P.underlying T = some .string
omit [W0] in
class ZV (P : Program) (t : Nat) (z : outParam Value) : Prop where out : (P.info? t).map (·.zero) = some (some z)
omit [W0] in
class IK (P : Program) (t : Nat) (k : outParam IntKind) : Prop where out : P.underlying t = some (.int k)
omit [W0] in
class BD (P : Program) (f : Nat) : Prop where out : bodyB P f = true
omit [W0] in
def notIface (P : Program) (t : Nat) : Bool := match P.underlying t with | some (.interface _) | none => false | _ => true
omit [W0] in
class NI (P : Program) (t : Nat) : Prop where out : notIface P t = true
omit [W0] in
/-- The cell of a list. -/
def nth : List Value → Nat → Option Value
  | [], _ => none
  | v :: _, 0 => some v
  | _ :: r, i + 1 => nth r i
theorem nth_eq : ∀ (l : List Value) (i : Nat), nth l i = l[i]?
  | [], i => by simp [nth]
  | v :: r, 0 => by simp [nth]
  | v :: r, i + 1 => by simp [nth, nth_eq r i]
omit [W0] in
def lk : List (Nat × Value) → Nat → Option Value
  | [], _ => none
  | (t, v) :: r, n => bif Nat.beq t n then some v else lk r n
omit [W0] in
def ev (M : List (Nat × Value)) : Operand → Option Value
  | .tmp t => lk M t
  | .const v => some v
  | .global g => some (.pointer (some ⟨g, 0, none⟩))
  | .func f => some (.func (.func f) #[] #[])
omit [W0] in
structure St (n : Nat) (M : List (Nat × Value)) (a : Act) : Prop where
  defers : a.defers = []
  size : a.tmps.size = n
  get : ∀ t v, lk M t = some v → a.tmps[t]? = some v
theorem St.eval {n : Nat} {M : List (Nat × Value)} {a : Act} (h : St n M a) {x : Operand} {v : Value} (hx : ev M x = some v) : a.eval x = v := by
  cases x with
  | tmp t => have := h.get t v hx; simp [Act.eval, Array.getD_eq_getD_getElem?, this]
  | const u => exact Option.some.inj hx
  | global g => exact Option.some.inj hx
  | func f => exact Option.some.inj hx
theorem St.put {n : Nat} {M : List (Nat × Value)} {a : Act} (h : St n M a) {d : Nat} (v : Value) (hd : Nat.blt d n = true) : St n ((d, v) :: M) (a.put (some d) v) := by
  have hd' : d < n := by simpa [Nat.blt_eq] using hd
  refine ⟨h.defers, by simp [Act.put, h.size], fun t u ht => ?_⟩
  simp only [Act.put]
  unfold lk at ht
  by_cases e : d = t
  · subst e
    simp at ht
    subst ht
    rw [Array.getElem?_setIfInBounds_self]
    simp [h.size, hd']
  · have : Nat.beq d t = false := by
      cases hb : Nat.beq d t with
      | false => rfl
      | true => exact absurd (Nat.eq_of_beq_eq_true hb) e
    rw [this] at ht
    rw [Array.getElem?_setIfInBounds_ne e]
    exact h.get t u ht
omit [W0] in
/-- All that the smaller list knows the larger one knows. -/
def Sub (M' M : List (Nat × Value)) : Prop := ∀ t v, lk M' t = some v → lk M t = some v
theorem Sub.nil {M : List (Nat × Value)} : Sub [] M := fun t v h => by simp [lk] at h
theorem Sub.cons {M M' : List (Nat × Value)} {t : Nat} {v : Value} (h : lk M t = some v) (hs : Sub M' M) : Sub ((t, v) :: M') M := by
  intro u x hu
  unfold lk at hu
  cases hb : Nat.beq t u with
  | true => rw [hb] at hu; simp at hu; subst hu; rw [← Nat.eq_of_beq_eq_true hb]; exact h
  | false => rw [hb] at hu; exact hs u x hu
theorem St.sub {n : Nat} {M M' : List (Nat × Value)} {a : Act} (h : St n M a) (hs : Sub M' M) : St n M' a := ⟨h.defers, h.size, fun t v ht => h.get t v (hs t v ht)⟩
structure WQ (n : Nat) (q : Act → World → Prop) (M : List (Nat × Value)) (L : List Chunk) : Prop where
  out : ∀ a w, St n M a → Holds w L → q a w
structure WC (P : Program) (n : Nat) (c : Code) (Q : Exit → Act → World → Prop) (M : List (Nat × Value)) (L : List Chunk) : Prop where
  out : ∀ a w, St n M a → Holds w L → c.wp P Q a w
structure WL (P : Program) (n : Nat) (ops : Array Oper) (Q : Exit → Act → World → Prop) (rest : List Oper) (M : List (Nat × Value)) (L : List Chunk) : Prop where
  out : ∀ a w, St n M a → Holds w L → wpList P ops Q rest a w
structure OW (P : Program) (n : Nat) (o : Oper) (K : List (Nat × Value) → List Chunk → Prop) (M : List (Nat × Value)) (L : List Chunk) : Prop where
  out : ∀ a w (next : Act → World → Prop) Q, St n M a → Holds w L → (∀ M' L', K M' L' → WQ n next M' L') → o.wp P a w next Q
section
variable {P : Program} {n : Nat} {Q : Exit → Act → World → Prop} {M : List (Nat × Value)} {L : List Chunk} {K : List (Nat × Value) → List Chunk → Prop}
theorem WC.holds {L' : List Chunk} {c : Code} (h : WC P n c Q M L') (hl : ∀ w, Holds w L → Holds w L') : WC P n c Q M L := ⟨fun a w ha hw => h.out a w ha (hl w hw)⟩
theorem WC.sub {M' : List (Nat × Value)} {c : Code} (h : WC P n c Q M' L) (hs : Sub M' M) : WC P n c Q M L := ⟨fun a w ha hw => h.out a w (ha.sub hs) hw⟩
theorem WC_seq {x y : Code} (h : WC P n x (Exit.then (y.wp P Q) Q) M L) : WC P n (.seq x y) Q M L := ⟨fun a w ha hw => wp_seq (h.out a w ha hw)⟩
theorem WC_skip (h : WQ n (Q .normal) M L) : WC P n .skip Q M L := ⟨fun a w ha hw => wp_skip (h.out a w ha hw)⟩
theorem WC_exit {id : Nat} (h : WQ n (Q (.exit id)) M L) : WC P n (.exit id) Q M L := ⟨fun a w ha hw => wp_exit (h.out a w ha hw)⟩
theorem WC_ret (h : WQ n (Q .ret) M L) : WC P n .ret Q M L := ⟨fun a w ha hw => wp_ret (h.out a w ha hw)⟩
theorem WC_block {id : Nat} {c : Code} (h : WC P n c (Exit.inBlock id Q) M L) : WC P n (.block id c) Q M L := ⟨fun a w ha hw => wp_block (h.out a w ha hw)⟩
theorem WC_cond {c : Operand} {x y : Code} {t : Bool} (hc : ev M c = some (.bool t)) (ht : t = true → WC P n x Q M L) (hf : t = false → WC P n y Q M L) :
    WC P n (.cond c x y) Q M L := ⟨fun a w ha hw => wp_cond_split (ha.eval hc) (fun h => (ht h).out a w ha hw) (fun h => (hf h).out a w ha hw)⟩
theorem WC_true {c : Operand} {x y : Code} (hc : ev M c = some (.bool true)) (ht : WC P n x Q M L) : WC P n (.cond c x y) Q M L := ⟨fun a w ha hw => wp_cond_true (ha.eval hc) (ht.out a w ha hw)⟩
theorem WC_false {c : Operand} {x y : Code} (hc : ev M c = some (.bool false)) (ht : WC P n y Q M L) : WC P n (.cond c x y) Q M L := ⟨fun a w ha hw => wp_cond_false (ha.eval hc) (ht.out a w ha hw)⟩
theorem WC_region {id : Nat} {l : List Oper} (h : WL P n l.toArray Q l M L) : WC P n (.region id l.toArray false) Q M L := ⟨fun a w ha hw => wp_region_lit (h.out a w ha hw)⟩
theorem WL_nil {ops : Array Oper} (h : WQ n (Q .normal) M L) : WL P n ops Q [] M L := ⟨fun a w ha hw => wpList_nil (h.out a w ha hw)⟩
theorem WQ_then_normal {K : Act → World → Prop} (h : WQ n K M L) : WQ n (Exit.then K Q .normal) M L := ⟨h.out⟩
theorem WQ_then_ret {K : Act → World → Prop} (h : WQ n (Q .ret) M L) : WQ n (Exit.then K Q .ret) M L := ⟨h.out⟩
theorem WQ_then_exit {K : Act → World → Prop} {id : Nat} (h : WQ n (Q (.exit id)) M L) : WQ n (Exit.then K Q (.exit id)) M L := ⟨h.out⟩
theorem WQ_block_ret {i : Nat} (h : WQ n (Q .ret) M L) : WQ n (Exit.inBlock i Q .ret) M L := ⟨h.out⟩
theorem WQ_block_normal {i : Nat} (h : WQ n (Q .normal) M L) : WQ n (Exit.inBlock i Q .normal) M L := ⟨h.out⟩
theorem WQ_block_hit {i : Nat} (h : WQ n (Q .normal) M L) : WQ n (Exit.inBlock i Q (.exit i)) M L := ⟨fun a w ha hw => by
  show if i = i then Q .normal a w else Q (.exit i) a w
  rw [if_pos rfl]; exact h.out a w ha hw⟩
theorem WQ_block_miss {i j : Nat} (hne : Nat.beq j i = false) (h : WQ n (Q (.exit j)) M L) : WQ n (Exit.inBlock i Q (.exit j)) M L := ⟨fun a w ha hw => by
  show if j = i then Q .normal a w else Q (.exit j) a w
  rw [if_neg (by intro e; subst e; simp at hne)]; exact h.out a w ha hw⟩
theorem WQ_code {c : Code} (h : WC P n c Q M L) : WQ n (c.wp P Q) M L := ⟨h.out⟩
theorem WL_plain {ops : Array Oper} {rest : List Oper} {o : Oper} (hg : o.guard = none) (h : OW P n o (WL P n ops Q rest) M L) : WL P n ops Q (o :: rest) M L := ⟨fun a w ha hw => by
  unfold wpList
  rw [if_pos (by simp [Region.wanted, hg])]
  exact .inl (h.out a w _ Q ha hw fun M' L' hk => ⟨hk.out⟩)⟩
omit [W0] in
/-- What the guarding operation of a region has yielded. -/
def yl (ops : List Oper) (M : List (Nat × Value)) (j : Nat) : Option Value := ((ops[j]?).bind (·.dst)).bind (lk M)
theorem yielded_of {ops : List Oper} {a : Act} (ha : St n M a) {j : Nat} {v : Value} (h : yl ops M j = some v) :
    yielded ops.toArray a.tmps j = match v with | .bool b => some b | _ => none := by
  unfold yl at h
  unfold yielded
  simp only [List.getElem?_toArray]
  cases hj : ops[j]? with
  | none => simp [hj] at h
  | some o =>
    simp only [hj, Option.bind_some] at h ⊢
    cases hd : o.dst with
    | none => simp [hd] at h
    | some d =>
      simp only [hd, Option.bind_some] at h ⊢
      rw [ha.get d v h]
      cases v <;> rfl
theorem WL_on {ops : List Oper} {rest : List Oper} {o : Oper} {j : Nat} {b : Bool} (hg : o.guard = some (j, b)) (hy : yl ops M j = some (.bool b))
    (h : OW P n o (WL P n ops.toArray Q rest) M L) : WL P n ops.toArray Q (o :: rest) M L := ⟨fun a w ha hw => by
  unfold wpList
  rw [if_pos (by simp [Region.wanted, hg, yielded_of ha hy])]
  exact .inl (h.out a w _ Q ha hw fun M' L' hk => ⟨hk.out⟩)⟩
theorem WL_off {ops : List Oper} {rest : List Oper} {o : Oper} {j d : Nat} {b : Bool} (hg : o.guard = some (j, b)) (hd : o.dst = some d) (hy : yl ops M j = some (.bool (!b)))
    (hn : Nat.blt d n = true) (h : WL P n ops.toArray Q rest ((d, undef) :: M) L) : WL P n ops.toArray Q (o :: rest) M L := ⟨fun a w ha hw => by
  unfold wpList
  rw [if_neg (by simp [Region.wanted, hg, yielded_of ha hy])]
  rw [hd]
  exact h.out _ w (ha.put undef hn) hw⟩
theorem WL_off' {ops : List Oper} {rest : List Oper} {o : Oper} {j : Nat} {b : Bool} (hg : o.guard = some (j, b)) (hd : o.dst = none) (hy : yl ops M j = some (.bool (!b)))
    (h : WL P n ops.toArray Q rest M L) : WL P n ops.toArray Q (o :: rest) M L := ⟨fun a w ha hw => by
  unfold wpList
  rw [if_neg (by simp [Region.wanted, hg, yielded_of ha hy])]
  rw [hd]
  exact h.out _ w ha hw⟩
theorem WL_offu {ops : List Oper} {rest : List Oper} {o : Oper} {j d : Nat} {b : Bool} (hg : o.guard = some (j, b)) (hd : o.dst = some d) (hy : yl ops M j = some undef)
    (hn : Nat.blt d n = true) (h : WL P n ops.toArray Q rest ((d, undef) :: M) L) : WL P n ops.toArray Q (o :: rest) M L := ⟨fun a w ha hw => by
  unfold wpList
  rw [if_neg (by simp [Region.wanted, hg, yielded_of ha hy, undef])]
  rw [hd]
  exact h.out _ w (ha.put undef hn) hw⟩
theorem WL_split {ops : List Oper} {rest : List Oper} {o : Oper} {j : Nat} {b c : Bool} (hg : o.guard = some (j, b)) (hy : yl ops M j = some (.bool c))
    (ht : c = true → WL P n ops.toArray Q (o :: rest) M L) (hf : c = false → WL P n ops.toArray Q (o :: rest) M L) : WL P n ops.toArray Q (o :: rest) M L := by
  cases c
  · exact hf rfl
  · exact ht rfl
theorem OW_val {o : Oper} {d : Nat} {v : Value} (hd : o.dst = some d) (hn : Nat.blt d n = true) (hr : ∀ a w, St n M a → Holds w L → (execOp a.eval o).run P w = .ok (.value v) w)
    (h : K ((d, v) :: M) L) : OW P n o K M L := ⟨fun a w next Q ha hw hk => by
  unfold Oper.wp
  rw [hr a w ha hw, Oper.upon_value, hd]
  exact (hk _ _ h).out _ _ (ha.put v hn) hw⟩
structure EV (P : Program) (n : Nat) (o : Oper) (M : List (Nat × Value)) (L : List Chunk) (d : Nat) (v : Value) : Prop where
  dst : o.dst = some d
  run : ∀ a w, St n M a → Holds w L → (execOp a.eval o).run P w = .ok (.value v) w
theorem OW_EV {o : Oper} {d : Nat} {v : Value} (he : EV P n o M L d v) (hn : Nat.blt d n = true) (h : K ((d, v) :: M) L) : OW P n o K M L := OW_val he.dst hn he.run h
variable {d : Nat} {ty : TypeId} {ps : String} {af : Array Edge} {g : Option (Nat × Bool)} {x y : Operand} {v : Value}
theorem EV_move (hx : ev M x = some v) : EV P n ⟨some d, .move x, ty, ps, af, g⟩ M L d (v) :=
  ⟨rfl, fun a w ha _ => by simp [execOp, ha.eval hx]⟩
theorem EV_assign (hx : ev M x = some v) : EV P n ⟨some d, .assign x, ty, ps, af, g⟩ M L d (v) :=
  ⟨rfl, fun a w ha _ => by simp [execOp, ha.eval hx]⟩
theorem EV_pick {c : Operand} {b : Bool} (hc : ev M c = some (.bool b)) (hv : (if b then ev M x else ev M y) = some v) :
    EV P n ⟨some d, .pick c x y, ty, ps, af, g⟩ M L d (v) :=
  ⟨rfl, fun a w ha _ => by
    cases b
    · simp [execOp, ha.eval hc, asBool, ha.eval (x := y) (by simpa using hv)]
    · simp [execOp, ha.eval hc, asBool, ha.eval (x := x) (by simpa using hv)]⟩
theorem EV_nilCheck {ad : Addr} (hx : ev M x = some (.pointer (some ad))) :
    EV P n ⟨some d, .nilCheck x, ty, ps, af, g⟩ M L d (.pointer (some ad)) :=
  ⟨rfl, fun a w ha _ => by simp [execOp, ha.eval hx]⟩
theorem EV_extract {i : Nat} {vs : List Value} (hx : ev M x = some (.tuple vs.toArray)) (hv : nth vs i = some v) :
    EV P n ⟨some d, .extract x i, ty, ps, af, g⟩ M L d v :=
  ⟨rfl, fun a w ha _ => by rw [nth_eq] at hv; simp [execOp, ha.eval hx, Instr.extract, hv]⟩
theorem EV_not {b : Bool} {ty' : TypeId} (hx : ev M x = some (.bool b)) : EV P n ⟨some d, .unOp .not ty' x, ty, ps, af, g⟩ M L d (.bool (!b)) :=
  ⟨rfl, fun a w ha _ => by simp [execOp, ha.eval hx, Op.unary]⟩
omit [W0] in
/-- Comparisons of integers. -/
def cmpI : BinOp → Int → Int → Option Bool
  | .eql, x, y => some (x == y) | .neq, x, y => some (x != y) | .lss, x, y => some (x < y) | .leq, x, y => some (x ≤ y) | .gtr, x, y => some (x > y) | .geq, x, y => some (x ≥ y)
  | _, _, _ => none
theorem EV_cmp {op : BinOp} {t u : TypeId} {k : IntKind} {i j : Int} {b : Bool} (hx : ev M x = some (.int k i)) (hy : ev M y = some (.int k j)) (hb : cmpI op i j = some b)
    : EV P n ⟨some d, .binOp op t x y u, ty, ps, af, g⟩ M L d (.bool b) :=
  ⟨rfl, fun a w ha _ => by
    cases op <;> simp [cmpI] at hb <;> subst hb <;> simp [execOp, ha.eval hx, ha.eval hy, eqGuard, binOp, Op.intCmp]⟩
omit [W0] in
def ariI : BinOp → Int → Int → Option Int
  | .add, x, y => some (x + y) | .sub, x, y => some (x - y) | .mul, x, y => some (x * y)
  | _, _, _ => none
theorem EV_ari {op : BinOp} {t u : TypeId} {k : IntKind} {i j r : Int} (hx : ev M x = some (.int k i)) (hy : ev M y = some (.int k j)) (hb : ariI op i j = some r)
    : EV P n ⟨some d, .binOp op t x y u, ty, ps, af, g⟩ M L d (.int k (k.wrap r)) :=
  ⟨rfl, fun a w ha _ => by
    cases op <;> simp [ariI] at hb <;> subst hb <;> simp [execOp, ha.eval hx, ha.eval hy, eqGuard, binOp, Op.intArith]⟩
theorem wrap_i64 {r : Int} (h1 : -9223372036854775808 ≤ r) (h2 : r ≤ 9223372036854775807) : IntKind.i64.wrap r = r := by
  simp [IntKind.wrap, IntKind.bits, IntKind.signed]
  split <;> omega
theorem EV_ari64 {op : BinOp} {t u : TypeId} {i j r : Int} (hx : ev M x = some (.int .i64 i)) (hy : ev M y = some (.int .i64 j)) (hb : ariI op i j = some r)
    (h1 : -9223372036854775808 ≤ r ∧ r ≤ 9223372036854775807) : EV P n ⟨some d, .binOp op t x y u, ty, ps, af, g⟩ M L d (.int .i64 r) := by
  have := EV_ari (P := P) (n := n) (L := L) (d := d) (ty := ty) (ps := ps) (af := af) (g := g) (op := op) (t := t) (u := u) hx hy hb
  rwa [wrap_i64 h1.1 h1.2] at this
theorem isAgg_false {t : TypeId} (h : aggB P t = false) (w : World) : (isAgg t).run P w = .ok false w := by
  unfold aggB at h
  cases hu : P.underlying t with
  | none => simp [hu] at h
  | some D => cases D <;> simp [hu] at h <;> simp [isAgg, underlying, hu]
theorem isAgg_true {t : TypeId} (h : aggT P t = true) (w : World) : (isAgg t).run P w = .ok true w := by
  unfold aggT at h
  cases hu : P.underlying t with
  | none => simp [hu] at h
  | some D => cases D <;> simp [hu] at h <;> simp [isAgg, underlying, hu]
theorem cell_of {w : World} {b off : Nat} {c : Array Value} {T : TypeId} {fr : Nat × Nat} (hb : w.heap[b]? = some (.cells c T fr)) : w.cell? ⟨b, off, none⟩ = c[off]? := by
  simp [World.cell?, hb]
theorem EV_load {t : TypeId} [hag : NA P t] {b off : Nat} {c : Array Value} {T : TypeId} {fr : Nat × Nat} (hx : ev M x = some (.pointer (some ⟨b, off, none⟩))) (hf : Fnd L b (.cells c T fr))
    (hc : c[off]? = some v) : EV P n ⟨some d, .load t x, ty, ps, af, g⟩ M L d (v) :=
  ⟨rfl, fun a w ha hw => by
    have hcell : w.cell? ⟨b, off, none⟩ = some v := by rw [cell_of (hf.get hw), hc]
    simp [execOp, ha.eval hx, Instr.loadAt, Instr.sureAddr, loadVar, isAgg_false hag.out, hcell]⟩
theorem EV_loadc {t : TypeId} [hag : NA P t] {b off : Nat} {l : List Value} {T : TypeId} (hx : ev M x = some (.pointer (some ⟨b, off, none⟩))) (hf : Fnd L b (cl l T))
    (hc : nth l off = some v) : EV P n ⟨some d, .load t x, ty, ps, af, g⟩ M L d v :=
  EV_load hx hf (by simpa [nth_eq] using hc)
theorem setCell_at {w : World} {b off : Nat} {c : Array Value} {T : TypeId} {fr : Nat × Nat} {v : Value} (hb : w.heap[b]? = some (.cells c T fr)) :
    (w.setCell ⟨b, off, none⟩ v).heap[b]? = some (.cells (c.setIfInBounds off v) T fr) := by
  simp [World.setCell, Array.getElem?_modify, hb]
theorem setCell_ne {w : World} {b off e : Nat} {v : Value} (hne : e ≠ b) : (w.setCell ⟨b, off, none⟩ v).heap[e]? = w.heap[e]? := by
  simp only [World.setCell, Array.getElem?_modify]
  rw [if_neg (by intro h; exact hne h.symm)]
theorem sizeOf_run {t : TypeId} {k : Nat} (h : (P.info? t).map (·.size) = some k) (w : World) : (sizeOf t).run P w = .ok k w := by
  cases hi : P.info? t with
  | none => simp [hi] at h
  | some i => simp [hi] at h; simp [sizeOf, typeInfo, hi, h]
theorem OW_store {t : TypeId} [hs : SZ P t 1] {b off : Nat} {l : List Value} {T : TypeId} {L' : List Chunk} (hx : ev M x = some (.pointer (some ⟨b, off, none⟩))) (hy : ev M y = some v) (hv : v.oneCell' = true)
    (hu : Upd L b (cl l T) (cl (l.set off v) T) L') (hlt : off < l.length) (h : K M L') :
    OW P n ⟨none, .store t x y, ty, ps, af, g⟩ K M L := ⟨fun a w next Q ha hw hk => by
  have hb := hu.fnd.get hw
  have hcell : w.cell? ⟨b, off, none⟩ = some l[off] := by rw [cell_of hb]; simp [hlt]
  have hfz : w.frozen? ⟨b, off, none⟩ = false := by simp [World.frozen?, hb, cl]
  have hcs : v.cells = #[v] := by cases v <;> simp [Value.oneCell'] at hv <;> rfl
  have hrun : (execOp a.eval ⟨none, .store t x y, ty, ps, af, g⟩).run P w = .ok .skip (w.setCell ⟨b, off, none⟩ v) := by
    simp [execOp, ha.eval hx, ha.eval hy, Instr.storeAt, Instr.sureAddr, storeVar, sizeOf_run hs.out, hcs, storeCells, run_store _ _ _ _ _ hv, Addr.add, hcell, hfz]
  unfold Oper.wp
  rw [hrun, Oper.upon_skip]
  refine (hk _ _ h).out _ _ ha (hw.upd hu ?_ ?_ rfl rfl)
  · rw [setCell_at hb]; simp [cl]
  · exact fun c hc => setCell_ne hc⟩
theorem EV_fieldAddr {s : TypeId} {f k : Nat} [hF : FO P s f k] {b off : Nat} (hx : ev M x = some (.pointer (some ⟨b, off, none⟩)))
    : EV P n ⟨some d, .fieldAddr s x f, ty, ps, af, g⟩ M L d (.pointer (some ⟨b, off + k, none⟩)) :=
  ⟨rfl, fun a w ha _ => by
    have hF := hF.out
    unfold fldOff at hF
    split at hF
    · rename_i fs hu
      split at hF
      · rename_i fd hf
        split at hF
        · rename_i i hi
          split at hF
          · rename_i hz
            simp at hF
            subst hF
            have hne : i.size ≠ 0 := by rw [Nat.blt_eq] at hz; omega
            simp [execOp, ha.eval hx, Instr.fieldAt, Instr.sureAddr, fieldPlace, underlying, hu, hf, sizeOf, typeInfo, hi, hne]
            unfold Addr.add
            split <;> simp_all
          · simp at hF
        · simp at hF
      · simp at hF
    · simp at hF⟩
theorem EV_fieldAddr0 {s : TypeId} {f k : Nat} [hF : FO P s f k] {b : Nat} (hx : ev M x = some (.pointer (some ⟨b, 0, none⟩))) :
    EV P n ⟨some d, .fieldAddr s x f, ty, ps, af, g⟩ M L d (.pointer (some ⟨b, k, none⟩)) := by
  have := EV_fieldAddr (P := P) (n := n) (L := L) (d := d) (ty := ty) (ps := ps) (af := af) (g := g) (s := s) (f := f) hx
  rwa [Nat.zero_add] at this
end
structure Gv (P : Program) (f : FuncId) (args : Array Value) (L : List Chunk) (post : Value → List Chunk → Prop) : Prop where
  out : ∀ w, Holds w L → Calls P f args w fun e w' => ∃ v L', e = .returned v ∧ post v L' ∧ Holds w' L'
section
variable {P : Program} {n : Nat} {Q : Exit → Act → World → Prop} {M : List (Nat × Value)} {L : List Chunk} {K : List (Nat × Value) → List Chunk → Prop}
variable {d : Nat} {ty : TypeId} {ps : String} {af : Array Edge} {g : Option (Nat × Bool)} {x y : Operand} {v : Value}
omit [W0] in
def evs (M : List (Nat × Value)) : List Operand → Option (List Value)
  | [] => some []
  | x :: r => match ev M x, evs M r with
    | some v, some vs => some (v :: vs)
    | _, _ => none
theorem St.evals {a : Act} (h : St n M a) : ∀ {xs : List Operand} {vs : List Value}, evs M xs = some vs → xs.map a.eval = vs
  | [], vs, he => by simp [evs] at he; subst he; rfl
  | x :: r, vs, he => by
    unfold evs at he
    split at he
    · rename_i v vs' h1 h2
      simp at he; subst he
      simp [h.eval h1, St.evals h h2]
    · simp at he
theorem callFunc_run {f : FuncId} (h : bodyB P f = true) (args : Array Value) (w : World) : (callFunc f args).run P w = .ok (.enter f args) w := by
  unfold bodyB at h
  cases hf : P.funcs[f]? with
  | none => simp [hf] at h
  | some fn =>
    simp [hf] at h
    have h2 : fn.body.isNone = false := by cases hb : fn.body <;> simp_all
    simp only [callFunc, Sem.run_bind, run_program, Result.andThen_ok, hf]
    rw [if_neg (by simpa using h.1), if_neg (by simp [h2])]
    rfl
theorem OW_call {f : FuncId} [hb : BD P f] {xs : List Operand} {ats : Array TypeId} {first cap : Array Value} {vs : List Value} {args : Array Value} {post : Value → List Chunk → Prop}
    (hx : ev M x = some (.func (.func f) first cap)) (hvs : evs M xs = some vs) (hargs : first ++ vs.toArray ++ cap = args) (hspec : Gv P f args L post)
    (hn : Nat.blt d n = true) (h : ∀ v L', post v L' → K ((d, v) :: M) L') : OW P n ⟨some d, .call ⟨.value x, xs.toArray, ats⟩, ty, ps, af, g⟩ K M L := ⟨fun a w next Q ha hw hk => by
  subst hargs
  have hrun : (execOp a.eval ⟨some d, .call ⟨.value x, xs.toArray, ats⟩, ty, ps, af, g⟩).run P w = .ok (.enter f (first ++ vs.toArray ++ cap)) w := by
    have hm : Array.map a.eval xs.toArray = vs.toArray := by
      rw [← ha.evals hvs]; simp
    simp only [execOp, resolve, ha.eval hx, hm, Deferred.ofValue, Sem.run_bind, Sem.run_pure, Result.andThen_ok, invoke, callFunc_run hb.out]
  unfold Oper.wp
  rw [hrun, Oper.upon_enter]
  refine (hspec.out w hw).mono fun e w' he => ?_
  obtain ⟨v, L', rfl, hp, hw'⟩ := he
  exact (hk _ _ (h v L' hp)).out _ _ (ha.put v hn) hw'⟩
theorem Gv.mono {f : FuncId} {args : Array Value} {post post' : Value → List Chunk → Prop} (h : Gv P f args L post) (hp : ∀ v L', post v L' → post' v L') : Gv P f args L post' :=
  ⟨fun w hw => (h.out w hw).mono fun _ _ he => let ⟨v, L', h1, h2, h3⟩ := he; ⟨v, L', h1, hp v L' h2, h3⟩⟩
theorem Gv.holds {f : FuncId} {args : Array Value} {post : Value → List Chunk → Prop} {L' : List Chunk} (h : Gv P f args L' post) (hl : ∀ w, Holds w L → Holds w L') : Gv P f args L post :=
  ⟨fun w hw => h.out w (hl w hw)⟩
theorem Gv.take {f : FuncId} {args : Array Value} {post : Value → List Chunk → Prop} {L' : List Chunk} {C : Chunk} (h : Gv P f args (C :: L') post) (ht : Take C L L') : Gv P f args L post :=
  h.holds fun _ hw => hw.take ht
omit [W0] in
/-- The parameters' slots. -/
def params : Nat → List Value → List (Nat × Value)
  | _, [] => []
  | i, v :: r => (i, v) :: params (i + 1) r
theorem params_get : ∀ (args : List Value) (i t : Nat) (v : Value), lk (params i args) t = some v → i ≤ t ∧ args[t - i]? = some v
  | [], i, t, v, h => by simp [params, lk] at h
  | u :: r, i, t, v, h => by
    unfold params lk at h
    cases hb : Nat.beq i t with
    | true =>
      have := Nat.eq_of_beq_eq_true hb
      subst this
      rw [hb] at h
      simp at h; subst h; simp
    | false =>
      rw [hb] at h
      obtain ⟨h1, h2⟩ := params_get r (i + 1) t v h
      refine ⟨by omega, ?_⟩
      have : t - i = (t - (i + 1)) + 1 := by omega
      rw [this]; simpa using h2
theorem Gv.of_body {f : FuncId} {fn : Func} {c : Code} {args : List Value} {post : Value → List Chunk → Prop} (hf : P.funcs[f]? = some fn) (hb : fn.body = some c) (hle : Nat.ble args.length fn.ntmps = true)
    (h : WC P fn.ntmps c (bodyPost P fn (fun e w' => ∃ v L', e = .returned v ∧ post v L' ∧ Holds w' L')) (params 0 args) L) : Gv P f args.toArray L post := ⟨fun w hw => by
  refine calls_of_wp hf hb (h.out _ w ⟨rfl, ?_, ?_⟩ hw)
  · have := Nat.le_of_ble_eq_true hle
    simp; omega
  · intro t v ht
    obtain ⟨_, h2⟩ := params_get args 0 t v ht
    have h2' : args[t]? = some v := by simpa using h2
    have hlt : t < args.length := by
      rcases Nat.lt_or_ge t args.length with h' | h'
      · exact h'
      · simp [List.getElem?_eq_none h'] at h2'
    rw [Array.getElem?_append_left (by simpa using hlt)]
    simpa using h2'⟩
omit [W0] in
/-- What the results' slots hold. -/
def resT (M : List (Nat × Value)) : List ResultVar → Option (List Value)
  | [] => some []
  | .tmp t :: r => match lk M t, resT M r with
    | some v, some vs => some (v :: vs)
    | _, _ => none
  | .cell .. :: _ => none
omit [W0] in
def tupled : List Value → Value
  | [v] => v
  | vs => .tuple vs.toArray
omit [W0] in
def resOne (tmps : Array Value) : ResultVar → Sem Value
  | .tmp t => pure (tmps.getD t undef)
  | .cell x t => do loadVar t (← asAddr (tmps.getD x undef))
theorem results_eq (fn : Func) (tmps : Array Value) : results fn tmps = (do
    let vs ← fn.results.mapM (resOne tmps)
    pure (if h : vs.size = 1 then vs[0] else .tuple vs)) := by
  unfold results
  congr 2
theorem resT_run {a : Act} {w : World} (ha : St n M a) : ∀ {rs : List ResultVar} {vs : List Value}, resT M rs = some vs →
    (rs.mapM (resOne a.tmps)).run P w = .ok vs w
  | [], vs, h => by simp [resT] at h; subst h; rfl
  | .tmp t :: r, vs, h => by
    unfold resT at h
    split at h
    · rename_i v vs' h1 h2
      simp at h; subst h
      have := resT_run (w := w) ha h2
      simp [List.mapM_cons, this, resOne, Array.getD_eq_getD_getElem?, ha.get t v h1]
    · simp at h
  | .cell _ _ :: _, vs, h => by simp [resT] at h
theorem results_run {a : Act} {w : World} {fn : Func} {rs : List ResultVar} {vs : List Value} (ha : St n M a) (hr : fn.results = rs.toArray) (h : resT M rs = some vs) :
    (results fn a.tmps).run P w = .ok (tupled vs) w := by
  rw [results_eq, hr]
  simp only [List.mapM_toArray, Sem.run_bind, Sem.run_map, resT_run ha h, Result.andThen_ok, Sem.run_pure]
  match vs with
  | [] => simp [tupled]
  | [v] => simp [tupled]
  | v :: u :: r => simp [tupled]
end
end Go.Vx
namespace Go.Vx
open Go
set_option linter.all false
variable [W0]
section
variable {P : Program} {n : Nat} {Q : Exit → Act → World → Prop} {M : List (Nat × Value)} {L : List Chunk} {K : List (Nat × Value) → List Chunk → Prop}
variable {d : Nat} {ty : TypeId} {ps : String} {af : Array Edge} {g : Option (Nat × Bool)} {x y : Operand} {v : Value}
theorem SL.parts {T e k b : Nat} (h : SL P T e k b) : P.underlying T = some (.slice e) ∧ ∃ i, P.info? e = some i ∧ i.size = k ∧ i.bytes = b ∧ 0 < k := by
  have h := h.out
  unfold slcOf at h
  split at h
  · rename_i e' hu
    split at h
    · rename_i i hi
      split at h
      · rename_i hz
        simp at h
        obtain ⟨rfl, rfl, rfl⟩ := h
        rw [Nat.blt_eq] at hz
        exact ⟨hu, i, hi, rfl, rfl, hz⟩
      · simp at h
    · simp at h
  · simp at h
theorem addr_add {b off k : Nat} : (⟨b, off, none⟩ : Addr).add k = ⟨b, off + k, none⟩ := by
  unfold Addr.add; split <;> simp_all
theorem EV_indexStr {T : Nat} [hs : ST P T] {s : ByteArray} {j : Nat} {kk : IntKind} {i : Int} {u : UInt8} (hx : ev M x = some (.string s)) (hy : ev M y = some (.int kk i))
    (hj : i = (j : Int)) (hu : s[j]? = some u) :
    EV P n ⟨some d, .index T x y, ty, ps, af, g⟩ M L d (.int .u8 (u.toNat : Int)) :=
  ⟨rfl, fun a w ha _ => by
    subst hj
    simp [execOp, ha.eval hx, ha.eval hy, Instr.index, asIntOf, underlying, hs.out, hu]⟩
theorem EV_lenSl {T e k by_ : Nat} [hs : SL P T e k by_] {b : Option Addr} {len cap : Nat} (hx : ev M x = some (.slice b len cap))
    : EV P n ⟨some d, .call ⟨.builtin .len, #[x], #[T]⟩, ty, ps, af, g⟩ M L d (.int .i64 (len : Int)) :=
  ⟨rfl, fun a w ha _ => by
    obtain ⟨hu, _⟩ := hs.parts
    simp [execOp, resolve, invoke, builtin, ha.eval hx, Builtin.len_, underlying, hu, goInt]⟩
theorem EV_capSl {T e k by_ : Nat} [hs : SL P T e k by_] {b : Option Addr} {len cap : Nat} (hx : ev M x = some (.slice b len cap))
    : EV P n ⟨some d, .call ⟨.builtin .cap, #[x], #[T]⟩, ty, ps, af, g⟩ M L d (.int .i64 (cap : Int)) :=
  ⟨rfl, fun a w ha _ => by
    obtain ⟨hu, _⟩ := hs.parts
    simp [execOp, resolve, invoke, builtin, ha.eval hx, Builtin.cap_, underlying, hu, goInt]⟩
theorem EV_lenStr {T : Nat} [hs : ST P T] {s : ByteArray} (hx : ev M x = some (.string s))
    : EV P n ⟨some d, .call ⟨.builtin .len, #[x], #[T]⟩, ty, ps, af, g⟩ M L d (.int .i64 (s.size : Int)) :=
  ⟨rfl, fun a w ha _ => by
    simp [execOp, resolve, invoke, builtin, ha.eval hx, Builtin.len_, underlying, hs.out, goInt]⟩
theorem EV_min {t u : TypeId} {k : IntKind} {i j : Int} (hx : ev M x = some (.int k i)) (hy : ev M y = some (.int k j))
    : EV P n ⟨some d, .call ⟨.builtin .min, #[x, y], #[t, u]⟩, ty, ps, af, g⟩ M L d (.int k (min i j)) :=
  ⟨rfl, fun a w ha _ => by
    have e : (if j < i then j else i) = min i j := by rw [Int.min_def]; split <;> split <;> omega
    simp [execOp, resolve, invoke, builtin, ha.eval hx, ha.eval hy, Builtin.min_, Builtin.min2, e]⟩
theorem EV_max {t u : TypeId} {k : IntKind} {i j : Int} (hx : ev M x = some (.int k i)) (hy : ev M y = some (.int k j))
    : EV P n ⟨some d, .call ⟨.builtin .max, #[x, y], #[t, u]⟩, ty, ps, af, g⟩ M L d (.int k (max i j)) :=
  ⟨rfl, fun a w ha _ => by
    have e : (if i < j then j else i) = max i j := by rw [Int.max_def]; split <;> split <;> omega
    simp [execOp, resolve, invoke, builtin, ha.eval hx, ha.eval hy, Builtin.max_, Builtin.max2, e]⟩
omit [W0] in
/-- A bound of a slice expression. -/
def bnd (M : List (Nat × Value)) : Option Operand → Nat → Option Int
  | none, dflt => some dflt
  | some x, _ => match ev M x with | some (.int _ i) => some i | _ => none
theorem sliceBounds_run {isS : Bool} {len cap : Nat} {lo hi : Option Operand} {l h : Nat} {a : Act} (ha : St n M a) (hl : bnd M lo 0 = some (l : Int)) (hh : bnd M hi len = some (h : Int)) (h1 : l ≤ h) (h2 : h ≤ cap) (w : World) :
    (Instr.sliceBounds isS len cap (lo.map a.eval) (hi.map a.eval) none).run P w = .ok (l, h, cap) w := by
  have hlow : ∀ (x : Operand) (z : Int), bnd M (some x) 0 = some z → ∃ q, a.eval x = .int q z := by
    intro x z hz
    simp only [bnd] at hz
    split at hz
    · rename_i kk i he; simp at hz; subst hz; exact ⟨kk, ha.eval he⟩
    · simp at hz
  cases lo with
  | none =>
    have : l = 0 := by simp [bnd] at hl; omega
    subst this
    cases hi with
    | none =>
      have : len = h := by simp [bnd] at hh; omega
      subst this
      simp [Instr.sliceBounds]
    | some y =>
      obtain ⟨k2, e2⟩ := hlow y _ hh
      simp [Instr.sliceBounds, Instr.sliceBound, e2, asIntOf, h1, h2]
  | some x =>
    obtain ⟨k1, e1⟩ := hlow x _ hl
    cases hi with
    | none =>
      have : len = h := by simp [bnd] at hh; omega
      subst this
      simp [Instr.sliceBounds, Instr.sliceBound, e1, asIntOf, h1, h2]
    | some y =>
      obtain ⟨k2, e2⟩ := hlow y _ hh
      simp [Instr.sliceBounds, Instr.sliceBound, e1, e2, asIntOf, h1, h2]
theorem EV_sliceStr {T : Nat} [hs : ST P T] {s : ByteArray} {lo hi : Option Operand} {l h : Nat} (hx : ev M x = some (.string s)) (hl : bnd M lo 0 = some (l : Int)) (hh : bnd M hi s.size = some (h : Int))
    (h1 : l ≤ h) (h2 : h ≤ s.size) : EV P n ⟨some d, .slice T x lo hi none, ty, ps, af, g⟩ M L d (.string (s.extract l h)) :=
  ⟨rfl, fun a w ha _ => by
    simp [execOp, ha.eval hx, Instr.sliceAt, Instr.slice, underlying, hs.out, sliceBounds_run ha hl hh h1 h2]⟩
theorem EV_sliceSl {T e k by_ : Nat} [hs : SL P T e k by_] {b off len cap : Nat} {lo hi : Option Operand} {l h : Nat} (hx : ev M x = some (.slice (some ⟨b, off, none⟩) len cap)) (hl : bnd M lo 0 = some (l : Int)) (hh : bnd M hi len = some (h : Int))
    (h1 : l ≤ h) (h2 : h ≤ cap) : EV P n ⟨some d, .slice T x lo hi none, ty, ps, af, g⟩ M L d (.slice (some ⟨b, if cap = l then off else off + l * k, none⟩) (h - l) (cap - l)) :=
  ⟨rfl, fun a w ha _ => by
    obtain ⟨hu, i', hi', hk', _, hk0⟩ := hs.parts
    simp [execOp, ha.eval hx, Instr.sliceAt, Instr.slice, underlying, hu, sliceBounds_run ha hl hh h1 h2, sizeOf, typeInfo, hi', hk', addr_add]
    split <;> simp_all⟩
omit [W0] in
/-- Some cells of a list, in a row. -/
def cut (l : List Value) (off k : Nat) : List Value := (l.drop off).take k
omit [W0] in
def patch (l : List Value) (off : Nat) (vs : List Value) : List Value := l.take off ++ vs ++ l.drop (off + vs.length)
theorem cut_get {l : List Value} {off k j : Nat} (h : j < k) : (cut l off k)[j]? = l[off + j]? := by
  simp [cut, List.getElem?_take, h]
omit [W0] in
/-- What stands at an address, in a row. -/
def RdAt (L : List Chunk) (a : Addr) (vs : List Value) : Prop :=
  vs = [] ∨ ∃ b off c T fr, a = ⟨b, off, none⟩ ∧ Fnd L b (.cells c T fr) ∧ ∀ j u, vs[j]? = some u → c[off + j]? = some u
theorem RdAt.cells {a : Addr} {vs : List Value} (h : RdAt L a vs) {w : World} (hw : Holds w L) : ∀ j u, vs[j]? = some u → w.cell? (a.add j) = some u := by
  intro j u hj
  rcases h with rfl | ⟨b, off, c, T, fr, rfl, hf, hc⟩
  · simp at hj
  · rw [addr_add, cell_of (hf.get hw)]; exact hc j u hj
theorem RdAt.cl {b off : Nat} {l : List Value} {T : TypeId} {k : Nat} (hf : Fnd L b (Vx.cl l T)) : RdAt L ⟨b, off, none⟩ (cut l off k) := by
  refine .inr ⟨b, off, l.toArray, T, (0, 0), rfl, hf, fun j u hj => ?_⟩
  have hlt : j < k := by
    rcases Nat.lt_or_ge j k with h' | h'
    · exact h'
    · rw [List.getElem?_eq_none (by simp [cut]; omega)] at hj; simp at hj
  rw [cut_get hlt] at hj
  simpa using hj
theorem RdAt.cl' {b off : Nat} {l vs : List Value} {T : TypeId} (hf : Fnd L b (Vx.cl l T)) (hv : cut l off vs.length = vs) : RdAt L ⟨b, off, none⟩ vs := by
  have := RdAt.cl (off := off) (k := vs.length) hf
  rwa [hv] at this
theorem EV_loadAgg {t k : Nat} [hag : AG P t k] {a : Addr} {vs : List Value} (hx : ev M x = some (.pointer (some a))) (hr : RdAt L a vs) (hl : vs.length = k)
    : EV P n ⟨some d, .load t x, ty, ps, af, g⟩ M L d (.agg vs.toArray) :=
  ⟨rfl, fun a' w ha hw => by
    have hrun := run_loadCells_list (P := P) w a vs (hr.cells hw)
    rw [hl] at hrun
    simp [execOp, ha.eval hx, Instr.loadAt, Instr.sureAddr, loadVar, isAgg_true hag.out.1, sizeOf_run hag.out.2, hrun]⟩
theorem Holds.row {w : World} {L' : List Chunk} {b : Nat} {l l' : List Value} {T : TypeId} (hw : Holds w L) (hu : Upd L b (cl l T) (cl l' T) L') : Holds (w.setRow b l'.toArray) L' := by
  refine hw.upd hu ?_ (fun c hc => setRow_other w b c _ hc) rfl rfl
  exact setRow_heap w b l.toArray _ T (0, 0) (hu.fnd.get hw)
omit [W0] in
def ones (vs : List Value) : Bool := vs.all Value.oneCell'
theorem ones_mem {vs : List Value} (h : ones vs = true) : ∀ v ∈ vs, v.oneCell' = true := by simpa [ones] using h
theorem storeCells_run {w : World} {L' : List Chunk} {b off : Nat} {l vs : List Value} {T : TypeId} (hw : Holds w L) (hu : Upd L b (cl l T) (cl (patch l off vs) T) L') (hfit : off + vs.length ≤ l.length) (h1 : ones vs = true) :
    (storeCells ⟨b, off, none⟩ vs).run P w = .ok () (w.setRow b (patch l off vs).toArray) := by
  have := run_storeCells_at P b off T vs 0 l.toArray w (hu.fnd.get hw) (by simpa using hfit) (ones_mem h1)
  simpa [patch] using this
theorem OW_storeAgg {t k : Nat} [hag : AG P t k] {b off : Nat} {l vs : List Value} {T : TypeId} {L' : List Chunk} (hx : ev M x = some (.pointer (some ⟨b, off, none⟩))) (hy : ev M y = some (.agg vs.toArray)) (hl : vs.length = k)
    (h1 : ones vs = true) (hu : Upd L b (cl l T) (cl (patch l off vs) T) L') (hfit : off + vs.length ≤ l.length) (h : K M L') :
    OW P n ⟨none, .store t x y, ty, ps, af, g⟩ K M L := ⟨fun a w next Q ha hw hk => by
  have hrun : (execOp a.eval ⟨none, .store t x y, ty, ps, af, g⟩).run P w = .ok .skip (w.setRow b (patch l off vs).toArray) := by
    have := storeCells_run (P := P) hw hu hfit h1
    simp [execOp, ha.eval hx, ha.eval hy, Instr.storeAt, Instr.sureAddr, storeVar, sizeOf_run hag.out.2, Value.cells, hl, this]
  unfold Oper.wp
  rw [hrun, Oper.upon_skip]
  exact (hk _ _ h).out _ _ ha (hw.row hu)⟩
theorem OW_newval {o : Oper} {ob : Obj} {f : Nat → Value} (hd : o.dst = some d) (hn : Nat.blt d n = true)
    (hr : ∀ a w, St n M a → Holds w L → (execOp a.eval o).run P w = .ok (.value (f w.heap.size)) (w.alloc ob)) (h : ∀ b, K ((d, f b) :: M) ([(b, ob)] :: L)) : OW P n o K M L := ⟨fun a w next Q ha hw hk => by
  unfold Oper.wp
  rw [hr a w ha hw, Oper.upon_value, hd]
  exact (hk _ _ (h w.heap.size)).out _ _ (ha.put _ hn) (hw.alloc ob)⟩
theorem zero_run {t : TypeId} {z : Value} (h : (P.info? t).map (·.zero) = some (some z)) (w : World) : (zeroValue t).run P w = .ok z w := by
  cases hi : P.info? t with
  | none => simp [hi] at h
  | some i => simp [hi] at h; simp [zeroValue, typeInfo, hi, h]
theorem OW_alloc {t : Nat} {z : Value} [hz : ZV P t z] (hn : Nat.blt d n = true) (h : ∀ b, K ((d, .pointer (some ⟨b, 0, none⟩)) :: M) ([(b, cl z.cells.toList t)] :: L)) :
    OW P n ⟨some d, .alloc t, ty, ps, af, g⟩ K M L :=
  OW_newval (f := fun b => .pointer (some ⟨b, 0, none⟩)) rfl hn (fun a w ha hw => by
    simp [execOp, Instr.alloc, zero_run hz.out, newVar, newRow, cl]) h
theorem OW_box {t : Nat} (hx : ev M x = some v) (hn : Nat.blt d n = true) (h : ∀ b, K ((d, .pointer (some ⟨b, 0, none⟩)) :: M) ([(b, cl v.cells.toList t)] :: L)) :
    OW P n ⟨some d, .box t x, ty, ps, af, g⟩ K M L :=
  OW_newval (f := fun b => .pointer (some ⟨b, 0, none⟩)) rfl hn (fun a w ha hw => by
    simp [execOp, Instr.box, ha.eval hx, newVar, newRow, cl]) h
theorem EV_makeInterface {t : Nat} [hi : NI P t] (hx : ev M x = some v) :
    EV P n ⟨some d, .makeInterface t x, ty, ps, af, g⟩ M L d (.iface t v) :=
  ⟨rfl, fun a w ha _ => by
    have h2 := hi.out
    unfold notIface at h2
    cases hu : P.underlying t with
    | none => simp [hu] at h2
    | some D => cases D <;> simp [hu] at h2 <;> simp [execOp, Instr.makeInterface, ha.eval hx, underlying, hu]⟩
theorem EV_makeFunc {f : Fn} {xs ys : List Operand} {vs us : List Value} (hx : evs M xs = some vs) (hy : evs M ys = some us) :
    EV P n ⟨some d, .makeFunc f xs.toArray ys.toArray, ty, ps, af, g⟩ M L d (.func f vs.toArray us.toArray) :=
  ⟨rfl, fun a w ha _ => by
    have e1 : Array.map a.eval xs.toArray = vs.toArray := by rw [← ha.evals hx]; simp
    have e2 : Array.map a.eval ys.toArray = us.toArray := by rw [← ha.evals hy]; simp
    simp only [execOp, Instr.makeFunc, e1, e2, Sem.run_bind, Sem.run_pure, Result.andThen_ok]⟩
theorem EV_assertYes {t u : Nat} [hi : NI P u] (hx : ev M x = some (.iface u v)) :
    EV P n ⟨some d, .typeAssert x t u true, ty, ps, af, g⟩ M L d (.tuple #[v, .bool true]) :=
  ⟨rfl, fun a w ha _ => by
    have h2 := hi.out
    unfold notIface at h2
    cases hu : P.underlying u with
    | none => simp [hu] at h2
    | some D => cases D <;> simp [hu] at h2 <;> simp [execOp, Instr.typeAssert, ha.eval hx, underlying, hu]⟩
theorem EV_assertNo {t u r : Nat} {z : Value} [hi : NI P u] [hz : ZV P u z] (hx : ev M x = some (.iface r v)) (hne : Nat.beq r u = false) :
    EV P n ⟨some d, .typeAssert x t u true, ty, ps, af, g⟩ M L d (.tuple #[z, .bool false]) :=
  ⟨rfl, fun a w ha _ => by
    have hne' : ¬ r = u := by intro e; subst e; simp at hne
    have h2 := hi.out
    unfold notIface at h2
    cases hu : P.underlying u with
    | none => simp [hu] at h2
    | some D => cases D <;> simp [hu] at h2 <;> simp [execOp, Instr.typeAssert, ha.eval hx, underlying, hu, hne', zero_run hz.out]⟩
theorem toList_inj {s r : ByteArray} : s.toList = r.toList ↔ s = r := by
  rw [ByteArray.toList_eq, ByteArray.toList_eq]
  constructor
  · intro h
    cases s; cases r
    simp only [ByteArray.mk.injEq]
    exact Array.ext' h
  · intro h; rw [h]
theorem EV_strEq {t u : TypeId} {s r : ByteArray} (hx : ev M x = some (.string s)) (hy : ev M y = some (.string r)) :
    EV P n ⟨some d, .binOp .eql t x y u, ty, ps, af, g⟩ M L d (.bool (decide (s = r))) :=
  ⟨rfl, fun a w ha _ => by
    have e : (s.toList == r.toList) = decide (s = r) := by rw [Bool.eq_iff_iff]; simp [toList_inj]
    simp [execOp, ha.eval hx, ha.eval hy, eqGuard, binOp, Op.stringOp, e]⟩
theorem EV_strNe {t u : TypeId} {s r : ByteArray} (hx : ev M x = some (.string s)) (hy : ev M y = some (.string r)) :
    EV P n ⟨some d, .binOp .neq t x y u, ty, ps, af, g⟩ M L d (.bool (!decide (s = r))) :=
  ⟨rfl, fun a w ha _ => by
    have e : (s.toList == r.toList) = decide (s = r) := by rw [Bool.eq_iff_iff]; simp [toList_inj]
    simp [execOp, ha.eval hx, ha.eval hy, eqGuard, binOp, Op.stringOp, e]⟩
theorem EV_strLt {t u : TypeId} {s r : ByteArray} (hx : ev M x = some (.string s)) (hy : ev M y = some (.string r)) :
    EV P n ⟨some d, .binOp .lss t x y u, ty, ps, af, g⟩ M L d (.bool (Op.bytesLess s.toList r.toList)) :=
  ⟨rfl, fun a w ha _ => by simp [execOp, ha.eval hx, ha.eval hy, eqGuard, binOp, Op.stringOp]⟩
theorem EV_strCat {t u : TypeId} {s r : ByteArray} (hx : ev M x = some (.string s)) (hy : ev M y = some (.string r)) (hs : s.size + r.size ≤ 9223372036854775807) :
    EV P n ⟨some d, .binOp .add t x y u, ty, ps, af, g⟩ M L d (.string (s ++ r)) :=
  ⟨rfl, fun a w ha _ => by
    simp [execOp, ha.eval hx, ha.eval hy, eqGuard, binOp, Op.stringOp]
    omega⟩
theorem EV_convII {s t : Nat} {k k' : IntKind} [h1 : IK P s k] [h2 : IK P t k'] {i r : Int} (hx : ev M x = some (.int k i)) (hr : k'.wrap i = r) :
    EV P n ⟨some d, .convert s t x, ty, ps, af, g⟩ M L d (.int k' r) :=
  ⟨rfl, fun a w ha _ => by
    simp [execOp, ha.eval hx, convert, underlying, h1.out, h2.out, Conv.intToInt, hr]⟩
theorem EV_shr {t u : TypeId} {k k' : IntKind} {i j r : Int} (hx : ev M x = some (.int k i)) (hy : ev M y = some (.int k' j)) (hj : 0 ≤ j) (hr : i.fdiv (2 ^ (min j.toNat k.bits)) = r)
    : EV P n ⟨some d, .binOp .shr t x y u, ty, ps, af, g⟩ M L d (.int k r) :=
  ⟨rfl, fun a w ha _ => by
    have : ¬ j < 0 := by omega
    simp [execOp, ha.eval hx, ha.eval hy, eqGuard, binOp, Op.shift, this, hr]⟩
omit [W0] in
/-- A slice that can be read: what its elements hold. -/
def Sl (L : List Chunk) (k : Nat) (v : Value) (m : Nat) (xs : List Value) : Prop :=
  (∃ c, v = .slice none 0 c ∧ m = 0 ∧ xs = []) ∨ ∃ a cap, v = .slice (some a) m cap ∧ RdAt L a xs ∧ xs.length = m * k
omit [W0] in
/-- A chunk stands between two parts. -/
inductive Zip (C : Chunk) : List Chunk → List Chunk → List Chunk → Prop
  | here (B) : Zip C (C :: B) [] B
  | there (D) {L A B} : Zip C L A B → Zip C (D :: L) (D :: A) B
theorem Zip.eq {C : Chunk} {L A B : List Chunk} (h : Zip C L A B) : L = A ++ C :: B := by
  induction h with
  | here B => rfl
  | there D _ ih => simp [ih]
theorem Upd.front {L0 : List Chunk} {b : Nat} {o o' : Obj} : Upd ([(b, o)] :: L0) b o o' ([(b, o')] :: L0) := .here
theorem Fnd.perm {L L' : List Chunk} {b : Nat} {o : Obj} (h : Fnd L b o) (hp : L.Perm L') : Fnd L' b o := hp.flatten.mem_iff.1 h
theorem RdAt.perm {L L' : List Chunk} {a : Addr} {vs : List Value} (h : RdAt L a vs) (hp : L.Perm L') : RdAt L' a vs := by
  rcases h with h | ⟨b, off, c, T, fr, h1, h2, h3⟩
  · exact .inl h
  · exact .inr ⟨b, off, c, T, fr, h1, h2.perm hp, h3⟩
theorem Sl.perm {L L' : List Chunk} {k m : Nat} {v : Value} {xs : List Value} (h : Sl L k v m xs) (hp : L.Perm L') : Sl L' k v m xs := by
  rcases h with h | ⟨a, cap, h1, h2, h3⟩
  · exact .inl h
  · exact .inr ⟨a, cap, h1, h2.perm hp, h3⟩
theorem WC_loop {X : Type} {c : Code} (MI : X → List (Nat × Value)) (LI : X → List Chunk) (J : X → Prop) (μ : X → Nat) (x0 : X) (hJ : J x0) (hM : Sub (MI x0) M) (hL : ∀ w, Holds w L → Holds w (LI x0))
    (hround : ∀ x, J x → WC P n c (Exit.then (fun a' w' => ∃ x', μ x' < μ x ∧ J x' ∧ St n (MI x') a' ∧ Holds w' (LI x')) Q) (MI x) (LI x)) : WC P n (.loop c) Q M L := ⟨fun a w ha hw => by
  intro b k cs
  have key : ∀ m x, μ x = m → J x → ∀ a w, St n (MI x) a → Holds w (LI x) →
      ∃ e a' w', Q e a' w' ∧ Arrives P (lone (b.at a (.code c :: .inLoop c :: k)) cs w) b k cs e a' w' := by
    intro m
    induction m using Nat.strongRecOn with
    | _ m ih =>
      intro x hm hx a w ha hw
      obtain ⟨e, a₁, w₁, hq, harr⟩ := (hround x hx).out a w ha hw b (.inLoop c :: k) cs
      subst hm
      cases e with
      | normal =>
        obtain ⟨x', hlt, hJ', ha', hw'⟩ := hq
        obtain ⟨e₂, a₂, w₂, hq₂, harr₂⟩ := ih (μ x') hlt x' rfl hJ' a₁ w₁ ha' hw'
        exact ⟨e₂, a₂, w₂, hq₂, .of_steps (Steps.trans harr (.one step_inLoop)) harr₂⟩
      | exit id => exact ⟨_, a₁, w₁, hq, .pass (x := .inLoop c) rfl (fun _ _ => .inl (by simp)) harr⟩
      | goto l => exact ⟨_, a₁, w₁, hq, .pass (x := .inLoop c) rfl (fun _ _ => .inl (by simp)) harr⟩
      | ret => exact ⟨_, a₁, w₁, hq, .pass (x := .inLoop c) rfl (fun _ _ => .inl (by simp)) harr⟩
      | panic ch => exact ⟨_, a₁, w₁, hq, .pass (x := .inLoop c) rfl (fun _ _ => .inl (by simp)) harr⟩
      | outgrown => exact ⟨_, a₁, w₁, hq, .pass (x := .inLoop c) rfl (fun _ _ => .inl (by simp)) harr⟩
  obtain ⟨e, a', w', hq, harr⟩ := key _ x0 rfl hJ a w (ha.sub hM) (hL w hw)
  exact ⟨e, a', w', hq, .of_steps (.one step_loop) harr⟩⟩
theorem WQ_round {X : Type} {MI : X → List (Nat × Value)} {LI : X → List Chunk} {J : X → Prop} {μ : X → Nat} {x : X} (x' : X) (hlt : μ x' < μ x) (hJ : J x') (hM : Sub (MI x') M) (hL : ∀ w, Holds w L → Holds w (LI x')) :
    WQ n (fun a' w' => ∃ x', μ x' < μ x ∧ J x' ∧ St n (MI x') a' ∧ Holds w' (LI x')) M L := ⟨fun _ w ha hw => ⟨x', hlt, hJ, ha.sub hM, hL w hw⟩⟩
end
end Go.Vx
namespace Go.Vx
open Go
set_option linter.all false
variable [W0]
section
variable {P : Program} {ops : Array Oper} {Q : Exit → Act → World → Prop} {md : Region.Mode} {S : World → Prop} {T : List Nat}
omit [W0] in
/-- Whatever order is picked from here on, and S holds behind every operation that is not on the list T. -/
def wpAnyT (P : Program) (md : Region.Mode) (ops : Array Oper) (Q : Exit → Act → World → Prop) (S : World → Prop) (T : List Nat) : Nat → Array Bool → Act → World → Prop
  | 0, listed, a, w => Region.ready md ops listed = [] ∧ Q .normal a w
  | fuel + 1, listed, a, w =>
    (Region.ready md ops listed = [] → Q .normal a w) ∧
    ∀ i ∈ Region.ready md ops listed, wpOp P ops Q i (fun a' w' => (i ∉ T → S w') ∧ wpAnyT P md ops Q S T fuel (listed.setIfInBounds i true) a' w') a w
theorem wpAny_of_T : ∀ (fuel : Nat) (listed : Array Bool) (a : Act) (w : World), wpAnyT P md ops Q S T fuel listed a w → wpAny P md ops Q fuel listed a w
  | 0, _, _, _, h => h
  | fuel + 1, _, _, _, h => ⟨h.1, fun i hi => wpOp_mono (fun a' w' h' => wpAny_of_T fuel _ a' w' h'.2) (h.2 i hi)⟩
omit [W0] in
/-- i waits for nothing that j does not wait for: i must have come up before j may. -/
def ancB (md : Region.Mode) (ops : Array Oper) (i : Nat) : Nat → Nat → Bool
  | 0, _ => false
  | f + 1, j => match ops[j]? with
    | some o => (o.after.any fun e => Region.binds md e && e.on == i) || o.after.any fun e => Region.binds md e && ancB md ops i f e.on
    | none => false
omit [W0] in
/-- What has come up waited for what has come up. -/
def DC (md : Region.Mode) (ops : Array Oper) (listed : Array Bool) : Prop :=
  ∀ k o, ops[k]? = some o → listed.getD k false = true → ∀ e ∈ o.after, Region.binds md e = true → listed.getD e.on false = true
omit [W0] in
def dcB (md : Region.Mode) (ops : Array Oper) (listed : Array Bool) : Bool :=
  (List.range ops.size).all fun k => !listed.getD k false || match ops[k]? with
    | some o => o.after.all fun e => !Region.binds md e || listed.getD e.on false
    | none => true
theorem DC.of {listed : Array Bool} (h : dcB md ops listed = true) : DC md ops listed := by
  intro k o hk hl e he hb
  simp only [dcB, List.all_eq_true, List.mem_range] at h
  have h1 := h k (Array.getElem?_eq_some_iff.1 hk).1
  rw [hl, hk] at h1
  simp only [Bool.not_true, Bool.false_or] at h1
  have h2 := Array.all_eq_true_iff_forall_mem.1 h1 e he
  simpa [hb] using h2
theorem ancB_spec {i : Nat} {listed : Array Bool} (hd : DC md ops listed) : ∀ (f j : Nat) (o : Oper), ancB md ops i f j = true → ops[j]? = some o →
    (∀ e ∈ o.after, Region.binds md e = true → listed.getD e.on false = true) → listed.getD i false = true := by
  intro f
  induction f with
  | zero => intro j o h; simp [ancB] at h
  | succ f ih =>
    intro j o h hj hall
    simp only [ancB, hj, Bool.or_eq_true] at h
    rcases h with h | h
    · rw [← Array.any_toList, List.any_eq_true] at h
      obtain ⟨e, he, hh⟩ := h
      rw [Array.mem_toList_iff] at he
      simp only [Bool.and_eq_true, beq_iff_eq] at hh
      rw [← hh.2]
      exact hall e he hh.1
    · rw [← Array.any_toList, List.any_eq_true] at h
      obtain ⟨e, he, hh⟩ := h
      rw [Array.mem_toList_iff] at he
      simp only [Bool.and_eq_true] at hh
      obtain ⟨hb, h2⟩ := hh
      have hl := hall e he hb
      cases hk : ops[e.on]? with
      | none => cases f <;> simp [ancB, hk] at h2
      | some o' => exact ih e.on o' h2 hk (hd e.on o' hk hl)
theorem DC.set {listed : Array Bool} {j : Nat} (hd : DC md ops listed) (hj : j ∈ Region.ready md ops listed) : DC md ops (listed.setIfInBounds j true) := by
  intro k o hk hl e he hb
  obtain ⟨_, oj, hoj, hall⟩ := mem_ready.1 hj
  by_cases hjk : j = k
  · subst hjk
    rw [hoj] at hk
    cases hk
    exact getD_set_true (hall e he hb)
  · rw [getD_set_ne false hjk] at hl
    exact getD_set_true (hd k o hk hl e he hb)
theorem listed_both {i : Nat} {listed : Array Bool} (h0 : listed.getD i true = false) (h1 : listed.getD i false = true) : False := by
  rcases Nat.lt_or_ge i listed.size with h' | h'
  · simp [h'] at h0 h1; rw [h0] at h1; cases h1
  · simp [Array.getElem?_eq_none h'] at h1
theorem wpAnyT_first {i : Nat} {oi : Oper} {v : Value} (hi : ops[i]? = some oi) (hsel : ∀ (j : Nat) (o : Oper) cs b, ops[j]? = some o → o.op ≠ .select cs b)
    (hQ : ∀ c a w, Q (.panic c) (a.put oi.dst v) w → Q (.panic c) a w) (hT : ∀ j ∈ T, j ≠ i → ∃ f, ancB md ops i f j = true) :
    ∀ (fuel : Nat) (listed : Array Bool) (a : Act) (w : World),
      (∀ j oj, ops[j]? = some oj → j ≠ i → listed.getD j true = false → (∀ e ∈ oj.after, Region.binds md e = true → e.on ≠ i) → oi.apart ops oj = true) → DC md ops listed →
      i ∈ Region.ready md ops listed → YieldsIf P ops S oi v a → S w →
      wpAnyT P md ops Q S T fuel (listed.setIfInBounds i true) (a.put oi.dst v) w → wpAnyT P md ops Q S T (fuel + 1) listed a w := by
  intro fuel
  induction fuel with
  | zero =>
    intro listed a w _ _ hr hy hS H
    refine ⟨fun h => (by rw [h] at hr; cases hr), fun j hj => ?_⟩
    by_cases hji : j = i
    · subst hji; exact hy.wpOp hi hS ⟨fun _ => hS, H⟩
    · have := ready_mono hj hji
      rw [H.1] at this
      cases this
  | succ fuel ih =>
    intro listed a w hfree hdc hr hy hS H
    refine ⟨fun h => (by rw [h] at hr; cases hr), fun j hj => ?_⟩
    by_cases hji : j = i
    · subst hji; exact hy.wpOp hi hS ⟨fun _ => hS, H⟩
    · have h1 := H.2 j (ready_mono hj hji)
      obtain ⟨hjun, oj, hoj, hall⟩ := mem_ready.1 hj
      have hun := (mem_ready.1 hr).1
      have hnot : ∀ e ∈ oj.after, Region.binds md e = true → e.on ≠ i := fun e he hb heq => by
        have h1 := hall e he hb
        rw [heq] at h1
        exact listed_both hun h1
      have hnT : j ∉ T := fun hm => by
        obtain ⟨f, hf⟩ := hT j hm hji
        exact listed_both hun (ancB_spec hdc f j oj hf hoj hall)
      have h2 := wpOp_putIf hoj (hfree j oj hoj hji hjun hnot) (fun cs b => hsel i oi cs b hi) (fun cs b => hsel j oj cs b hoj) hQ hy h1
      have hfree' : ∀ k ok, ops[k]? = some ok → k ≠ i → (listed.setIfInBounds j true).getD k true = false →
          (∀ e ∈ ok.after, Region.binds md e = true → e.on ≠ i) → oi.apart ops ok = true := fun k ok hk hki hun hno => by
        refine hfree k ok hk hki ?_ hno
        by_cases hjk : j = k
        · subst hjk; exact hjun
        · rw [getD_set_ne true hjk] at hun; exact hun
      refine wpOp_mono (fun a' w' h3 => ⟨fun _ => h3.2.1 hnT, ih (listed.setIfInBounds j true) a' w' hfree' (hdc.set hj) (ready_mono hr (Ne.symm hji)) h3.1 (h3.2.1 hnT) ?_⟩) h2
      rw [Array.setIfInBounds_comm _ _ hji]
      exact h3.2.2
end
omit [W0] in
/-- Where a panic ends, the slots do not matter. -/
structure PO (Q : Exit → Act → World → Prop) : Prop where
  out : ∀ c (a : Act) d v w, Q (.panic c) (a.put d v) w → Q (.panic c) a w
theorem PO.then {Q : Exit → Act → World → Prop} {K : Act → World → Prop} (h : PO Q) : PO (Exit.then K Q) := ⟨h.out⟩
theorem PO.block {Q : Exit → Act → World → Prop} {i : Nat} (h : PO Q) : PO (Exit.inBlock i Q) := ⟨h.out⟩
theorem put_defers' {a : Act} {d : Option Tmp} {v : Value} : (a.put d v).defers = a.defers := by cases d <;> rfl
theorem PO.body {P : Program} {fn : Func} {R : Ending → World → Prop} : PO (bodyPost P fn R) := ⟨fun c a d v w h => by
  obtain ⟨h1, h2⟩ := h
  exact ⟨by rw [put_defers'] at h1; exact h1, h2⟩⟩
omit [W0] in
/-- All chunks of the first list are among the second's. -/
structure Inc (S L : List Chunk) : Prop where
  out : ∃ R, L.Perm (S ++ R)
theorem Inc.nil {L : List Chunk} : Inc [] L := ⟨L, .refl _⟩
theorem Inc.cons {C : Chunk} {S L L' : List Chunk} (ht : Take C L L') (h : Inc S L') : Inc (C :: S) L := by
  obtain ⟨R, hR⟩ := h.out
  exact ⟨R, ht.perm.trans (hR.cons C)⟩
theorem Inc.skip {C : Chunk} {S L : List Chunk} (h : Inc S L) : Inc S (C :: L) := by
  obtain ⟨R, hR⟩ := h.out
  exact ⟨C :: R, (hR.cons C).trans List.perm_middle.symm⟩
theorem Inc.refl {L : List Chunk} : Inc L L := ⟨[], by simp⟩
theorem Holds.front {w : World} {S R : List Chunk} (h : Holds w (S ++ R)) : Holds w S := by
  refine ⟨?_, fun x hx => h.2.1 x (by simp only [List.flatten_append, List.mem_append]; exact .inl hx), h.2.2⟩
  have := h.1
  simp only [List.flatten_append, List.map_append, List.nodup_append] at this
  exact this.1
theorem Inc.holds {S L : List Chunk} (h : Inc S L) {w : World} (hw : Holds w L) : Holds w S := by
  obtain ⟨R, hR⟩ := h.out
  exact (hw.perm hR).front
structure WR (P : Program) (n : Nat) (ops : List Oper) (Q : Exit → Act → World → Prop) (S : List Chunk) (T : List Nat) (fuel : Nat) (listed : Array Bool) (M : List (Nat × Value)) (L : List Chunk) : Prop where
  out : ∀ a w, St n M a → Holds w L → wpAnyT P .any ops.toArray Q (fun w => Holds w S) T fuel listed a w
structure WRk (P : Program) (n : Nat) (ops : List Oper) (Q : Exit → Act → World → Prop) (S : List Chunk) (T : List Nat) (fuel : Nat) (listed : Array Bool) (M : List (Nat × Value)) (L : List Chunk) : Prop where
  inc : Inc S L
  out : WR P n ops Q S T fuel listed M L
section
variable {P : Program} {n : Nat} {Q : Exit → Act → World → Prop} {M : List (Nat × Value)} {L S : List Chunk} {ops : List Oper} {T : List Nat} {fuel : Nat} {listed : Array Bool}
theorem WC_draw (S : List Chunk) (T : List Nat) {id : Nat} (hm : P.follows .mixedOrders = true) (h : WR P n ops Q S T ops.length (Array.replicate ops.length false) M L) : WC P n (.region id ops.toArray true) Q M L := ⟨fun a w ha hw => by
  refine wp_region_any hm (wpAny_of_T (S := fun w => Holds w S) (T := T) _ _ _ _ ?_)
  have := h.out a { w with drawn := w.drawn + 1 } ha (hw.same rfl rfl rfl)
  simpa using this⟩
theorem WC_drawAll (T : List Nat) {id : Nat} (hm : P.follows .mixedOrders = true) (h : WR P n ops Q L T ops.length (Array.replicate ops.length false) M L) : WC P n (.region id ops.toArray true) Q M L := WC_draw L T hm h
theorem WR_done (hr : Region.ready .any ops.toArray listed = []) (h : WQ n (Q .normal) M L) : WR P n ops Q S T fuel listed M L := ⟨fun a w ha hw => by
  cases fuel with
  | zero => exact ⟨hr, h.out a w ha hw⟩
  | succ f => exact ⟨fun _ => h.out a w ha hw, by rw [hr]; simp⟩⟩
omit [W0] in
/-- The ground for taking number i first. -/
def takeB (ops : List Oper) (T : List Nat) (listed : Array Bool) (i : Nat) : Bool :=
  Region.noSelect ops.toArray && Region.free .any ops.toArray listed i && (Region.ready .any ops.toArray listed).contains i && dcB .any ops.toArray listed
    && T.all fun j => j == i || ancB .any ops.toArray i ops.length j
theorem WR_first {i d : Nat} {o : Oper} {v : Value} (hi : ops[i]? = some o) (hd : o.dst = some d) (hb : takeB ops T listed i = true) (hPO : PO Q) (hinc : Inc S L) (hn : Nat.blt d n = true)
    (hy : ∀ a, St n M a → YieldsIf P ops.toArray (fun w => Holds w S) o v a)
    (h : WR P n ops Q S T fuel (listed.setIfInBounds i true) ((d, v) :: M) L) : WR P n ops Q S T (fuel + 1) listed M L := ⟨fun a w ha hw => by
  simp only [takeB, Bool.and_eq_true, List.all_eq_true, Bool.or_eq_true, beq_iff_eq] at hb
  obtain ⟨⟨⟨⟨h1, h2⟩, h3⟩, h4⟩, h5⟩ := hb
  have hi' : ops.toArray[i]? = some o := by simpa using hi
  refine wpAnyT_first hi' (Region.noSelect_spec h1) (fun c a w hq => hPO.out c a _ _ w hq) (fun j hj hne => ⟨ops.length, (h5 j hj).resolve_left hne⟩) fuel listed a w (Region.free_spec hi' h2) (DC.of h4) (by simpa using h3) (hy a ha) (hinc.holds hw) ?_
  rw [hd]
  exact h.out _ w (ha.put v hn) hw⟩
theorem WR_take (i : Nat) {d : Nat} {o : Oper} {v : Value} (hi : ops[i]? = some o) (hg : o.guard = none) (hb : takeB ops T listed i = true) (hPO : PO Q) (hinc : Inc S L) (he : EV P n o M S d v) (hn : Nat.blt d n = true)
    (h : WR P n ops Q S T fuel (listed.setIfInBounds i true) ((d, v) :: M) L) : WR P n ops Q S T (fuel + 1) listed M L :=
  WR_first hi he.dst hb hPO hinc hn (fun a ha => .inl ⟨by simp [Region.wanted, hg], fun w hw => he.run a w ha hw⟩) h
theorem WR_takeOn (i : Nat) {d j : Nat} {b : Bool} {o : Oper} {v : Value} (hi : ops[i]? = some o) (hg : o.guard = some (j, b)) (hy : yl ops M j = some (.bool b)) (hb : takeB ops T listed i = true) (hPO : PO Q) (hinc : Inc S L) (he : EV P n o M S d v) (hn : Nat.blt d n = true)
    (h : WR P n ops Q S T fuel (listed.setIfInBounds i true) ((d, v) :: M) L) : WR P n ops Q S T (fuel + 1) listed M L :=
  WR_first hi he.dst hb hPO hinc hn (fun a ha => .inl ⟨by simp [Region.wanted, hg, yielded_of ha hy], fun w hw => he.run a w ha hw⟩) h
theorem WR_takeOff (i : Nat) {d j : Nat} {b : Bool} {o : Oper} (hi : ops[i]? = some o) (hg : o.guard = some (j, b)) (hy : yl ops M j = some (.bool (!b))) (hd : o.dst = some d) (hb : takeB ops T listed i = true) (hPO : PO Q) (hinc : Inc S L) (hn : Nat.blt d n = true)
    (h : WR P n ops Q S T fuel (listed.setIfInBounds i true) ((d, undef) :: M) L) : WR P n ops Q S T (fuel + 1) listed M L :=
  WR_first hi hd hb hPO hinc hn (fun a ha => .inr ⟨by simp [Region.wanted, hg, yielded_of ha hy], rfl⟩) h
theorem WR_one (i : Nat) {o : Oper} (hr : Region.ready .any ops.toArray listed = [i]) (hi : ops[i]? = some o) (hg : o.guard = none) (h : OW P n o (WRk P n ops Q S T fuel (listed.setIfInBounds i true)) M L) : WR P n ops Q S T (fuel + 1) listed M L := ⟨fun a w ha hw => by
  refine ⟨fun h0 => absurd (hr ▸ h0) (by simp), fun j hj => ?_⟩
  rw [hr] at hj
  simp only [List.mem_singleton] at hj
  subst hj
  unfold wpOp
  simp only [List.getElem?_toArray, hi]
  rw [if_pos (by simp [Region.wanted, hg])]
  exact .inl (h.out a w _ Q ha hw fun M' L' hk => ⟨fun a' w' ha' hw' => ⟨fun _ => hk.inc.holds hw', hk.out.out a' w' ha' hw'⟩⟩)⟩
theorem WR_last (i : Nat) {o : Oper} (hr : Region.ready .any ops.toArray listed = [i]) (hT : T.contains i = true) (hi : ops[i]? = some o) (hg : o.guard = none) (h : OW P n o (WR P n ops Q S T fuel (listed.setIfInBounds i true)) M L) : WR P n ops Q S T (fuel + 1) listed M L := ⟨fun a w ha hw => by
  refine ⟨fun h0 => absurd (hr ▸ h0) (by simp), fun j hj => ?_⟩
  rw [hr] at hj
  simp only [List.mem_singleton] at hj
  subst hj
  unfold wpOp
  simp only [List.getElem?_toArray, hi]
  rw [if_pos (by simp [Region.wanted, hg])]
  have hm : j ∈ T := by simpa using hT
  exact .inl (h.out a w _ Q ha hw fun M' L' hk => ⟨fun a' w' ha' hw' => ⟨fun hn => absurd hm hn, hk.out a' w' ha' hw'⟩⟩)⟩
theorem WQ_retI {fn : Func} {post : Value → List Chunk → Prop} {rs : List ResultVar} {vs : List Value} (hr : fn.results = rs.toArray) (h : resT M rs = some vs) (hp : ∃ L', Inc L' L ∧ post (tupled vs) L') :
    WQ n (bodyPost P fn (fun e w' => ∃ v L', e = .returned v ∧ post v L' ∧ Holds w' L') .ret) M L := ⟨fun _ _ ha hw => by
  obtain ⟨L', hi, hp⟩ := hp
  exact ⟨ha.defers, tupled vs, results_run ha hr h, _, L', rfl, hp, hi.holds hw⟩⟩
theorem WQ_endI {fn : Func} {post : Value → List Chunk → Prop} {rs : List ResultVar} {vs : List Value} (hr : fn.results = rs.toArray) (h : resT M rs = some vs) (hp : ∃ L', Inc L' L ∧ post (tupled vs) L') :
    WQ n (bodyPost P fn (fun e w' => ∃ v L', e = .returned v ∧ post v L' ∧ Holds w' L') .normal) M L := ⟨fun _ _ ha hw => by
  obtain ⟨L', hi, hp⟩ := hp
  exact ⟨ha.defers, tupled vs, results_run ha hr h, _, L', rfl, hp, hi.holds hw⟩⟩
def GvP (P : Program) (f : FuncId) (args : Array Value) (L : List Chunk) (v : Value) : Prop := Gv P f args L (fun r L' => r = v ∧ L' = L)
theorem OW_callP {d : Nat} {ty : TypeId} {ps : String} {af : Array Edge} {g : Option (Nat × Bool)} {x : Operand} {v : Value} {K : List (Nat × Value) → List Chunk → Prop} {f : FuncId} [hb : BD P f] {xs : List Operand} {ats : Array TypeId} {first cap : Array Value} {vs : List Value} {args : Array Value}
    (hx : ev M x = some (.func (.func f) first cap)) (hvs : evs M xs = some vs) (hargs : first ++ vs.toArray ++ cap = args) (hspec : GvP P f args L v)
    (hn : Nat.blt d n = true) (h : K ((d, v) :: M) L) : OW P n ⟨some d, .call ⟨.value x, xs.toArray, ats⟩, ty, ps, af, g⟩ K M L :=
  OW_call hx hvs hargs hspec hn (fun v' L' hp => by obtain ⟨rfl, rfl⟩ := hp; exact h)
end
end Go.Vx
namespace Go.Vx
open Go
set_option linter.all false
variable [W0]
omit [W0] in
/-- Where a type's parts lie. -/
def plcs (P : Program) (t : Nat) : Option (List (Nat × Nat)) := match P.underlying t with
  | some (.struct fs) => fs.toList.mapM fun f => (P.info? f.type).map fun i => (f.offset, i.size)
  | _ => none
omit [W0] in
class BL (P : Program) (t : Nat) (pl : outParam (List (Nat × Nat))) : Prop where out : plcs P t = some pl
omit [W0] in
class PT (P : Program) (t : Nat) : Prop where out : ∃ e, P.underlying t = some (.pointer e)
omit [W0] in
class BB (P : Program) (t : Nat) : Prop where out : P.underlying t = some .bool
omit [W0] in
def fillL (pl : List (Nat × Nat)) : List Value → List (Nat × Value) → Option (List Value)
  | cells, [] => some cells
  | cells, (i, v) :: r => match pl[i]? with
    | none => none
    | some (off, size) => if v.cells.size = size ∧ off + size ≤ cells.length then fillL pl (patch cells off v.cells.toList) r else none
theorem foldl_set (vs : List Value) : ∀ (off j : Nat) (cs : Array Value), off + j + vs.length ≤ cs.size →
    (vs.zipIdx j).foldl (fun cs (x : Value × Nat) => cs.setIfInBounds (off + x.2) x.1) cs = (patch cs.toList (off + j) vs).toArray := by
  induction vs with
  | nil => intro off j cs _; simp [patch]
  | cons v r ih =>
    intro off j cs h
    simp only [List.length_cons] at h
    simp only [List.zipIdx_cons, List.foldl_cons]
    rw [ih off (j + 1) _ (by simp; omega)]
    apply Array.ext'
    have e := list_seg_step cs.toList (off + j) v r (by simp; omega)
    simpa [patch, Array.toList_setIfInBounds, Nat.add_assoc] using e
theorem fill_eq (pl : List (Nat × Nat)) : ∀ (parts : List (Nat × Value)) (cells : List Value) (cs : List Value), fillL pl cells parts = some cs → Instr.fill (pl.toArray[·]?) cells.toArray parts = some cs.toArray := by
  intro parts
  induction parts with
  | nil => intro cells cs h; simp [fillL] at h; subst h; simp [Instr.fill]
  | cons p r ih =>
    intro cells cs h
    obtain ⟨i, v⟩ := p
    unfold fillL at h
    cases hp : pl[i]? with
    | none => simp [hp] at h
    | some q =>
      obtain ⟨off, size⟩ := q
      simp only [hp] at h
      split at h
      · rename_i hc
        unfold Instr.fill
        simp only [List.getElem?_toArray, hp]
        rw [if_neg (by simp; omega)]
        have e : v.cells.zipIdx.foldl (fun cs (x : Value × Nat) => cs.setIfInBounds (off + x.2) x.1) cells.toArray = (patch cells off v.cells.toList).toArray := by
          have := foldl_set v.cells.toList off 0 cells.toArray (by simp; omega)
          rw [← Array.foldl_toList]
          simpa [Array.toList_zipIdx] using this
        have := ih _ cs h
        rw [← e] at this
        simpa using this
      · simp at h
omit [W0] in
/-- The parts' values. -/
def evp (M : List (Nat × Value)) : List (Nat × Operand) → Option (List (Nat × Value))
  | [] => some []
  | (i, x) :: r => match ev M x, evp M r with
    | some v, some vs => some ((i, v) :: vs)
    | _, _ => none
theorem St.evalp {n : Nat} {M : List (Nat × Value)} {a : Act} (h : St n M a) : ∀ {xs : List (Nat × Operand)} {vs : List (Nat × Value)}, evp M xs = some vs → xs.map (fun x => (x.1, a.eval x.2)) = vs
  | [], vs, he => by simp [evp] at he; subst he; rfl
  | (i, x) :: r, vs, he => by
    unfold evp at he
    split at he
    · rename_i v vs' h1 h2
      simp at he; subst he
      simp [h.eval h1, St.evalp h h2]
    · simp at he
section
variable {P : Program} {n : Nat} {Q : Exit → Act → World → Prop} {M : List (Nat × Value)} {L : List Chunk} {K : List (Nat × Value) → List Chunk → Prop}
variable {d : Nat} {ty : TypeId} {ps : String} {af : Array Edge} {g : Option (Nat × Bool)} {x y : Operand} {v : Value}
theorem mapM_places {fs : List Field} {pl : List (Nat × Nat)} (h : fs.mapM (fun f => (P.info? f.type).map fun i => (f.offset, i.size)) = some pl) (w : World) :
    (fs.mapM (m := Sem) fun f => do pure (f.offset, ← sizeOf f.type)).run P w = .ok pl w := by
  induction fs generalizing pl with
  | nil => simp at h; subst h; rfl
  | cons f r ih =>
    simp only [List.mapM_cons] at h
    cases hi : P.info? f.type with
    | none => simp [hi] at h
    | some i =>
      simp only [hi, Option.map_some, Option.pure_def, Option.bind_eq_bind, Option.bind_some] at h
      cases hr : r.mapM (fun f => (P.info? f.type).map fun i => (f.offset, i.size)) with
      | none => simp [hr] at h
      | some pl' =>
        simp [hr] at h
        subst h
        have h2 := ih hr
        have h3 := sizeOf_run (P := P) (t := f.type) (k := i.size) (by rw [hi]; rfl) w
        simp only [List.mapM_cons, Sem.run_bind, h3, Result.andThen_ok, Sem.run_pure, h2]
theorem EV_build {t : Nat} {pl : List (Nat × Nat)} {z : Value} [hb : BL P t pl] [hz : ZV P t z] {parts : List (Nat × Operand)} {pvs : List (Nat × Value)} {cs : List Value} (hp : evp M parts = some pvs)
    (hf : fillL pl z.cells.toList pvs = some cs) : EV P n ⟨some d, .build t parts.toArray, ty, ps, af, g⟩ M L d (.agg cs.toArray) :=
  ⟨rfl, fun a w ha _ => by
    have h1 := hb.out
    unfold plcs at h1
    split at h1
    · rename_i fs hu
      have hm := mapM_places (P := P) h1 w
      have hfill := fill_eq pl pvs z.cells.toList cs hf
      rw [Array.toArray_toList] at hfill
      simp only [List.getElem?_toArray] at hfill
      have hpe := ha.evalp hp
      simp only [execOp, Instr.build, Sem.run_bind, zero_run hz.out, run_underlying hu, Result.andThen_ok]
      rw [← Array.toArray_toList (xs := fs)]
      simp only [List.mapM_toArray, Sem.run_map, hm, Result.andThen_ok]
      simp [hpe, hfill]
    · simp at h1⟩
theorem run_equal_slice {T e : Nat} (hu : P.underlying T = some (.slice e)) (b : Option Addr) (len cap : Nat) (w : World) : (Op.equal T (.slice b len cap) (.slice none 0 0)).run P w = .ok b.isNone w := by
  unfold Op.equal
  rw [show Op.maxDepth = 9999 + 1 from rfl]
  unfold Op.equalIn
  cases b <;> simp [run_underlying hu]
theorem run_equal_ptr {T e : Nat} (hu : P.underlying T = some (.pointer e)) (b : Option Addr) (w : World) : (Op.equal T (.pointer b) (.pointer none)).run P w = .ok b.isNone w := by
  unfold Op.equal
  rw [show Op.maxDepth = 9999 + 1 from rfl]
  unfold Op.equalIn
  cases b <;> simp [run_underlying hu]
theorem run_equal_bool {T : Nat} (hu : P.underlying T = some .bool) (b c : Bool) (w : World) : (Op.equal T (.bool b) (.bool c)).run P w = .ok (b == c) w := by
  unfold Op.equal
  rw [show Op.maxDepth = 9999 + 1 from rfl]
  unfold Op.equalIn
  simp [run_underlying hu]
theorem EV_sliceEqNil {T e k by_ : Nat} [hs : SL P T e k by_] {b : Option Addr} {len cap : Nat} {u : TypeId} (hx : ev M x = some (.slice b len cap)) (hy : ev M y = some (.slice none 0 0)) :
    EV P n ⟨some d, .binOp .eql T x y u, ty, ps, af, g⟩ M L d (.bool b.isNone) :=
  ⟨rfl, fun a w ha _ => by
    obtain ⟨hu, _⟩ := hs.parts
    simp [execOp, ha.eval hx, ha.eval hy, eqGuard, binOp, run_equal_slice hu]⟩
theorem EV_sliceNeNil {T e k by_ : Nat} [hs : SL P T e k by_] {b : Option Addr} {len cap : Nat} {u : TypeId} (hx : ev M x = some (.slice b len cap)) (hy : ev M y = some (.slice none 0 0)) :
    EV P n ⟨some d, .binOp .neq T x y u, ty, ps, af, g⟩ M L d (.bool (!b.isNone)) :=
  ⟨rfl, fun a w ha _ => by
    obtain ⟨hu, _⟩ := hs.parts
    simp [execOp, ha.eval hx, ha.eval hy, eqGuard, binOp, run_equal_slice hu]⟩
theorem EV_ptrEqNil {T : Nat} [hs : PT P T] {b : Option Addr} {u : TypeId} (hx : ev M x = some (.pointer b)) (hy : ev M y = some (.pointer none)) :
    EV P n ⟨some d, .binOp .eql T x y u, ty, ps, af, g⟩ M L d (.bool b.isNone) :=
  ⟨rfl, fun a w ha _ => by
    obtain ⟨e, hu⟩ := hs.out
    simp [execOp, ha.eval hx, ha.eval hy, eqGuard, binOp, run_equal_ptr hu]⟩
theorem EV_ptrNeNil {T : Nat} [hs : PT P T] {b : Option Addr} {u : TypeId} (hx : ev M x = some (.pointer b)) (hy : ev M y = some (.pointer none)) :
    EV P n ⟨some d, .binOp .neq T x y u, ty, ps, af, g⟩ M L d (.bool (!b.isNone)) :=
  ⟨rfl, fun a w ha _ => by
    obtain ⟨e, hu⟩ := hs.out
    simp [execOp, ha.eval hx, ha.eval hy, eqGuard, binOp, run_equal_ptr hu]⟩
theorem EV_boolEq {t : Nat} {u : TypeId} {b c : Bool} [hb : BB P t] (hx : ev M x = some (.bool b)) (hy : ev M y = some (.bool c)) :
    EV P n ⟨some d, .binOp .eql t x y u, ty, ps, af, g⟩ M L d (.bool (b == c)) :=
  ⟨rfl, fun a w ha _ => by
    simp [execOp, ha.eval hx, ha.eval hy, eqGuard, binOp, run_equal_bool hb.out]⟩
theorem EV_boolNe {t : Nat} {u : TypeId} {b c : Bool} [hb : BB P t] (hx : ev M x = some (.bool b)) (hy : ev M y = some (.bool c)) :
    EV P n ⟨some d, .binOp .neq t x y u, ty, ps, af, g⟩ M L d (.bool (b != c)) :=
  ⟨rfl, fun a w ha _ => by
    simp [execOp, ha.eval hx, ha.eval hy, eqGuard, binOp, run_equal_bool hb.out, bne]⟩
omit [W0] in
/-- A string's bytes as cells. -/
def bsv (l : List UInt8) : List Value := l.map fun b => .int .u8 (b.toNat : Int)
theorem bsv_length {l : List UInt8} : (bsv l).length = l.length := by simp [bsv]
theorem freeze_os (w : World) (a : Addr) (m : Nat) : (w.freeze a m).os = w.os ∧ (w.freeze a m).output = w.output := by
  unfold World.freeze; split <;> exact ⟨rfl, rfl⟩
theorem OW_extern {f : FuncId} {fn : Func} {xs : List Operand} {ats : Array TypeId} {vs : List Value} {e : Array Value → Sem Value} (hx : ev M x = some (.func (.func f) #[] #[])) (hvs : evs M xs = some vs) (hf : P.funcs[f]? = some fn) (hname : (fn.name == "runtime.NumGoroutine") = false)
    (hb : fn.body.isNone = true) (hnx : Extern.findNext fn = none) (he : Extern.find fn = some e) (hr : ∀ w, Holds w L → (e vs.toArray).run P w = .ok v w) : EV P n ⟨some d, .call ⟨.value x, xs.toArray, ats⟩, ty, ps, af, g⟩ M L d v :=
  ⟨rfl, fun a w ha hw => by
    have hm : Array.map a.eval xs.toArray = vs.toArray := by rw [← ha.evals hvs]; simp
    have h1 := run_callFunc_extern hf hname hb hnx he vs.toArray w
    rw [hr w hw] at h1
    simp only [execOp, resolve, ha.eval hx, hm, Deferred.ofValue, Sem.run_bind, Sem.run_pure, Result.andThen_ok, invoke, Array.append_empty, Array.empty_append, h1]⟩
theorem wrap_u64 {r : Int} (h1 : 0 ≤ r) (h2 : r ≤ 18446744073709551615) : IntKind.u64.wrap r = r := by
  simp [IntKind.wrap, IntKind.bits, IntKind.signed]
  omega
theorem shr_lit {a j m : Int} {k : IntKind} (h : 0 ≤ a) (hm : (2 : Int) ^ (min j.toNat k.bits) = m) : a.fdiv (2 ^ (min j.toNat k.bits)) = a / m := by
  rw [hm]
  subst hm
  exact Int.fdiv_eq_ediv_of_nonneg _ (Int.le_of_lt (Int.pow_pos (by decide)))
theorem lk_int {t : Nat} {k : IntKind} {a b : Int} (h : lk M t = some (.int k a)) (e : a = b) : lk M t = some (.int k b) := by rw [h, e]
theorem bnd_int {o : Operand} {dflt : Nat} {k : IntKind} {a b : Int} (h : ev M o = some (.int k a)) (e : a = b) : bnd M (some o) dflt = some b := by simp only [bnd, h, e]
omit [W0] in
def tkN : List Value → Nat → Option (List Value)
  | _, 0 => some []
  | [], _ + 1 => none
  | v :: r, m + 1 => match tkN r m with
    | some vs => some (v :: vs)
    | none => none
omit [W0] in
def dpN : List Value → Nat → List Value
  | l, 0 => l
  | [], _ + 1 => []
  | _ :: r, m + 1 => dpN r m
theorem dpN_eq : ∀ (l : List Value) (m : Nat), dpN l m = l.drop m
  | l, 0 => by simp [dpN]
  | [], m + 1 => by simp [dpN]
  | v :: r, m + 1 => by simp [dpN, dpN_eq r m]
theorem tkN_eq : ∀ {l : List Value} {m : Nat} {vs : List Value}, tkN l m = some vs → vs = l.take m ∧ vs.length = m
  | l, 0, vs, h => by simp [tkN] at h; subst h; simp
  | [], m + 1, vs, h => by simp [tkN] at h
  | v :: r, m + 1, vs, h => by
    unfold tkN at h
    split at h
    · rename_i us hu
      simp at h; subst h
      obtain ⟨h1, h2⟩ := tkN_eq hu
      simp [h1, h2]
      rw [← h2]; simp [h1]
    · simp at h
theorem EV_loadAggC {t k : Nat} [hag : AG P t k] {b off : Nat} {l vs : List Value} {T : TypeId} (hx : ev M x = some (.pointer (some ⟨b, off, none⟩))) (hf : Fnd L b (cl l T)) (hc : tkN (dpN l off) k = some vs) :
    EV P n ⟨some d, .load t x, ty, ps, af, g⟩ M L d (.agg vs.toArray) := by
  obtain ⟨h1, h2⟩ := tkN_eq hc
  rw [dpN_eq] at h1
  exact EV_loadAgg hx (RdAt.cl' hf (by unfold cut; rw [h2, h1])) h2
theorem OW_E {o : Oper} (h : K ((d, v) :: M) L) (he : EV P n o M L d v := by first | (show EV _ _ ⟨_, .move _, _, _, _, _⟩ _ _ _ _; first | exact EV_move rfl) | (show EV _ _ ⟨_, .assign _, _, _, _, _⟩ _ _ _ _; first | exact EV_assign rfl) | (show EV _ _ ⟨_, .nilCheck _, _, _, _, _⟩ _ _ _ _; first | exact EV_nilCheck rfl) | (show EV _ _ ⟨_, .fieldAddr .., _, _, _, _⟩ _ _ _ _; first | exact EV_fieldAddr0 rfl | exact EV_fieldAddr rfl) | (show EV _ _ ⟨_, .load .., _, _, _, _⟩ _ _ _ _; first | exact EV_loadc rfl (by repeat (first | assumption | exact Fnd.here | refine Fnd.there ?_)) rfl | exact EV_loadAggC rfl (by repeat (first | assumption | exact Fnd.here | refine Fnd.there ?_)) rfl) | (show EV _ _ ⟨_, .binOp .., _, _, _, _⟩ _ _ _ _; first | exact EV_cmp rfl rfl rfl | exact EV_ari64 rfl rfl rfl (by omega) | exact EV_shr rfl rfl (by decide) (shr_lit (by omega) (by simp [IntKind.bits]; rfl)) | exact EV_strEq rfl rfl | exact EV_strNe rfl rfl | exact EV_strLt rfl rfl | exact EV_sliceEqNil rfl rfl | exact EV_sliceNeNil rfl rfl | exact EV_ptrEqNil rfl rfl | exact EV_ptrNeNil rfl rfl | exact EV_boolEq rfl rfl | exact EV_boolNe rfl rfl) | (show EV _ _ ⟨_, .convert .., _, _, _, _⟩ _ _ _ _; first | exact EV_convII rfl (wrap_i64 (by omega) (by omega)) | exact EV_convII rfl (wrap_u64 (by omega) (by omega)) | exact EV_convII rfl rfl) | (show EV _ _ ⟨_, .extract .., _, _, _, _⟩ _ _ _ _; first | exact EV_extract rfl rfl) | (show EV _ _ ⟨_, .unOp .., _, _, _, _⟩ _ _ _ _; first | exact EV_not rfl) | (show EV _ _ ⟨_, .pick .., _, _, _, _⟩ _ _ _ _; first | exact EV_pick rfl rfl) | (show EV _ _ ⟨_, .call ⟨.builtin .len, _, _⟩, _, _, _, _⟩ _ _ _ _; first | exact EV_lenSl rfl | exact EV_lenStr rfl) | (show EV _ _ ⟨_, .call ⟨.builtin .cap, _, _⟩, _, _, _, _⟩ _ _ _ _; first | exact EV_capSl rfl) | (show EV _ _ ⟨_, .call ⟨.builtin .min, _, _⟩, _, _, _, _⟩ _ _ _ _; first | exact EV_min rfl rfl) | (show EV _ _ ⟨_, .call ⟨.builtin .max, _, _⟩, _, _, _, _⟩ _ _ _ _; first | exact EV_max rfl rfl) | (show EV _ _ ⟨_, .makeInterface .., _, _, _, _⟩ _ _ _ _; first | exact EV_makeInterface rfl) | (show EV _ _ ⟨_, .makeFunc .., _, _, _, _⟩ _ _ _ _; first | exact EV_makeFunc rfl rfl) | (show EV _ _ ⟨_, .typeAssert .., _, _, _, _⟩ _ _ _ _; first | exact EV_assertYes rfl | exact EV_assertNo rfl rfl) | (show EV _ _ ⟨_, .build .., _, _, _, _⟩ _ _ _ _; first | exact EV_build rfl (by simp [fillL, patch, Value.cells]; rfl))) (hn : Nat.blt d n = true := by exact rfl) : OW P n o K M L := OW_EV he hn h
theorem WR_t {S : List Chunk} {ops : List Oper} {T : List Nat} {fuel : Nat} {listed : Array Bool} (i : Nat) {o : Oper} (h : WR P n ops Q S T fuel (listed.setIfInBounds i true) ((d, v) :: M) L)
    (hi : ops[i]? = some o := by exact rfl) (hg : o.guard = none := by exact rfl) (hb : takeB ops T listed i = true := by kernel_rfl) (hPO : PO Q := by exact (by repeat (first | with_reducible exact PO.body | with_reducible exact RP_po | with_reducible refine PO.then ?_ | with_reducible refine PO.block ?_))) (hinc : Inc S L := by exact (by repeat (first | exact Inc.refl | exact Inc.nil | (show Inc (_ :: _) _; refine Inc.cons (by repeat (first | exact Take.here | apply Take.there)) ?_) | refine Inc.skip ?_))) (he : EV P n o M S d v := by exact (by first | (show EV _ _ ⟨_, .move _, _, _, _, _⟩ _ _ _ _; first | exact EV_move rfl) | (show EV _ _ ⟨_, .assign _, _, _, _, _⟩ _ _ _ _; first | exact EV_assign rfl) | (show EV _ _ ⟨_, .nilCheck _, _, _, _, _⟩ _ _ _ _; first | exact EV_nilCheck rfl) | (show EV _ _ ⟨_, .fieldAddr .., _, _, _, _⟩ _ _ _ _; first | exact EV_fieldAddr0 rfl | exact EV_fieldAddr rfl) | (show EV _ _ ⟨_, .load .., _, _, _, _⟩ _ _ _ _; first | exact EV_loadc rfl (by repeat (first | assumption | exact Fnd.here | refine Fnd.there ?_)) rfl | exact EV_loadAggC rfl (by repeat (first | assumption | exact Fnd.here | refine Fnd.there ?_)) rfl) | (show EV _ _ ⟨_, .binOp .., _, _, _, _⟩ _ _ _ _; first | exact EV_cmp rfl rfl rfl | exact EV_ari64 rfl rfl rfl (by omega) | exact EV_shr rfl rfl (by decide) (shr_lit (by omega) (by simp [IntKind.bits]; rfl)) | exact EV_strEq rfl rfl | exact EV_strNe rfl rfl | exact EV_strLt rfl rfl | exact EV_sliceEqNil rfl rfl | exact EV_sliceNeNil rfl rfl | exact EV_ptrEqNil rfl rfl | exact EV_ptrNeNil rfl rfl | exact EV_boolEq rfl rfl | exact EV_boolNe rfl rfl) | (show EV _ _ ⟨_, .convert .., _, _, _, _⟩ _ _ _ _; first | exact EV_convII rfl (wrap_i64 (by omega) (by omega)) | exact EV_convII rfl (wrap_u64 (by omega) (by omega)) | exact EV_convII rfl rfl) | (show EV _ _ ⟨_, .extract .., _, _, _, _⟩ _ _ _ _; first | exact EV_extract rfl rfl) | (show EV _ _ ⟨_, .unOp .., _, _, _, _⟩ _ _ _ _; first | exact EV_not rfl) | (show EV _ _ ⟨_, .pick .., _, _, _, _⟩ _ _ _ _; first | exact EV_pick rfl rfl) | (show EV _ _ ⟨_, .call ⟨.builtin .len, _, _⟩, _, _, _, _⟩ _ _ _ _; first | exact EV_lenSl rfl | exact EV_lenStr rfl) | (show EV _ _ ⟨_, .call ⟨.builtin .cap, _, _⟩, _, _, _, _⟩ _ _ _ _; first | exact EV_capSl rfl) | (show EV _ _ ⟨_, .call ⟨.builtin .min, _, _⟩, _, _, _, _⟩ _ _ _ _; first | exact EV_min rfl rfl) | (show EV _ _ ⟨_, .call ⟨.builtin .max, _, _⟩, _, _, _, _⟩ _ _ _ _; first | exact EV_max rfl rfl) | (show EV _ _ ⟨_, .makeInterface .., _, _, _, _⟩ _ _ _ _; first | exact EV_makeInterface rfl) | (show EV _ _ ⟨_, .makeFunc .., _, _, _, _⟩ _ _ _ _; first | exact EV_makeFunc rfl rfl) | (show EV _ _ ⟨_, .typeAssert .., _, _, _, _⟩ _ _ _ _; first | exact EV_assertYes rfl | exact EV_assertNo rfl rfl) | (show EV _ _ ⟨_, .build .., _, _, _, _⟩ _ _ _ _; first | exact EV_build rfl (by simp [fillL, patch, Value.cells]; rfl)))) (hn : Nat.blt d n = true := by exact rfl) :
    WR P n ops Q S T (fuel + 1) listed M L := WR_take i hi hg hb hPO hinc he hn h
theorem a0 {o : Oper} (he : EV P n o M L d v) (h : K ((d, v) :: M) L) (hn : Nat.blt d n = true := by exact rfl) : OW P n o K M L := OW_EV he hn h
end
theorem nrB : (∀ (p : Prop) [Decidable p], (decide p = true) = p) ∧ (∀ (p : Prop) [Decidable p], (decide p = false) = ¬ p) ∧
    (∀ {α : Type} [BEq α] [LawfulBEq α] (a b : α), ((a == b) = true) = (a = b)) ∧ (∀ {α : Type} [BEq α] [LawfulBEq α] (a b : α), ((a != b) = true) = ¬ (a = b)) ∧
    (∀ {α : Type} [BEq α] [LawfulBEq α] (a b : α), ((a == b) = false) = ¬ (a = b)) ∧ (∀ {α : Type} [BEq α] [LawfulBEq α] (a b : α), ((a != b) = false) = (a = b)) ∧
    (∀ b : Bool, ((!b) = true) = (b = false)) ∧ (∀ b : Bool, ((!b) = false) = (b = true)) ∧ (∀ b : Bool, (¬ (b = true)) = (b = false)) ∧
    (∀ a b : Bool, ((a && b) = true) = (a = true ∧ b = true)) ∧ (∀ a b : Bool, ((a || b) = true) = (a = true ∨ b = true)) ∧ (∀ a b : Bool, ((a || b) = false) = (a = false ∧ b = false)) ∧
    (∀ {α : Type} (a b : α), (a ≠ b) = ¬ (a = b)) ∧ (∀ b : Bool, (true != b) = !b) ∧ (∀ b : Bool, (false != b) = b) ∧ (∀ b : Bool, (b != true) = !b) ∧ (∀ b : Bool, (b != false) = b) := by
  refine ⟨fun p _ => by simp, fun p _ => by simp, fun a b => by simp, fun a b => by simp, fun a b => by simp, fun a b => by simp, fun b => by simp, fun b => by simp, fun b => by simp, fun a b => by simp, fun a b => by simp, fun a b => by simp, fun a b => rfl, fun b => by simp, fun b => by simp, fun b => by simp, fun b => by simp⟩
end Go.Vx
namespace Go.Vx
open Go
set_option linter.all false
variable [W0]
variable {P : Program}
theorem getE_app {l r : List Value} {i : Nat} {v : Value} (h : l[i]? = some v) : (l ++ r)[i]? = some v := by
  have : i < l.length := by
    rcases Nat.lt_or_ge i l.length with h' | h'
    · exact h'
    · simp [List.getElem?_eq_none h'] at h
  rw [List.getElem?_append_left this]; exact h
theorem rd_sub {L L' : List Chunk} (hs : ∀ x ∈ L.flatten, x ∈ L'.flatten) {a : Addr} {vs : List Value} (h : RdAt L a vs) : RdAt L' a vs := by
  rcases h with h | ⟨b, off, c, T, fr, e2, h7, h8⟩
  · exact .inl h
  · exact .inr ⟨b, off, c, T, fr, e2, hs _ h7, h8⟩
theorem sl_sub {L L' : List Chunk} (hs : ∀ x ∈ L.flatten, x ∈ L'.flatten) {k m : Nat} {v : Value} {xs : List Value} (h : Sl L k v m xs) : Sl L' k v m xs := by
  rcases h with h | ⟨a, cap, e1, h5, h6⟩
  · exact .inl h
  · exact .inr ⟨a, cap, e1, rd_sub hs h5, h6⟩
theorem sl_there {L : List Chunk} {C : Chunk} {k m : Nat} {v : Value} {xs : List Value} (h : Sl L k v m xs) : Sl (C :: L) k v m xs :=
  sl_sub (fun x hx => by simp only [List.flatten_cons, List.mem_append]; exact .inr hx) h
theorem GvP.of {f : FuncId} {args : Array Value} {L L' : List Chunk} {v : Value} (h : GvP P f args L' v) (h1 : Inc L' L) (h2 : Inc L L') : GvP P f args L v :=
  ⟨fun w hw => (h.out w (h1.holds hw)).mono fun _ _ he => by
    obtain ⟨v', L'', e1, ⟨e2, e3⟩, hw'⟩ := he
    subst e2 e3
    exact ⟨v', L, e1, ⟨rfl, rfl⟩, h2.holds hw'⟩⟩
theorem two {w : World} {A B : Chunk} {L : List Chunk} : Holds w ((A ++ B) :: L) ↔ Holds w (A :: B :: L) := by
  simp [Holds, List.append_assoc]
end Go.Vx
namespace Go.Vx
open Go
set_option linter.all false
variable [W0]
variable {P : Program}
inductive ResL (P : Program) (M : List (Nat × Value)) (L : List Chunk) : List ResultVar → List Value → Prop
  | nil : ResL P M L [] []
  | tmp {t : Nat} {v : Value} {rs : List ResultVar} {vs : List Value} : lk M t = some v → ResL P M L rs vs → ResL P M L (.tmp t :: rs) (v :: vs)
  | agg {x T k b off : Nat} {us : List Value} {rs : List ResultVar} {vs : List Value} : aggT P T = true ∧ (P.info? T).map (·.size) = some k → lk M x = some (.pointer (some ⟨b, off, none⟩)) → RdAt L ⟨b, off, none⟩ us → us.length = k → ResL P M L rs vs → ResL P M L (.cell x T :: rs) (.agg us.toArray :: vs)
  | one {x T b off : Nat} {l : List Value} {U : TypeId} {v : Value} {rs : List ResultVar} {vs : List Value} : aggB P T = false → lk M x = some (.pointer (some ⟨b, off, none⟩)) → Fnd L b (cl l U) → nth l off = some v → ResL P M L rs vs → ResL P M L (.cell x T :: rs) (v :: vs)
theorem resL_run {n : Nat} {M : List (Nat × Value)} {L : List Chunk} {a : Act} {w : World} (ha : St n M a) (hw : Holds w L) {rs : List ResultVar} {vs : List Value} (h : ResL P M L rs vs) :
    (rs.mapM (resOne a.tmps)).run P w = .ok vs w := by
  induction h with
  | nil => rfl
  | tmp h1 _ ih => simp [List.mapM_cons, ih, resOne, Array.getD_eq_getD_getElem?, ha.get _ _ h1]
  | @agg x T k b off us rs vs hT h1 h2 h3 _ ih =>
    have hrun := run_loadCells_list (P := P) w ⟨b, off, none⟩ us (h2.cells hw)
    rw [h3] at hrun
    simp [List.mapM_cons, ih, resOne, Array.getD_eq_getD_getElem?, ha.get _ _ h1, asAddr, loadVar, isAgg_true hT.1, sizeOf_run hT.2, hrun]
  | @one x T b off l U v rs vs hT h1 h2 h3 _ ih =>
    have hcell : w.cell? ⟨b, off, none⟩ = some v := by
      rw [cell_of (h2.get hw)]
      simpa [nth_eq] using h3
    simp [List.mapM_cons, ih, resOne, Array.getD_eq_getD_getElem?, ha.get _ _ h1, asAddr, loadVar, isAgg_false hT, hcell]
theorem resultsL_run {n : Nat} {M : List (Nat × Value)} {L : List Chunk} {a : Act} {w : World} {fn : Func} {rs : List ResultVar} {vs : List Value} (ha : St n M a) (hw : Holds w L) (hr : fn.results = rs.toArray) (h : ResL P M L rs vs) :
    (results fn a.tmps).run P w = .ok (tupled vs) w := by
  rw [results_eq, hr]
  simp only [List.mapM_toArray, Sem.run_bind, Sem.run_map, resL_run ha hw h, Result.andThen_ok, Sem.run_pure]
  match vs with
  | [] => simp [tupled]
  | [v] => simp [tupled]
  | v :: u :: r => simp [tupled]
theorem WQ_retC {n : Nat} {M : List (Nat × Value)} {L : List Chunk} {fn : Func} {post : Value → List Chunk → Prop} {rs : List ResultVar} {vs : List Value} (hr : fn.results = rs.toArray) (h : ResL P M L rs vs) (hp : ∃ L', (∀ w, Holds w L → Holds w L') ∧ post (tupled vs) L') :
    WQ n (bodyPost P fn (fun e w' => ∃ v L', e = .returned v ∧ post v L' ∧ Holds w' L') .ret) M L := ⟨fun _ w ha hw => by
  obtain ⟨L', hi, hp⟩ := hp
  exact ⟨ha.defers, tupled vs, resultsL_run ha hw hr h, _, L', rfl, hp, hi w hw⟩⟩
theorem WQ_endC {n : Nat} {M : List (Nat × Value)} {L : List Chunk} {fn : Func} {post : Value → List Chunk → Prop} {rs : List ResultVar} {vs : List Value} (hr : fn.results = rs.toArray) (h : ResL P M L rs vs) (hp : ∃ L', (∀ w, Holds w L → Holds w L') ∧ post (tupled vs) L') :
    WQ n (bodyPost P fn (fun e w' => ∃ v L', e = .returned v ∧ post v L' ∧ Holds w' L') .normal) M L := ⟨fun _ w ha hw => by
  obtain ⟨L', hi, hp⟩ := hp
  exact ⟨ha.defers, tupled vs, resultsL_run ha hw hr h, _, L', rfl, hp, hi w hw⟩⟩
section
variable {n : Nat} {Q : Exit → Act → World → Prop} {M : List (Nat × Value)} {L : List Chunk} {d : Nat} {v : Value}
theorem WR_u {S : List Chunk} {ops : List Oper} {T : List Nat} {fuel : Nat} {listed : Array Bool} (i : Nat) {j : Nat} {b : Bool} {o : Oper} (h : WR P n ops Q S T fuel (listed.setIfInBounds i true) ((d, v) :: M) L)
    (hi : ops[i]? = some o := by exact rfl) (hg : o.guard = some (j, b) := by exact rfl) (hy : yl ops M j = some (.bool b) := by exact rfl) (hb : takeB ops T listed i = true := by kernel_rfl) (hPO : PO Q := by exact (by repeat (first | with_reducible exact PO.body | with_reducible exact RP_po | with_reducible refine PO.then ?_ | with_reducible refine PO.block ?_))) (hinc : Inc S L := by exact (by repeat (first | exact Inc.refl | exact Inc.nil | (show Inc (_ :: _) _; refine Inc.cons (by repeat (first | exact Take.here | apply Take.there)) ?_) | refine Inc.skip ?_))) (he : EV P n o M S d v := by exact (by first | (show EV _ _ ⟨_, .move _, _, _, _, _⟩ _ _ _ _; first | exact EV_move rfl) | (show EV _ _ ⟨_, .assign _, _, _, _, _⟩ _ _ _ _; first | exact EV_assign rfl) | (show EV _ _ ⟨_, .nilCheck _, _, _, _, _⟩ _ _ _ _; first | exact EV_nilCheck rfl) | (show EV _ _ ⟨_, .fieldAddr .., _, _, _, _⟩ _ _ _ _; first | exact EV_fieldAddr0 rfl | exact EV_fieldAddr rfl) | (show EV _ _ ⟨_, .load .., _, _, _, _⟩ _ _ _ _; first | exact EV_loadc rfl (by repeat (first | assumption | exact Fnd.here | refine Fnd.there ?_)) rfl | exact EV_loadAggC rfl (by repeat (first | assumption | exact Fnd.here | refine Fnd.there ?_)) rfl) | (show EV _ _ ⟨_, .binOp .., _, _, _, _⟩ _ _ _ _; first | exact EV_cmp rfl rfl rfl | exact EV_ari64 rfl rfl rfl (by omega) | exact EV_shr rfl rfl (by decide) (shr_lit (by omega) (by simp [IntKind.bits]; rfl)) | exact EV_strEq rfl rfl | exact EV_strNe rfl rfl | exact EV_strLt rfl rfl | exact EV_sliceEqNil rfl rfl | exact EV_sliceNeNil rfl rfl | exact EV_ptrEqNil rfl rfl | exact EV_ptrNeNil rfl rfl | exact EV_boolEq rfl rfl | exact EV_boolNe rfl rfl) | (show EV _ _ ⟨_, .convert .., _, _, _, _⟩ _ _ _ _; first | exact EV_convII rfl (wrap_i64 (by omega) (by omega)) | exact EV_convII rfl (wrap_u64 (by omega) (by omega)) | exact EV_convII rfl rfl) | (show EV _ _ ⟨_, .extract .., _, _, _, _⟩ _ _ _ _; first | exact EV_extract rfl rfl) | (show EV _ _ ⟨_, .unOp .., _, _, _, _⟩ _ _ _ _; first | exact EV_not rfl) | (show EV _ _ ⟨_, .pick .., _, _, _, _⟩ _ _ _ _; first | exact EV_pick rfl rfl) | (show EV _ _ ⟨_, .call ⟨.builtin .len, _, _⟩, _, _, _, _⟩ _ _ _ _; first | exact EV_lenSl rfl | exact EV_lenStr rfl) | (show EV _ _ ⟨_, .call ⟨.builtin .cap, _, _⟩, _, _, _, _⟩ _ _ _ _; first | exact EV_capSl rfl) | (show EV _ _ ⟨_, .call ⟨.builtin .min, _, _⟩, _, _, _, _⟩ _ _ _ _; first | exact EV_min rfl rfl) | (show EV _ _ ⟨_, .call ⟨.builtin .max, _, _⟩, _, _, _, _⟩ _ _ _ _; first | exact EV_max rfl rfl) | (show EV _ _ ⟨_, .makeInterface .., _, _, _, _⟩ _ _ _ _; first | exact EV_makeInterface rfl) | (show EV _ _ ⟨_, .makeFunc .., _, _, _, _⟩ _ _ _ _; first | exact EV_makeFunc rfl rfl) | (show EV _ _ ⟨_, .typeAssert .., _, _, _, _⟩ _ _ _ _; first | exact EV_assertYes rfl | exact EV_assertNo rfl rfl) | (show EV _ _ ⟨_, .build .., _, _, _, _⟩ _ _ _ _; first | exact EV_build rfl (by simp [fillL, patch, Value.cells]; rfl)))) (hn : Nat.blt d n = true := by exact rfl) :
    WR P n ops Q S T (fuel + 1) listed M L := WR_takeOn i hi hg hy hb hPO hinc he hn h
theorem WR_v {S : List Chunk} {ops : List Oper} {T : List Nat} {fuel : Nat} {listed : Array Bool} (i : Nat) {j : Nat} {b : Bool} {o : Oper} (h : WR P n ops Q S T fuel (listed.setIfInBounds i true) ((d, undef) :: M) L)
    (hi : ops[i]? = some o := by exact rfl) (hg : o.guard = some (j, b) := by exact rfl) (hy : yl ops M j = some (.bool (!b)) := by exact rfl) (hd : o.dst = some d := by exact rfl) (hb : takeB ops T listed i = true := by kernel_rfl) (hPO : PO Q := by exact (by repeat (first | with_reducible exact PO.body | with_reducible exact RP_po | with_reducible refine PO.then ?_ | with_reducible refine PO.block ?_))) (hinc : Inc S L := by exact (by repeat (first | exact Inc.refl | exact Inc.nil | (show Inc (_ :: _) _; refine Inc.cons (by repeat (first | exact Take.here | apply Take.there)) ?_) | refine Inc.skip ?_))) (hn : Nat.blt d n = true := by exact rfl) :
    WR P n ops Q S T (fuel + 1) listed M L := WR_takeOff i hi hg hy hd hb hPO hinc hn h
theorem WR_oneOn {S : List Chunk} {ops : List Oper} {T : List Nat} {fuel : Nat} {listed : Array Bool} (i : Nat) {j : Nat} {b : Bool} {o : Oper} (hr : Region.ready .any ops.toArray listed = [i]) (hi : ops[i]? = some o) (hg : o.guard = some (j, b)) (hy : yl ops M j = some (.bool b)) (h : OW P n o (WRk P n ops Q S T fuel (listed.setIfInBounds i true)) M L) : WR P n ops Q S T (fuel + 1) listed M L := ⟨fun a w ha hw => by
  refine ⟨fun h0 => absurd (hr ▸ h0) (by simp), fun j' hj => ?_⟩
  rw [hr] at hj
  simp only [List.mem_singleton] at hj
  subst hj
  unfold wpOp
  simp only [List.getElem?_toArray, hi]
  rw [if_pos (by simp [Region.wanted, hg, yielded_of ha hy])]
  exact .inl (h.out a w _ Q ha hw fun M' L' hk => ⟨fun a' w' ha' hw' => ⟨fun _ => hk.inc.holds hw', hk.out.out a' w' ha' hw'⟩⟩)⟩
end
end Go.Vx
namespace Go.Vx
set_option linter.all false
theorem iC [W0] {S L : List Chunk} (h : Inc S L := by exact (by repeat (first | exact Inc.refl | exact Inc.nil | (show Inc (_ :: _) _; refine Inc.cons (by repeat (first | exact Take.here | apply Take.there)) ?_) | refine Inc.skip ?_))) : Inc S L := h
theorem iS [W0] {M M2 : List (Nat × Value)} (h : Sub M M2 := by exact (by repeat (first | exact Sub.nil | refine Sub.cons rfl ?_ | refine Sub.cons (lk_int rfl (by first | omega | (dsimp only; omega))) ?_))) : Sub M M2 := h
section
variable [W0] {P : Program} {n : Nat} {Q : Exit → Act → World → Prop} {M : List (Nat × Value)} {L : List Chunk} {K : List (Nat × Value) → List Chunk → Prop}
variable {d : Nat} {ty : TypeId} {ps : String} {af : Array Edge} {g : Option (Nat × Bool)} {x y : Operand} {v : Value}
theorem jA {ops : Array Oper} {rest : List Oper} {o : Oper} (h : OW P n o (WL P n ops Q rest) M L) (hg : o.guard = none := by exact rfl) : WL P n ops Q (o :: rest) M L := WL_plain hg h
theorem jB {ops : Array Oper} (h : WQ n (Q .normal) M L) : WL P n ops Q [] M L := WL_nil h
theorem jC {ops : List Oper} {rest : List Oper} {o : Oper} {j : Nat} {b : Bool} (h : OW P n o (WL P n ops.toArray Q rest) M L) (hg : o.guard = some (j, b) := by exact rfl) (hy : yl ops M j = some (.bool b) := by exact rfl) : WL P n ops.toArray Q (o :: rest) M L := WL_on hg hy h
theorem jD {ops : List Oper} {rest : List Oper} {o : Oper} {j d : Nat} {b : Bool} (h : WL P n ops.toArray Q rest ((d, undef) :: M) L) (hg : o.guard = some (j, b) := by exact rfl) (hd : o.dst = some d := by exact rfl) (hy : yl ops M j = some (.bool (!b)) := by exact rfl)
    (hn : Nat.blt d n = true := by exact rfl) : WL P n ops.toArray Q (o :: rest) M L := WL_off hg hd hy hn h
theorem jE {ops : List Oper} {rest : List Oper} {o : Oper} {j d : Nat} {b : Bool} (h : WL P n ops.toArray Q rest ((d, undef) :: M) L) (hg : o.guard = some (j, b) := by exact rfl) (hd : o.dst = some d := by exact rfl) (hy : yl ops M j = some undef := by exact rfl)
    (hn : Nat.blt d n = true := by exact rfl) : WL P n ops.toArray Q (o :: rest) M L := WL_offu hg hd hy hn h
theorem jF {ops : List Oper} {rest : List Oper} {o : Oper} {j : Nat} {b : Bool} (h : WL P n ops.toArray Q rest M L) (hg : o.guard = some (j, b) := by exact rfl) (hd : o.dst = none := by exact rfl) (hy : yl ops M j = some (.bool (!b)) := by exact rfl) :
    WL P n ops.toArray Q (o :: rest) M L := WL_off' hg hd hy h
theorem jG {ops : List Oper} {rest : List Oper} {o : Oper} {j : Nat} {b c : Bool} (ht : c = true → WL P n ops.toArray Q (o :: rest) M L) (hf : c = false → WL P n ops.toArray Q (o :: rest) M L) (hg : o.guard = some (j, b) := by exact rfl) (hy : yl ops M j = some (.bool c) := by exact rfl) :
    WL P n ops.toArray Q (o :: rest) M L := WL_split hg hy ht hf
theorem jI {t : TypeId} [hs : SZ P t 1] {b off : Nat} {l : List Value} {T : TypeId} {L' : List Chunk} (h : K M L') (hx : ev M x = some (.pointer (some ⟨b, off, none⟩)) := by exact rfl) (hy : ev M y = some v := by exact rfl) (hv : v.oneCell' = true := by exact rfl)
    (hu : Upd L b (cl l T) (cl (l.set off v) T) L' := by exact (by repeat (first | exact Upd.here | apply Upd.there))) (hlt : off < l.length := by first | (simp; done) | (simp; omega)) : OW P n ⟨none, .store t x y, ty, ps, af, g⟩ K M L := OW_store hx hy hv hu hlt h
theorem jJ {t k : Nat} [hag : AG P t k] {b off : Nat} {l vs : List Value} {T : TypeId} {L' : List Chunk} (h : K M L') (hx : ev M x = some (.pointer (some ⟨b, off, none⟩)) := by exact rfl) (hy : ev M y = some (.agg vs.toArray) := by exact rfl) (hl : vs.length = k := by exact rfl)
    (h1 : ones vs = true := by exact rfl) (hu : Upd L b (cl l T) (cl (patch l off vs) T) L' := by exact (by repeat (first | exact Upd.here | apply Upd.there))) (hfit : off + vs.length ≤ l.length := by first | (simp [Value.cells]; done) | (simp [Value.cells]; omega)) :
    OW P n ⟨none, .store t x y, ty, ps, af, g⟩ K M L := OW_storeAgg hx hy hl h1 hu hfit h
theorem jK {t : Nat} {z : Value} [hz : ZV P t z] (h : ∀ b, K ((d, .pointer (some ⟨b, 0, none⟩)) :: M) ([(b, cl z.cells.toList t)] :: L)) (hn : Nat.blt d n = true := by exact rfl) :
    OW P n ⟨some d, .alloc t, ty, ps, af, g⟩ K M L := OW_alloc hn h
theorem jL {t : Nat} (h : ∀ b, K ((d, .pointer (some ⟨b, 0, none⟩)) :: M) ([(b, cl v.cells.toList t)] :: L)) (hx : ev M x = some v := by exact rfl) (hn : Nat.blt d n = true := by exact rfl) :
    OW P n ⟨some d, .box t x, ty, ps, af, g⟩ K M L := OW_box hx hn h
theorem jM {x y : Code} (h : WC P n x (Exit.then (y.wp P Q) Q) M L) : WC P n (.seq x y) Q M L := WC_seq h
theorem jN {id : Nat} {l : List Oper} (h : WL P n l.toArray Q l M L) : WC P n (.region id l.toArray false) Q M L := WC_region h
theorem jO {c : Operand} {x y : Code} (ht : WC P n x Q M L) (hc : ev M c = some (.bool true) := by exact rfl) : WC P n (.cond c x y) Q M L := WC_true hc ht
theorem jP {c : Operand} {x y : Code} (ht : WC P n y Q M L) (hc : ev M c = some (.bool false) := by exact rfl) : WC P n (.cond c x y) Q M L := WC_false hc ht
theorem jR (h : WQ n (Q .normal) M L) : WC P n .skip Q M L := WC_skip h
theorem jS (h : WQ n (Q .ret) M L) : WC P n .ret Q M L := WC_ret h
theorem jT {id : Nat} (h : WQ n (Q (.exit id)) M L) : WC P n (.exit id) Q M L := WC_exit h
theorem jU {id : Nat} {c : Code} (h : WC P n c (Exit.inBlock id Q) M L) : WC P n (.block id c) Q M L := WC_block h
theorem jV {K : Act → World → Prop} (h : WQ n K M L) : WQ n (Exit.then K Q .normal) M L := WQ_then_normal h
theorem jW {c : Code} (h : WC P n c Q M L) : WQ n (c.wp P Q) M L := WQ_code h
theorem jX {K : Act → World → Prop} (h : WQ n (Q .ret) M L) : WQ n (Exit.then K Q .ret) M L := WQ_then_ret h
theorem jY {i : Nat} (h : WQ n (Q .ret) M L) : WQ n (Exit.inBlock i Q .ret) M L := WQ_block_ret h
theorem jZ {K : Act → World → Prop} {id : Nat} (h : WQ n (Q (.exit id)) M L) : WQ n (Exit.then K Q (.exit id)) M L := WQ_then_exit h
theorem kA {i : Nat} (h : WQ n (Q .normal) M L) : WQ n (Exit.inBlock i Q (.exit i)) M L := WQ_block_hit h
theorem kB {i j : Nat} (h : WQ n (Q (.exit j)) M L) (hne : Nat.beq j i = false := by with_unfolding_all exact rfl) : WQ n (Exit.inBlock i Q (.exit j)) M L := WQ_block_miss hne h
theorem kC {i : Nat} (h : WQ n (Q .normal) M L) : WQ n (Exit.inBlock i Q .normal) M L := WQ_block_normal h
structure Wr (q : Prop) : Prop where out : q
theorem kW {p q : Prop} (h : q) (s : Wr q → p := by (intro h9; (first | (show WL _ _ _ _ _ _ _; first | refine jA ?_ | refine jB ?_ | refine jC ?_ | refine jD ?_ | refine jE ?_ | refine jF ?_) | (show OW _ _ _ _ _ _; first | refine OW_E ?_ | refine jI ?_ | refine jJ ?_) | (show WC _ _ _ _ _ _; first | refine jM ?_ | refine jN ?_ | refine jO ?_ | refine jP ?_ | refine jR ?_ | refine jS ?_ | refine jT ?_ | refine jU ?_) | (show WQ _ _ _ _; with_reducible first | refine jV ?_ | refine jW ?_ | refine jX ?_ | refine jY ?_ | refine jZ ?_ | refine kA ?_ | refine kB ?_ | refine kC ?_)); (repeat (first | (show WL _ _ _ _ _ _ _; first | refine jA ?_ | refine jB ?_ | refine jC ?_ | refine jD ?_ | refine jE ?_ | refine jF ?_) | (show OW _ _ _ _ _ _; first | refine OW_E ?_ | refine jI ?_ | refine jJ ?_) | (show WC _ _ _ _ _ _; first | refine jM ?_ | refine jN ?_ | refine jO ?_ | refine jP ?_ | refine jR ?_ | refine jS ?_ | refine jT ?_ | refine jU ?_) | (show WQ _ _ _ _; with_reducible first | refine jV ?_ | refine jW ?_ | refine jX ?_ | refine jY ?_ | refine jZ ?_ | refine kA ?_ | refine kB ?_ | refine kC ?_))); exact h9.out)) : p := s ⟨h⟩
theorem kY {p q : Prop} (h : q) (s : Wr q → p := by (intro h9; (first | (show WL _ _ _ _ _ _ _; first | refine jA ?_ | refine jB ?_ | refine jC ?_ | refine jD ?_ | refine jE ?_ | refine jF ?_) | (show OW _ _ _ _ _ _; first | refine OW_E ?_ | refine jI ?_ | refine jJ ?_) | (show WC _ _ _ _ _ _; first | refine jN ?_ | refine jO ?_ | refine jP ?_ | refine jR ?_ | refine jS ?_ | refine jT ?_ | refine jU ?_) | (show WQ _ _ _ _; with_reducible first | refine jV ?_ | refine jW ?_ | refine jX ?_ | refine jY ?_ | refine jZ ?_ | refine kA ?_ | refine kB ?_ | refine kC ?_)); (repeat (first | (show WL _ _ _ _ _ _ _; first | refine jA ?_ | refine jB ?_ | refine jC ?_ | refine jD ?_ | refine jE ?_ | refine jF ?_) | (show OW _ _ _ _ _ _; first | refine OW_E ?_ | refine jI ?_ | refine jJ ?_) | (show WC _ _ _ _ _ _; first | refine jN ?_ | refine jO ?_ | refine jP ?_ | refine jR ?_ | refine jS ?_ | refine jT ?_ | refine jU ?_) | (show WQ _ _ _ _; with_reducible first | refine jV ?_ | refine jW ?_ | refine jX ?_ | refine jY ?_ | refine jZ ?_ | refine kA ?_ | refine kB ?_ | refine kC ?_))); exact h9.out)) : p := s ⟨h⟩
theorem kT {c : Operand} {x y : Code} {t : Bool} {p : Prop} (ht : p → WC P n x Q M L) (hc : ev M c = some (.bool t) := by exact rfl) (hn : t = false → False := by (intro hc; (try simp only [nrB] at hc); first | omega | exact hc trivial | exact hc rfl)) (hp : t = true → p := by (intro hc; (try simp only [nrB] at hc); exact hc)) : WC P n (.cond c x y) Q M L :=
  WC_cond hc (fun h => ht (hp h)) (fun h => (hn h).elim)
theorem kF {c : Operand} {x y : Code} {t : Bool} {p : Prop} (hf : p → WC P n y Q M L) (hc : ev M c = some (.bool t) := by exact rfl) (hn : t = true → False := by (intro hc; (try simp only [nrB] at hc); first | omega | exact hc trivial | exact hc rfl)) (hp : t = false → p := by (intro hc; (try simp only [nrB] at hc); exact hc)) : WC P n (.cond c x y) Q M L :=
  WC_cond hc (fun h => (hn h).elim) (fun h => hf (hp h))
theorem kQ {c : Operand} {x y : Code} {t : Bool} {p q : Prop} (ht : p → WC P n x Q M L) (hf : q → WC P n y Q M L) (hc : ev M c = some (.bool t) := by exact rfl) (hp : t = true → p := by (intro hc; (try simp only [nrB] at hc); exact hc)) (hq : t = false → q := by (intro hc; (try simp only [nrB] at hc); exact hc)) : WC P n (.cond c x y) Q M L :=
  WC_cond hc (fun h => ht (hp h)) (fun h => hf (hq h))
theorem kU {A : Nat → Prop} {g : Prop} (h : ∀ b, A b) (s : Wr (∀ b, A b) → g := by (intro h9; (show OW _ _ _ _ _ _); first | exact jK h9.out | exact jL h9.out)) : g := s ⟨h⟩
theorem kV {p A g : Prop} (h : p → A) (s : Wr (p → A) → g := by (intro h9; first | ((show WC _ _ _ _ _ _); first | exact kT h9.out | exact kF h9.out) | ((show WL _ _ _ _ _ _ _); first | (refine jG (fun hc => ?_) (fun hc => ?_); (focus (rw [hc]; have h8 := hc; (try simp only [nrB] at h8); exact h9.out h8)); (exfalso; (try simp only [nrB] at hc); first | done | omega)) | (refine jG (fun hc => ?_) (fun hc => ?_); rotate_left; (focus (rw [hc]; have h8 := hc; (try simp only [nrB] at h8); exact h9.out h8)); (exfalso; (try simp only [nrB] at hc); first | done | omega))))) : g := s ⟨h⟩
theorem kZ {p q A B g : Prop} (ht : p → A) (hf : q → B) (s : Wr ((p → A) ∧ (q → B)) → g := by (intro h9; first | ((show WC _ _ _ _ _ _); exact kQ h9.out.1 h9.out.2) | ((show WL _ _ _ _ _ _ _); (refine jG (fun hc => ?_) (fun hc => ?_); (focus (rw [hc]; have h8 := hc; (try simp only [nrB] at h8); exact h9.out.1 h8)); (rw [hc]; have h8 := hc; (try simp only [nrB] at h8); exact h9.out.2 h8))))) : g := s ⟨ht, hf⟩
theorem iP {R : Exit → Act → World → Prop} (h : PO R := by exact (by repeat (first | with_reducible exact PO.body | with_reducible exact RP_po | with_reducible refine PO.then ?_ | with_reducible refine PO.block ?_))) : PO R := h
theorem iU {L' : List Chunk} {b : Nat} {o o' : Obj} (h : Upd L b o o' L' := by exact (by repeat (first | exact Upd.here | apply Upd.there))) : Upd L b o o' L' := h
theorem kR {q g : Prop} (h : q) (s : Wr q → g := by (intro h9; first | exact WQ_retI rfl rfl h9.out | exact WQ_endI rfl rfl h9.out)) : g := s ⟨h⟩
theorem kE {g : Prop} (s : g := by (first | refine WQ_retI rfl rfl ?_ | refine WQ_endI rfl rfl ?_); exact ⟨_, (by repeat (first | exact Inc.refl | exact Inc.nil | (show Inc (_ :: _) _; refine Inc.cons (by repeat (first | exact Take.here | apply Take.there)) ?_) | refine Inc.skip ?_)), rfl, rfl⟩) : g := s
end
end Go.Vx
namespace Go.Vx
open Go
set_option linter.all false
variable [W0]
omit [W0] in
/-- The fence that lets all in, in a round or outside one. -/
abbrev Fr (ro : Option Nat) : Fence := { Fence.wide with round := ro }
omit [W0] in
/-- Nothing is let out. -/
structure NL (Q : Exit → Act → World → Prop) : Prop where
  out : ∀ a w, ¬ Q .outgrown a w
theorem NL.then {Q : Exit → Act → World → Prop} {K : Act → World → Prop} (h : NL Q) : NL (Exit.then K Q) := ⟨h.out⟩
theorem NL.block {Q : Exit → Act → World → Prop} {i : Nat} (h : NL Q) : NL (Exit.inBlock i Q) := ⟨h.out⟩
section
variable {P : Program} {n : Nat} {ro : Option Nat} {Q : Exit → Act → World → Prop} {M : List (Nat × Value)} {L : List Chunk} {K : List (Nat × Value) → List Chunk → Prop}
structure Wic (P : Program) (n : Nat) (ro : Option Nat) (c : Code) (Q : Exit → Act → World → Prop) (M : List (Nat × Value)) (L : List Chunk) : Prop where
  out : ∀ a w, St n M a → Holds w L → c.wpIn (Fr ro) 0 P Q a w
theorem Wic.holds {L' : List Chunk} {c : Code} (h : Wic P n ro c Q M L') (hl : ∀ w, Holds w L → Holds w L') : Wic P n ro c Q M L := ⟨fun a w ha hw => h.out a w ha (hl w hw)⟩
theorem Wic.sub {M' : List (Nat × Value)} {c : Code} (h : Wic P n ro c Q M' L) (hs : Sub M' M) : Wic P n ro c Q M L := ⟨fun a w ha hw => h.out a w (ha.sub hs) hw⟩
end
end Go.Vx
namespace Go.Vx
open Go
set_option linter.all false
variable [W0]
section
variable {P : Program} {n : Nat} {ro : Option Nat} {Q : Exit → Act → World → Prop} {M : List (Nat × Value)} {L : List Chunk} {K : List (Nat × Value) → List Chunk → Prop}
structure Yd (P : Program) (l : Nat) (args : List Value) (L : List Chunk) (post : List Chunk → Prop) : Prop where
  out : ∀ w, Holds w L → ∃ fn tmps assign body, (Instr.yield l args.toArray).run P w = .ok (.round l fn tmps assign body) w ∧
    RoundIn Fence.wide 0 P l fn tmps assign body w (fun e w' => e = .returned (.bool true) ∧ ∃ L', post L' ∧ Holds w' L')
def YdAll (P : Program) (l : Nat) (xs : List (List Value)) (J : Nat → List Chunk → Prop) : Prop :=
  ∀ (R : List Chunk) (k : Nat) (L' : List Chunk), k < xs.length → J k L' → Yd P l (xs.getD k []) (L' ++ R) (fun L'' => ∃ L3, J (k + 1) L3 ∧ L'' = L3 ++ R)
structure It (P : Program) (gf : FuncId) (lb : Array Value) (Lit : List Chunk) (xs : List (List Value)) : Prop where
  out : ∀ (l : Nat) (J : Nat → List Chunk → Prop) (L0 : List Chunk), J 0 L0 → YdAll P l xs J → ∀ w, Holds w (L0 ++ Lit) →
    CallsIn Fence.wide 0 P gf (#[.func (.yield l) #[] #[]] ++ lb) w (fun e w' => ∃ v L', e = .returned v ∧ (∃ L3, J xs.length L3 ∧ L' = L3 ++ Lit) ∧ Holds w' L')
theorem It.of_body {gf : FuncId} {fn : Func} {c : Code} {lb : List Value} {Lit : List Chunk} {xs : List (List Value)} (hf : P.funcs[gf]? = some fn) (hb : fn.body = some c) (hle : Nat.ble (lb.length + 1) fn.ntmps = true)
    (h : ∀ (l : Nat) (J : Nat → List Chunk → Prop) (L0 : List Chunk), J 0 L0 → YdAll P l xs J → Wic P fn.ntmps none c (bodyPost P fn (fun e w' => ∃ v L', e = .returned v ∧ (∃ L3, J xs.length L3 ∧ L' = L3 ++ Lit) ∧ Holds w' L')) (params 0 (.func (.yield l) #[] #[] :: lb)) (L0 ++ Lit)) :
    It P gf lb.toArray Lit xs := ⟨fun l J L0 h0 hy w hw => by
  have e : #[Value.func (.yield l) #[] #[]] ++ lb.toArray = (Value.func (.yield l) #[] #[] :: lb).toArray := by simp
  rw [e]
  refine callsIn_of_wp hf hb trivial ((h l J L0 h0 hy).out _ w ⟨rfl, ?_, ?_⟩ hw)
  · have := Nat.le_of_ble_eq_true hle
    simp; omega
  · intro t v ht
    obtain ⟨_, h2⟩ := params_get (.func (.yield l) #[] #[] :: lb) 0 t v ht
    have h2' : (Value.func (.yield l) #[] #[] :: lb)[t]? = some v := by simpa using h2
    have hlt : t < (Value.func (.yield l) #[] #[] :: lb).length := by
      rcases Nat.lt_or_ge t (Value.func (.yield l) #[] #[] :: lb).length with h' | h'
      · exact h'
      · simp [List.getElem?_eq_none h'] at h2'
    rw [Array.getElem?_append_left (by simpa using hlt)]
    simpa using h2'⟩
theorem NL.body {fn : Func} {X : Value → List Chunk → World → Prop} : NL (bodyPost P fn (fun e w' => ∃ v L3, e = .returned v ∧ X v L3 w')) := ⟨fun a w h => by
  obtain ⟨v, L3, he, _⟩ := h
  cases he⟩
theorem Fnd.right {A B : List Chunk} {b : Nat} {o : Obj} (h : Fnd B b o) : Fnd (A ++ B) b o := by
  simp only [Fnd, List.flatten_append, List.mem_append] at *; exact .inr h
theorem Fnd.left {A B : List Chunk} {b : Nat} {o : Obj} (h : Fnd A b o) : Fnd (A ++ B) b o := by
  simp only [Fnd, List.flatten_append, List.mem_append] at *; exact .inl h
def RP (J : Nat → List Chunk → Prop) (k : Nat) (R : List Chunk) : Exit → Act → World → Prop := fun e _ w => e = .normal ∧ ∃ L3, J k L3 ∧ Holds w (L3 ++ R)
theorem RP_po {J : Nat → List Chunk → Prop} {k : Nat} {R : List Chunk} : PO (RP J k R) := ⟨fun c a d v w h => by cases h.1⟩
end
end Go.Vx
namespace Go.Nm
open Go Go.Lib
set_option linter.all false
def ptA : List UInt8 → List UInt8 → List (List UInt8)
  | cur, [] => [cur]
  | cur, c :: r => if c = 47 then cur :: ptA [] r else ptA (cur ++ [c]) r
def ptL (s : List UInt8) : List (List UInt8) := ptA [] s
def endB (s t : List UInt8) : Bool := decide (t.length ≤ s.length) && decide (s.drop (s.length - t.length) = t)
def badL : List UInt8 := [126, 94, 58, 63, 42, 91, 92]
def chB (c : UInt8) : Bool := decide (33 ≤ c.toNat) && decide (c.toNat ≠ 127) && !badL.contains c
def twB (a b : UInt8) : Bool := !(decide ([a, b] = [46, 46]) || decide ([a, b] = [64, 123]))
def twoB : List UInt8 → Bool
  | a :: b :: r => twB a b && twoB (b :: r)
  | _ => true
def lockL : List UInt8 := [46, 108, 111, 99, 107]
def refsL : List UInt8 := [114, 101, 102, 115, 47]
def ptB (p : List UInt8) : Bool := decide (p ≠ []) && decide (p.getD 0 0 ≠ 46) && !endB p lockL
def vlN (s : List UInt8) : Bool := decide (s.length ≤ 100) && decide (5 ≤ s.length) && decide (s.take 5 = refsL) && validD s && !endB s [46] && (s.all chB && twoB s) && (ptL s).all ptB
def undB (a b : List UInt8) : Bool := decide (a.length < b.length) && decide (b.take (a.length + 1) = a ++ [47])
def stA : Nat → Int → List UInt8 → Int
  | _, a, [] => a
  | i, a, c :: r => if c = 42 then (if 0 ≤ a then -2 else stA (i + 1) (i : Int) r) else stA (i + 1) a r
def stN (s : List UInt8) : Int := stA 0 (-1) s
def myN (s : List UInt8) : Bool × Bool := if stN s = -2 then (false, false) else if stN s < 0 then (vlN s, false) else (vlN (s.take (stN s).toNat ++ [120] ++ s.drop ((stN s).toNat + 1)), true)
structure Sp where
  force : Bool
  src : List UInt8
  dst : List UInt8
deriving DecidableEq
def clN (s : List UInt8) : Option Nat := s.findIdx? (· == 58)
def sdN (s : List UInt8) : List UInt8 × List UInt8 := match clN s with | none => (s, s) | some i => (s.take i, s.drop (i + 1))
def plN (s : List UInt8) : Bool × List UInt8 := match s with | 43 :: r => (true, r) | _ => (false, s)
def psN (s : List UInt8) : Option Sp :=
  let f := plN s
  let d := sdN f.2
  let a := if d.1 = [] ∧ (clN f.2).isSome = true then (true, false) else myN d.1
  let b := myN d.2
  if a.1 = true ∧ b.1 = true ∧ a.2 = b.2 then some ⟨f.1, d.1, d.2⟩ else none
def txN (p : Sp) : List UInt8 := (if p.force then [43] else []) ++ (p.src ++ [58] ++ p.dst)
def mpN (p : Sp) (s : List UInt8) : Option (List UInt8) :=
  if stN p.src < 0 then (if s = p.src ∧ vlN p.dst = true then some p.dst else none)
  else
    let a := p.src.take (stN p.src).toNat
    let b := p.src.drop ((stN p.src).toNat + 1)
    if s.length < a.length + b.length ∨ s.take a.length ≠ a ∨ endB s b = false then none
    else if stN p.dst < 0 then none
    else
      let d := p.dst.take (stN p.dst).toNat ++ ((s.drop a.length).take (s.length - b.length - a.length)) ++ p.dst.drop ((stN p.dst).toNat + 1)
      if vlN d = true then some d else none
end Go.Nm
namespace Go.Ob
open Go Go.Lib
set_option linter.all false
set_option maxRecDepth 4000
theorem dl_high (l : List UInt8) (h : 128 ≤ (l.getD 0 0).toNat) : 128 ≤ (decodeL l).1 ∧ ∀ j, j < (decodeL l).2 → 128 ≤ (l.getD j 0).toNat := by
  rw [decodeL_N]
  obtain ⟨b0, h0⟩ : ∃ b, b = (l.getD 0 0).toNat := ⟨_, rfl⟩
  obtain ⟨b1, h1⟩ : ∃ b, b = (l.getD 1 0).toNat := ⟨_, rfl⟩
  obtain ⟨b2, h2⟩ : ∃ b, b = (l.getD 2 0).toNat := ⟨_, rfl⟩
  obtain ⟨b3, h3⟩ : ∃ b, b = (l.getD 3 0).toNat := ⟨_, rfl⟩
  rw [← h0] at h
  rw [← h0, ← h1, ← h2, ← h3]
  have hj : ∀ k, k ≤ 4 → (1 < k → 128 ≤ b1) → (2 < k → 128 ≤ b2) → (3 < k → 128 ≤ b3) → ∀ j, j < k → 128 ≤ (l.getD j 0).toNat := by
    intro k hk g1 g2 g3 j hj
    match j with
    | 0 => rw [← h0]; exact h
    | 1 => rw [← h1]; exact g1 (by omega)
    | 2 => rw [← h2]; exact g2 (by omega)
    | 3 => rw [← h3]; exact g3 (by omega)
    | j + 4 => omega
  clear h0 h1 h2 h3
  unfold decodeN
  repeat' split
  all_goals (first | (exfalso; omega) | skip)
  all_goals exact ⟨by dsimp only; omega, hj _ (by dsimp only; omega) (fun _ => by omega) (fun hh => by dsimp only at hh; omega) (fun hh => by dsimp only at hh; omega)⟩
end Go.Ob
namespace Go.Nm
open Go Go.Lib
set_option linter.all false
def clB (a b : UInt8) : Bool := (decide (a = 47) && (decide (b = 47) || decide (b = 46))) || (decide (a = 46) && decide (b = 46)) || (decide (a = 64) && decide (b = 123))
def ckN : List UInt8 → UInt8 → List UInt8 → Bool
  | pre, pb, [] => !decide (pb = 47) && !decide (pb = 46) && !endB pre lockL
  | pre, pb, c :: r => chB c && !clB pb c && !(decide (c = 47) && endB pre lockL) && ckN (pre ++ [c]) c r
theorem endB_app (a b t : List UInt8) (h : t.length ≤ b.length) : endB (a ++ b) t = endB b t := by
  unfold endB
  rw [decide_eq_true h, decide_eq_true (p := t.length ≤ (a ++ b).length) (by rw [List.length_append]; omega)]
  congr 2
  rw [List.drop_append, List.drop_eq_nil_of_le (by rw [List.length_append]; omega), List.nil_append]
  congr 2
  rw [List.length_append]; omega
theorem endB_dot (a : List UInt8) (c : UInt8) : endB (a ++ [c]) [46] = decide (c = 46) := by
  rw [endB_app a [c] [46] (by simp)]
  simp [endB]
theorem endB_lock (q cur : List UInt8) (hq : q = [] ∨ ∃ u, q = u ++ [47]) : endB (q ++ cur) lockL = endB cur lockL := by
  rcases hq with rfl | ⟨u, rfl⟩
  · rfl
  by_cases h : lockL.length ≤ cur.length
  · exact endB_app _ _ _ h
  have e : endB cur lockL = false := by unfold endB; rw [decide_eq_false h]; rfl
  rw [e]
  cases g : endB (u ++ [47] ++ cur) lockL with
  | false => rfl
  | true =>
    exfalso
    unfold endB at g
    rw [Bool.and_eq_true, decide_eq_true_eq, decide_eq_true_eq] at g
    obtain ⟨g1, g2⟩ := g
    have hl : lockL.length = 5 := rfl
    simp only [List.length_append, List.length_cons, List.length_nil] at g1 g2
    rw [List.append_assoc, List.drop_append_of_le_length (by omega)] at g2
    have : (47 : UInt8) ∈ lockL := by rw [← g2]; simp
    exact absurd this (by decide)
theorem ptA_head : ∀ (r cur : List UInt8), ∃ t m, ptA cur r = (cur ++ t) :: m
  | [], cur => ⟨[], [], by simp [ptA]⟩
  | c :: r, cur => by
    unfold ptA
    split
    · exact ⟨[], ptA [] r, by simp⟩
    · obtain ⟨t, m, e⟩ := ptA_head r (cur ++ [c])
      exact ⟨c :: t, m, by rw [e]; simp⟩
theorem twB_slash (a : UInt8) : twB 47 a = true := by
  unfold twB
  rw [decide_eq_false (by simp), decide_eq_false (by simp)]; rfl
theorem twB_slash' (a : UInt8) : twB a 47 = true := by
  unfold twB
  rw [decide_eq_false (by simp), decide_eq_false (by simp)]; rfl
theorem twB_cl {a b : UInt8} (h : a = 47 → b ≠ 47 ∧ b ≠ 46) : clB a b = !twB a b := by
  unfold clB twB
  by_cases ha : a = 47
  · have := h ha
    subst ha
    simp [this.1, this.2]
  · rw [decide_eq_false ha]
    simp
theorem ck_parts : ∀ (r q cur : List UInt8) (pb : UInt8), (q = [] ∨ ∃ u, q = u ++ [47]) → 47 ∉ cur → cur.getD 0 0 ≠ 46 → (cur = [] → pb = 47) → (∀ u x, cur = u ++ [x] → pb = x) →
    ckN (q ++ cur) pb r = (r.all chB && twoB (pb :: r) && (ptA cur r).all ptB && !(decide (q ++ cur ++ r ≠ []) && endB (q ++ cur ++ r) [46]))
  | [], q, cur, pb, hq, hc, hd, hn, hx => by
    unfold ckN ptA
    rw [endB_lock q cur hq, List.append_nil, List.all_nil, Bool.true_and, show twoB [pb] = true from rfl, Bool.true_and, List.all_cons, List.all_nil, Bool.and_true]
    rcases List.eq_nil_or_concat cur with rfl | ⟨u, x, rfl⟩
    · rw [hn rfl]
      simp [ptB]
    · rw [List.concat_eq_append] at *
      have hxx := hx u x rfl
      subst hxx
      have h47 : pb ≠ 47 := fun e => hc (by simp [e])
      rw [← List.append_assoc, endB_dot, decide_eq_false h47, decide_eq_true (p := q ++ u ++ [pb] ≠ []) (by simp)]
      unfold ptB
      rw [decide_eq_true hd, decide_eq_true (p := u ++ [pb] ≠ []) (by simp)]
      simp only [Bool.not_false, Bool.true_and]
      exact Bool.and_comm _ _
  | c :: r, q, cur, pb, hq, hc, hd, hn, hx => by
    have e0 : decide (q ++ cur ++ c :: r ≠ []) = true := decide_eq_true (by simp)
    unfold ckN
    rw [e0, Bool.true_and, List.all_cons]
    rw [show twoB (pb :: c :: r) = (twB pb c && twoB (c :: r)) from rfl]
    by_cases h47 : c = 47
    · subst h47
      have ih := ck_parts r (q ++ cur ++ [47]) [] 47 (.inr ⟨_, rfl⟩) (by simp) (by simp) (fun _ => rfl) (fun u x h => by simp at h)
      rw [List.append_nil, decide_eq_true (p := q ++ cur ++ [47] ++ r ≠ []) (by simp), Bool.true_and] at ih
      rw [ih, show q ++ cur ++ [47] ++ r = q ++ cur ++ 47 :: r from by simp, twB_slash', endB_lock q cur hq]
      rw [show ptA cur (47 :: r) = cur :: ptA [] r from by simp [ptA], List.all_cons]
      have hp : (!clB pb 47 && !endB cur lockL) = ptB cur := by
        unfold ptB
        rw [decide_eq_true hd]
        by_cases hcn : cur = []
        · rw [hn hcn, decide_eq_false (p := cur ≠ []) (by simp [hcn])]; rfl
        · obtain ⟨u, x, hux⟩ : ∃ u x, cur = u ++ [x] := by
            rcases List.eq_nil_or_concat cur with h | ⟨u, x, h⟩
            · exact absurd h hcn
            · exact ⟨u, x, by rw [h, List.concat_eq_append]⟩
          have hpb := hx u x hux
          have : pb ≠ 47 := fun e => hc (by rw [hux, ← hpb, e]; simp)
          rw [decide_eq_true (p := cur ≠ []) hcn]
          have : clB pb 47 = false := by
            unfold clB
            rw [decide_eq_false this]
            simp
          rw [this]; rfl
      rw [← hp, show chB 47 = true from by decide, decide_eq_true (p := (47 : UInt8) = 47) rfl]
      cases clB pb 47 <;> cases endB cur lockL <;> cases r.all chB <;> cases twoB (47 :: r) <;> cases (ptA [] r).all ptB <;> rfl
    · rw [show ptA cur (c :: r) = ptA (cur ++ [c]) r from by simp [ptA, h47], decide_eq_false h47, Bool.false_and, Bool.not_false, Bool.and_true]
      by_cases hb : cur = [] ∧ c = 46
      · obtain ⟨rfl, rfl⟩ := hb
        rw [hn rfl, show clB 47 46 = true from by decide]
        obtain ⟨t, m, e⟩ := ptA_head r [46]
        rw [List.nil_append, e, List.all_cons]
        rw [show ptB ([46] ++ t) = false from by simp [ptB]]
        simp
      · have ih := ck_parts r q (cur ++ [c]) c hq (by simp only [List.mem_append, List.mem_singleton]; rintro (h | h); exact hc h; exact h47 h.symm) (by
          rcases cur with _ | ⟨d, cur⟩
          · simp; exact fun h => hb ⟨rfl, h⟩
          · simpa using hd) (fun h => by simp at h) (fun u x h => by
            have := List.append_inj_right' h rfl
            simpa using this)
        rw [← List.append_assoc, decide_eq_true (p := q ++ cur ++ [c] ++ r ≠ []) (by simp), Bool.true_and] at ih
        rw [ih, show q ++ cur ++ [c] ++ r = q ++ cur ++ c :: r from by simp]
        rw [twB_cl (a := pb) (b := c) (fun h => ⟨h47, fun h' => by
          refine hb ⟨?_, h'⟩
          rcases List.eq_nil_or_concat cur with g | ⟨u, x, g⟩
          · exact g
          · rw [List.concat_eq_append] at g
            have := hx u x g
            exact absurd (by rw [g, ← this, h]; simp) hc⟩)]
        cases chB c <;> cases twB pb c <;> cases r.all chB <;> cases twoB (c :: r) <;> cases (ptA (cur ++ [c]) r).all ptB <;> rfl
theorem vlN_ck (s : List UInt8) : vlN s = (decide (s.length ≤ 100) && (validD s && (decide (5 ≤ s.length ∧ s.take 5 = refsL) && ckN [] 47 s))) := by
  by_cases h : 5 ≤ s.length
  · have hn : s ≠ [] := by rintro rfl; simp at h
    have := ck_parts s [] [] 47 (.inl rfl) (by simp) (by simp) (fun _ => rfl) (fun u x h => by simp at h)
    simp only [List.append_nil, List.nil_append] at this
    rw [this, decide_eq_true hn, Bool.true_and]
    have htw : twoB (47 :: s) = twoB s := by
      rcases s with _ | ⟨c, s⟩
      · rfl
      · show (twB 47 c && twoB (c :: s)) = _
        rw [twB_slash, Bool.true_and]
    rw [htw]
    unfold vlN ptL
    rw [decide_eq_true h, show decide (5 ≤ s.length ∧ s.take 5 = refsL) = decide (s.take 5 = refsL) from by simp [h]]
    cases decide (s.length ≤ 100) <;> cases decide (s.take 5 = refsL) <;> cases validD s <;> cases endB s [46] <;> cases s.all chB <;> cases twoB s <;> cases (ptA [] s).all ptB <;> rfl
  · unfold vlN
    rw [decide_eq_false h, decide_eq_false (p := 5 ≤ s.length ∧ s.take 5 = refsL) (fun u => h u.1)]
    simp
theorem chB_high {c : UInt8} (h : 128 ≤ c.toNat) : chB c = true := by
  unfold chB
  rw [decide_eq_true (by omega), decide_eq_true (by omega)]
  have : badL.contains c = false := by
    rw [Bool.eq_false_iff]
    intro w
    rw [List.contains_iff_mem] at w
    simp only [badL, List.mem_cons, List.not_mem_nil, or_false] at w
    rcases w with rfl | rfl | rfl | rfl | rfl | rfl | rfl <;> exact absurd h (by decide)
  rw [this]; rfl
theorem clB_high {a c : UInt8} (h : 128 ≤ c.toNat) : clB a c = false := by
  unfold clB
  rw [decide_eq_false (p := c = 47) (by rintro rfl; exact absurd h (by decide)), decide_eq_false (p := c = 46) (by rintro rfl; exact absurd h (by decide)), decide_eq_false (p := c = 123) (by rintro rfl; exact absurd h (by decide))]
  simp
theorem ck_one {pre r : List UInt8} {pb c : UInt8} (h : 128 ≤ c.toNat) : ckN pre pb (c :: r) = ckN (pre ++ [c]) c r := by
  conv => lhs; unfold ckN
  rw [chB_high h, clB_high h, decide_eq_false (p := c = 47) (by rintro rfl; exact absurd h (by decide))]
  rfl
theorem ck_high : ∀ (h : List UInt8) (pre : List UInt8) (pb : UInt8) (r : List UInt8), h ≠ [] → (∀ x ∈ h, 128 ≤ x.toNat) → ∃ x, 128 ≤ x.toNat ∧ ckN pre pb (h ++ r) = ckN (pre ++ h) x r
  | [], _, _, _, hn, _ => absurd rfl hn
  | [c], pre, pb, r, _, hx => ⟨c, hx c (by simp), ck_one (hx c (by simp))⟩
  | c :: d :: h, pre, pb, r, _, hx => by
    obtain ⟨x, h1, h2⟩ := ck_high (d :: h) (pre ++ [c]) c r (by simp) (fun y hy => hx y (by simp only [List.mem_cons] at hy ⊢; exact .inr hy))
    refine ⟨x, h1, ?_⟩
    rw [List.cons_append, ck_one (hx c (by simp)), h2]
    simp
end Go.Nm
namespace Go.Vx
open Go
set_option linter.all false
variable [W0]
omit [W0] in
/-- A byte as a word, and back. -/
def b2w (b : UInt8) : BitVec 32 := BitVec.ofNat 32 b.toNat
section
variable {P : Program} {n : Nat} {Q : Exit → Act → World → Prop} {M : List (Nat × Value)} {L : List Chunk} {K : List (Nat × Value) → List Chunk → Prop}
variable {d : Nat} {ty : TypeId} {ps : String} {af : Array Edge} {g : Option (Nat × Bool)} {x y : Operand} {v : Value}
omit [W0] in
def arrOf (P : Program) (T : Nat) : Option (Nat × Nat × Nat) := match P.underlying T with
  | some (.array len e) => match P.info? e with
    | some i => if Nat.blt 0 i.size then some (e, len, i.size) else none
    | none => none
  | _ => none
omit [W0] in
class AR (P : Program) (T : Nat) (e : outParam Nat) (len : outParam Nat) (k : outParam Nat) : Prop where out : arrOf P T = some (e, len, k)
theorem AR.parts {T e len k : Nat} (h : AR P T e len k) : P.underlying T = some (.array len e) ∧ ∃ i, P.info? e = some i ∧ i.size = k ∧ 0 < k := by
  have h := h.out
  unfold arrOf at h
  split at h
  · rename_i len' e' hu
    split at h
    · rename_i i hi
      split at h
      · rename_i hz
        simp at h
        obtain ⟨rfl, rfl, rfl⟩ := h
        rw [Nat.blt_eq] at hz
        exact ⟨hu, i, hi, rfl, hz⟩
      · simp at h
    · simp at h
  · simp at h
end
end Go.Vx
namespace Go.Proofs.YtehpnblbkldojaaDoor
open Go Go.Vx
instance : NA Tryd.prog 4 := ⟨by kernel_rfl⟩
instance : BB Tryd.prog 4 := ⟨by kernel_rfl⟩
instance : ZV Tryd.prog 5 (.int .u8 0) := ⟨by kernel_rfl⟩
instance : NA Tryd.prog 9 := ⟨by kernel_rfl⟩
instance : ST Tryd.prog 9 := ⟨by kernel_rfl⟩
instance : AG Tryd.prog 25 3 := ⟨by kernel_rfl, by kernel_rfl⟩
instance : FO Tryd.prog 25 0 0 := ⟨by kernel_rfl⟩
instance : FO Tryd.prog 25 1 1 := ⟨by kernel_rfl⟩
instance : FO Tryd.prog 25 2 2 := ⟨by kernel_rfl⟩
instance : BL Tryd.prog 25 [(0, 1), (1, 1), (2, 1)] := ⟨by kernel_rfl⟩
instance : ZV Tryd.prog 25 (.agg #[.bool false, .string .empty, .string .empty]) := ⟨by kernel_rfl⟩
instance : SZ Tryd.prog 42 1 := ⟨by kernel_rfl⟩
instance : NA Tryd.prog 42 := ⟨by kernel_rfl⟩
instance : SL Tryd.prog 42 5 1 1 := ⟨by kernel_rfl⟩
instance : SZ Tryd.prog 61 1 := ⟨by kernel_rfl⟩
instance : NA Tryd.prog 61 := ⟨by kernel_rfl⟩
instance : PT Tryd.prog 61 := ⟨⟨63, by kernel_rfl⟩⟩
instance : FO Tryd.prog 63 0 0 := ⟨by kernel_rfl⟩
instance : FO Tryd.prog 63 1 1 := ⟨by kernel_rfl⟩
instance : ZV Tryd.prog 63 (.agg #[.pointer none, .slice none 0 0]) := ⟨by kernel_rfl⟩
theorem mixed : Tryd.prog.follows .mixedOrders = true := by kernel_rfl
instance : BD Tryd.prog 8 := ⟨by kernel_rfl⟩
instance : BD Tryd.prog 9 := ⟨by kernel_rfl⟩
instance : BD Tryd.prog 10 := ⟨by kernel_rfl⟩
instance : BD Tryd.prog 11 := ⟨by kernel_rfl⟩
instance : BD Tryd.prog 13 := ⟨by kernel_rfl⟩
instance : BD Tryd.prog 18 := ⟨by kernel_rfl⟩
instance : BD Tryd.prog 20 := ⟨by kernel_rfl⟩
instance : BD Tryd.prog 21 := ⟨by kernel_rfl⟩
instance : BD Tryd.prog 22 := ⟨by kernel_rfl⟩
instance : BD Tryd.prog 23 := ⟨by kernel_rfl⟩
instance : BD Tryd.prog 24 := ⟨by kernel_rfl⟩
instance : BD Tryd.prog 25 := ⟨by kernel_rfl⟩
instance : BD Tryd.prog 26 := ⟨by kernel_rfl⟩
instance : BD Tryd.prog 32 := ⟨by kernel_rfl⟩
instance : BD Tryd.prog 33 := ⟨by kernel_rfl⟩
instance : BD Tryd.prog 34 := ⟨by kernel_rfl⟩
instance : BD Tryd.prog 35 := ⟨by kernel_rfl⟩
instance : BD Tryd.prog 36 := ⟨by kernel_rfl⟩
instance : BD Tryd.prog 37 := ⟨by kernel_rfl⟩
instance : BD Tryd.prog 39 := ⟨by kernel_rfl⟩
instance : BD Tryd.prog 40 := ⟨by kernel_rfl⟩
instance : BD Tryd.prog 41 := ⟨by kernel_rfl⟩
instance : BD Tryd.prog 42 := ⟨by kernel_rfl⟩
instance : BD Tryd.prog 43 := ⟨by kernel_rfl⟩
instance : BD Tryd.prog 44 := ⟨by kernel_rfl⟩
instance : BD Tryd.prog 45 := ⟨by kernel_rfl⟩
instance : BD Tryd.prog 46 := ⟨by kernel_rfl⟩
instance : BD Tryd.prog 47 := ⟨by kernel_rfl⟩
instance : BD Tryd.prog 48 := ⟨by kernel_rfl⟩
instance : BD Tryd.prog 50 := ⟨by kernel_rfl⟩
instance : BD Tryd.prog 51 := ⟨by kernel_rfl⟩
instance : BD Tryd.prog 52 := ⟨by kernel_rfl⟩
instance : BD Tryd.prog 58 := ⟨by kernel_rfl⟩
instance : BD Tryd.prog 59 := ⟨by kernel_rfl⟩
end Go.Proofs.YtehpnblbkldojaaDoor
namespace Go.Proofs.YtehpnblbkldojaaDoor
open Go Go.Vx Go.ChangeShapes Go.WideShapes Go.ChangeAt Go.RowKit
set_option maxRecDepth 4000
set_option linter.all false
def blks (W : World) : Chunk := W.heap.toList.zipIdx.map fun x => (x.2, x.1)
theorem blks_mem {W : World} {b : Nat} {o : Obj} : (b, o) ∈ blks W ↔ W.heap[b]? = some o := by
  unfold blks
  rw [List.mem_map]
  constructor
  · rintro ⟨⟨x, i⟩, hm, he⟩
    simp at he
    obtain ⟨rfl, rfl⟩ := he
    have := List.mk_mem_zipIdx_iff_getElem?.1 hm
    simpa using this
  · intro h
    exact ⟨(o, b), List.mk_mem_zipIdx_iff_getElem?.2 (by simpa using h), rfl⟩
theorem blks_keys (W : World) : ((blks W).map Prod.fst).Nodup := by
  have : (blks W).map Prod.fst = List.range' 0 W.heap.toList.length := by
    unfold blks
    rw [List.map_map]
    exact List.zipIdx_map_snd 0 _
  rw [this]
  exact List.nodup_range'
structure Kept (W W' : World) : Prop where
  os : W'.os = W.os
  output : W'.output = W.output
  block : ∀ k, k < W.heap.size → W'.heap[k]? = W.heap[k]?
theorem bridge {P : Program} {f : FuncId} {args : Array Value} {W : World} {v : Value} (h : ∀ [W0], GvP P f args [blks W] v) : Calls P f args W fun e W' => e = .returned v ∧ Kept W W' := by
  letI i : W0 := ⟨W.os, W.output⟩
  have h0 : GvP P f args [blks W] v := h
  have hH : Holds W [blks W] := ⟨by simpa using blks_keys W, fun x hx => blks_mem.1 (by simpa using hx), rfl, rfl⟩
  refine (h0.out W hH).mono fun e W' he => ?_
  obtain ⟨v', L', rfl, ⟨rfl, rfl⟩, hw⟩ := he
  refine ⟨rfl, hw.2.2.1, hw.2.2.2, fun k hk => ?_⟩
  have hm : W.heap[k]? = some W.heap[k] := by simp [hk]
  rw [hm]
  exact hw.2.1 (k, W.heap[k]) (by simpa using blks_mem.2 hm)
theorem Kept.frame {W W' : World} (h : Kept W W') (may : MemPlace → Prop) : W.keptBut W' may := by
  refine ⟨h.os, h.output, fun i hi => ?_⟩
  rw [h.block i hi]
  split <;> simp_all
theorem Kept.same {W W' : World} (h : Kept W W') {p : MemPlace} (hp : p.block < W.heap.size) : W.sameAt W' p := by
  cases p with
  | cell b o => exact World.cell?_of_block (w := W) (h.block b hp)
  | map b => exact h.block b hp
theorem Tryd.own : ownKnob Tryd.prog.godebug = none := by kernel_rfl
end Go.Proofs.YtehpnblbkldojaaDoor
namespace Go.Proofs.YtehpnblbkldojaaDoor
open Go Go.Vx
variable [W0]
set_option maxRecDepth 4000
set_option linter.all false
omit [W0] in
/-- A word turned to the left. -/
def rol (w : BitVec 32) (s : Nat) : BitVec 32 := w <<< s ||| w >>> (32 - s)
omit [W0] in
def stChoice (b c d : BitVec 32) : BitVec 32 := (b &&& c ||| ~~~ b &&& d) + 1518500249#32
omit [W0] in
def stParity (b c d : BitVec 32) : BitVec 32 := (b ^^^ c ^^^ d) + 1859775393#32
omit [W0] in
def stMajority (b c d : BitVec 32) : BitVec 32 := (b &&& c ||| b &&& d ||| c &&& d) + 2400959708#32
omit [W0] in
def stLast (b c d : BitVec 32) : BitVec 32 := (b ^^^ c ^^^ d) + 3395469782#32
abbrev w32 (w : BitVec 32) : Value := .int .u32 (w.toNat : Int)
end Go.Proofs.YtehpnblbkldojaaDoor
namespace Go.Proofs.YtehpnblbkldojaaDoor
open Go Go.Vx
variable [W0]
set_option maxRecDepth 4000
set_option linter.all false
omit [W0] in
/-- Word i of a block. -/
def wordAt (blk : List UInt8) (i : Nat) : BitVec 32 :=
  b2w (blk.getD (4 * i) 0) <<< 24 ||| b2w (blk.getD (4 * i + 1) 0) <<< 16 ||| b2w (blk.getD (4 * i + 2) 0) <<< 8 ||| b2w (blk.getD (4 * i + 3) 0)
omit [W0] in
def schedNext (blk : List UInt8) (l : List (BitVec 32)) : BitVec 32 :=
  if l.length < 16 then wordAt blk l.length
  else rol (l.getD (l.length - 3) 0 ^^^ l.getD (l.length - 8) 0 ^^^ l.getD (l.length - 14) 0 ^^^ l.getD (l.length - 16) 0) 1
omit [W0] in
/-- The first t words of a block's schedule. -/
def sched (blk : List UInt8) : Nat → List (BitVec 32)
  | 0 => []
  | t + 1 => sched blk t ++ [schedNext blk (sched blk t)]
omit [W0] in
/-- The chain. -/
structure H5 where
  a : BitVec 32
  b : BitVec 32
  c : BitVec 32
  d : BitVec 32
  e : BitVec 32
end Go.Proofs.YtehpnblbkldojaaDoor
namespace Go.Proofs.YtehpnblbkldojaaDoor
open Go Go.Vx
variable [W0]
set_option maxRecDepth 4000
set_option linter.all false
omit [W0] in
def kindF : Nat → BitVec 32 → BitVec 32 → BitVec 32 → BitVec 32
  | 0 => stChoice
  | 1 => stParity
  | 2 => stMajority
  | _ => stLast
omit [W0] in
/-- One step. -/
def rnd (k : Nat) (h : H5) (w : BitVec 32) : H5 := ⟨rol h.a 5 + kindF k h.b h.c h.d + h.e + w, h.a, rol h.b 30, h.c, h.d⟩
omit [W0] in
/-- The first t steps. -/
def rounds (ws : List (BitVec 32)) (h : H5) : Nat → H5
  | 0 => h
  | t + 1 => rnd (t / 20) (rounds ws h t) (ws.getD t 0)
omit [W0] in
def add5 (h r : H5) : H5 := ⟨h.a + r.a, h.b + r.b, h.c + r.c, h.d + r.d, h.e + r.e⟩
omit [W0] in
/-- A block taken into the chain. -/
def mixN (h : H5) (blk : List UInt8) : H5 := add5 h (rounds (sched blk 80) h 80)
end Go.Proofs.YtehpnblbkldojaaDoor
namespace Go.Proofs.YtehpnblbkldojaaDoor
open Go Go.Vx
variable [W0]
set_option maxRecDepth 4000
set_option linter.all false
omit [W0] in
def h50 : H5 := ⟨1732584193#32, 4023233417#32, 2562383102#32, 271733878#32, 3285377520#32⟩
omit [W0] in
/-- The chain behind the first k blocks of a text. -/
def chainN (t : List UInt8) : Nat → H5
  | 0 => h50
  | k + 1 => mixN (chainN t k) ((t.drop (64 * k)).take 64)
theorem chainN_app (t u : List UInt8) : ∀ k, 64 * k ≤ t.length → chainN (t ++ u) k = chainN t k
  | 0, _ => rfl
  | k + 1, h => by
    have e : ((t ++ u).drop (64 * k)).take 64 = (t.drop (64 * k)).take 64 := by
      rw [List.drop_append_of_le_length (by omega), List.take_append_of_le_length (by simp; omega)]
    simp only [chainN, chainN_app t u k (by omega), e]
omit [W0] in
/-- What a digest in progress is of a text. -/
structure ShaI (t : List UInt8) (h : H5) (blk : List UInt8) : Prop where
  len : blk.length = 64
  chain : h = chainN t (t.length / 64)
  rest : blk.take (t.length % 64) = t.drop (64 * (t.length / 64))
omit [W0] in
def fillB (blk : List UInt8) (r : Nat) (u : List UInt8) : List UInt8 := blk.take r ++ (u ++ blk.drop (r + u.length))
theorem fillB_length {blk u : List UInt8} {r : Nat} (hb : blk.length = 64) (h : r + u.length ≤ 64) : (fillB blk r u).length = 64 := by
  simp [fillB]; omega
theorem fillB_take {blk u : List UInt8} {r : Nat} (hb : blk.length = 64) (h : r + u.length ≤ 64) : (fillB blk r u).take (r + u.length) = blk.take r ++ u := by
  unfold fillB
  have e : (blk.take r ++ u).length = r + u.length := by simp; omega
  rw [← List.append_assoc, ← e, List.take_left]
theorem ShaI.part {t u : List UInt8} {h : H5} {blk : List UInt8} (hi : ShaI t h blk) (hu : t.length % 64 + u.length < 64) : ShaI (t ++ u) h (fillB blk (t.length % 64) u) := by
  have e1 : (t ++ u).length / 64 = t.length / 64 := by simp; omega
  have e2 : (t ++ u).length % 64 = t.length % 64 + u.length := by simp; omega
  refine ⟨fillB_length hi.len (by omega), ?_, ?_⟩
  · rw [e1, chainN_app _ _ _ (by omega)]; exact hi.chain
  · rw [e1, e2, fillB_take hi.len (by omega), hi.rest, List.drop_append_of_le_length (by omega)]
omit [W0] in
/-- A slice that can be read, and its room. -/
structure SlC (L : List Chunk) (k : Nat) (v : Value) (m : Nat) (xs : List Value) : Prop where
  sl : Sl L k v m xs
  room : ∃ a c, v = .slice a m c ∧ m ≤ c
theorem SlC.there {L : List Chunk} {C : Chunk} {k m : Nat} {v : Value} {xs : List Value} (h : SlC L k v m xs) : SlC (C :: L) k v m xs := ⟨sl_there h.sl, h.room⟩
theorem SlC.cut {L : List Chunk} {bb off m cap q : Nat} {l : List UInt8} {c : Array Value} {T : TypeId} {fr : Nat × Nat} (hf : Fnd L bb (.cells c T fr)) (hc : ∀ j u, (bsv l)[j]? = some u → c[off + j]? = some u) (hm : l.length = m) (hq : q ≤ m) (hmc : m ≤ cap) :
    SlC L 1 (.slice (some ⟨bb, if cap = q then off else off + q * 1, none⟩) (m - q) (cap - q)) (m - q) (bsv (l.drop q)) := by
  refine ⟨.inr ⟨_, _, rfl, ?_, by simp [bsv_length, hm]⟩, _, _, rfl, by omega⟩
  by_cases h0 : m = q
  · refine .inl ?_
    rw [List.drop_of_length_le (by omega)]; rfl
  · refine .inr ⟨bb, _, c, T, fr, rfl, hf, fun j u hj => ?_⟩
    rw [if_neg (by omega), Nat.mul_one, Nat.add_assoc]
    refine hc _ _ ?_
    rw [← hj]
    simp [bsv]
end Go.Proofs.YtehpnblbkldojaaDoor
namespace Go.Vx
open Go
set_option linter.all false
variable [W0]
omit [W0] in
/-- No cell of the row is marked. -/
def FrOk (fr : Nat × Nat) (n : Nat) : Prop := ∀ j, j < n → ¬ (fr.1 ≤ j ∧ j < fr.2)
theorem FrOk.zero (n : Nat) : FrOk (0, 0) n := fun j _ h => by simp at h
theorem FrOk.behind (n : Nat) : FrOk (n, n + 1) n := fun j hj h => by simp at h; omega
omit [W0] in
/-- A slice of the call's own whose row may bear a mark. -/
def OwF (e k : Nat) (v : Value) (m : Nat) (xs : List Value) (C : Chunk) : Prop :=
  ∃ b cap rest fr, v = .slice (some ⟨b, 0, none⟩) m cap ∧ C = [(b, .cells (xs ++ rest).toArray e fr)] ∧ xs.length = m * k ∧ rest.length = (cap - m) * k ∧ m ≤ cap ∧ cap ≤ maxLen ∧ FrOk fr (xs ++ rest).length
theorem owf_sl {e k m : Nat} {v : Value} {xs : List Value} {C : Chunk} {L : List Chunk} (h : OwF e k v m xs C) : Sl (C :: L) k v m xs := by
  obtain ⟨b, cap, rest, fr, rfl, rfl, hxl, hrl, hmc, hcm, hfr⟩ := h
  exact .inr ⟨_, _, rfl, .inr ⟨b, 0, _, _, _, rfl, .here, fun j u hj => by rw [Nat.zero_add]; simpa using getE_app hj⟩, hxl⟩
theorem setCells_at {b : Nat} {T : TypeId} {fr : Nat × Nat} : ∀ (vs : List Value) (off : Nat) (c : Array Value) (w : World), w.heap[b]? = some (.cells c T fr) → off + vs.length ≤ c.size →
    (w.setCells b off vs).heap[b]? = some (.cells (patch c.toList off vs).toArray T fr)
  | [], off, c, w, h, _ => by simpa [World.setCells, patch] using h
  | v :: r, off, c, w, h, hf => by
    simp only [List.length_cons] at hf
    have h1 := setCell_at (off := off) (v := v) h
    have h2 := setCells_at r (off + 1) _ _ h1 (by simp; omega)
    rw [World.setCells, h2]
    congr 2
    have e := list_seg_step c.toList off v r (by simp; omega)
    simpa [patch, Array.toList_setIfInBounds, Nat.add_assoc, Nat.add_comm 1] using e
theorem setCells_ne {b : Nat} : ∀ (vs : List Value) (off : Nat) (w : World) (c : Nat), c ≠ b → (w.setCells b off vs).heap[c]? = w.heap[c]?
  | [], _, _, _, _ => rfl
  | v :: r, off, w, c, h => by
    rw [World.setCells, setCells_ne r _ _ _ h, setCell_ne h]
theorem setCells_out {b : Nat} : ∀ (vs : List Value) (off : Nat) (w : World), (w.setCells b off vs).os = w.os ∧ (w.setCells b off vs).output = w.output
  | [], _, _ => ⟨rfl, rfl⟩
  | v :: r, off, w => by rw [World.setCells]; exact setCells_out r _ _
end Go.Vx
namespace Go.Proofs.YtehpnblbkldojaaDoor
open Go Go.Vx
variable [W0]
set_option maxRecDepth 4000
set_option linter.all false
omit [W0] in
/-- A text as the model has it. -/
def str (t : List UInt8) : ByteArray := ⟨t.toArray⟩
theorem str_size (t : List UInt8) : (str t).size = t.length := rfl
theorem str_get {t : List UInt8} {k : Nat} (h : k < t.length) : (str t)[k]? = some (t.getD k 0) := by
  show (str t).data[k]? = _
  simp [str, List.getD, h]
theorem str_data (t : List UInt8) : (str t).data.toList = t := rfl
end Go.Proofs.YtehpnblbkldojaaDoor
namespace Go.Proofs.YtehpnblbkldojaaDoor
open Go Go.Vx
variable [W0]
set_option maxRecDepth 4000
set_option linter.all false
omit [W0] in
def hcs (h : H5) : List Value := [w32 h.a, w32 h.b, w32 h.c, w32 h.d, w32 h.e]
end Go.Proofs.YtehpnblbkldojaaDoor
namespace Go.Vx
open Go
set_option linter.all false
variable [W0]
section
variable {P : Program} {n : Nat} {M : List (Nat × Value)} {L : List Chunk} {K : List (Nat × Value) → List Chunk → Prop}
variable {d : Nat} {ty : TypeId} {ps : String} {af : Array Edge} {g : Option (Nat × Bool)} {x y : Operand} {v : Value}
theorem OW_rangeS {t : TypeId} [hst : ST P t] {s : ByteArray} (hx : ev M x = some (.string s)) (hn : Nat.blt d n = true) (h : ∀ b, K ((d, .pointer (some ⟨b, 0, none⟩)) :: M) ([(b, .stringIter s 0)] :: L)) :
    OW P n ⟨some d, .range t x, ty, ps, af, g⟩ K M L :=
  OW_newval (f := fun b => .pointer (some ⟨b, 0, none⟩)) rfl hn (fun a w ha hw => by
    simp [execOp, Instr.range, ha.eval hx, underlying, hst.out, newObj, Sem.run, Result.andThen]) h
theorem OW_nextS {b pos : Nat} {s : ByteArray} {L' : List Chunk} (hx : ev M x = some (.pointer (some ⟨b, 0, none⟩))) (hp : pos < s.size) (hu : Upd L b (.stringIter s pos) (.stringIter s (pos + (Utf8.decode s pos).2)) L') (hn : Nat.blt d n = true)
    (h : K ((d, .tuple #[.bool true, .int .i64 (pos : Int), .int .i32 ((Utf8.decode s pos).1 : Int)]) :: M) L') :
    OW P n ⟨some d, .next x true, ty, ps, af, g⟩ K M L := ⟨fun a w nx Q ha hw hk => by
  have hb := hu.fnd.get hw
  have hlt : b < w.heap.size := (Array.getElem?_eq_some_iff.1 hb).1
  have hrun : (execOp a.eval ⟨some d, .next x true, ty, ps, af, g⟩).run P w = .ok (.value (.tuple #[.bool true, .int .i64 (pos : Int), .int .i32 ((Utf8.decode s pos).1 : Int)])) { w with heap := w.heap.setIfInBounds b (.stringIter s (pos + (Utf8.decode s pos).2)) } := by
    simp [execOp, ha.eval hx, Instr.next, getObj, setObj, Sem.run, hb, hp, goInt]
  unfold Oper.wp
  rw [hrun, Oper.upon_value]
  refine (hk _ _ h).out _ _ (ha.put _ hn) (hw.upd hu ?_ ?_ rfl rfl)
  · simp [hlt]
  · intro c hc; simp [Ne.symm hc]⟩
theorem EV_endS {b pos : Nat} {s : ByteArray} (hx : ev M x = some (.pointer (some ⟨b, 0, none⟩))) (hf : Fnd L b (.stringIter s pos)) (hp : ¬ pos < s.size) :
    EV P n ⟨some d, .next x true, ty, ps, af, g⟩ M L d (.tuple #[.bool false]) :=
  ⟨rfl, fun a w ha hw => by
    have hb := hf.get hw
    simp [execOp, ha.eval hx, Instr.next, getObj, Sem.run, hb, hp]⟩
end
end Go.Vx
namespace Go.Vx
open Go Go.Lib Go.RowKit
set_option linter.all false
variable [W0]
omit [W0] in
/-- A slice of bytes of the call's own: none, or a row that may bear a mark. -/
def OwG (e : Nat) (v : Value) (m : Nat) (xs : List Value) (C : Chunk) : Prop := (v = .slice none 0 0 ∧ m = 0 ∧ xs = [] ∧ C = []) ∨ OwF e 1 v m xs C
theorem OwG.nil {e : Nat} : OwG e (.slice none 0 0) 0 [] [] := .inl ⟨rfl, rfl, rfl, rfl⟩
theorem OwG.f {e m : Nat} {v : Value} {xs : List Value} {C : Chunk} (h : OwF e 1 v m xs C) : OwG e v m xs C := .inr h
theorem OwG.sl {e m : Nat} {v : Value} {xs : List Value} {C : Chunk} {L : List Chunk} (h : OwG e v m xs C) : Sl (C :: L) 1 v m xs := by
  rcases h with ⟨rfl, rfl, rfl, rfl⟩ | h
  · exact .inl ⟨0, rfl, rfl, rfl⟩
  · exact owf_sl h
theorem OwG.room {e m : Nat} {v : Value} {xs : List Value} {C : Chunk} (h : OwG e v m xs C) : ∃ a c, v = .slice a m c ∧ m ≤ c := by
  rcases h with ⟨rfl, rfl, rfl, rfl⟩ | ⟨b, cap, rest, fr, rfl, rfl, h1, h2, h3, h4, _⟩
  · exact ⟨_, _, rfl, Nat.le_refl _⟩
  · exact ⟨_, _, rfl, h3⟩
theorem OwG.len {e m : Nat} {v : Value} {xs : List Value} {C : Chunk} (h : OwG e v m xs C) : xs.length = m := by
  rcases h with ⟨rfl, rfl, rfl, rfl⟩ | ⟨b, cap, rest, fr, rfl, rfl, h1, h2, h3, h4, _⟩
  · rfl
  · simpa using h1
section
variable {P : Program} {n : Nat} {M : List (Nat × Value)} {L : List Chunk} {K : List (Nat × Value) → List Chunk → Prop}
variable {d : Nat} {ty : TypeId} {ps : String} {af : Array Edge} {g : Option (Nat × Bool)} {x y : Operand} {v : Value}
omit [W0] in
theorem strCells_bsv (q : ByteArray) : strCells q = bsv q.data.toList := rfl
theorem OW_appGS {t s e by_ : Nat} [hs : SL P t e 1 by_] [hst : ST P s] [hz : ZV P e (.int .u8 0)] {v : Value} {m : Nat} {xs : List Value} {C : Chunk} {A B : List Chunk} {q : ByteArray} (hx : ev M x = some v) (hy : ev M y = some (.string q)) (hown : OwG e v m xs C)
    (hzip : Zip C L A B) (hb : (m + q.size) * by_ ≤ 140737488355328) (h63 : m + q.size ≤ maxLen)
    (hn : Nat.blt d n = true) (h : ∀ v' C', OwG e v' (m + q.size) (xs ++ bsv q.data.toList) C' → K ((d, v') :: M) (A ++ C' :: B)) :
    OW P n ⟨some d, .call ⟨.builtin .append, #[x, y], #[t, s]⟩, ty, ps, af, g⟩ K M L := ⟨fun a w next Q ha hw0 hk => by
  have hL := hzip.eq
  subst hL
  have hw := hw0.perm List.perm_middle
  obtain ⟨ht, i, hi, hik, hib, hk0⟩ := hs.parts
  have hu := hst.out
  have hzz : i.zero = some (.int .u8 0) := by have := hz.out; rw [hi] at this; simpa using this
  subst hib
  have hsmall : m + q.size ≤ 9223372036854775807 := by simpa [maxLen] using h63
  have main : ∃ v' C' w', (Builtin.append_ #[t, s] ty #[v, .string q]).run P w = .ok v' w' ∧ OwG e v' (m + q.size) (xs ++ bsv q.data.toList) C' ∧ Holds w' (C' :: (A ++ B)) := by
    rcases hown with ⟨rfl, rfl, rfl, rfl⟩ | ⟨b, cap, rest, fr, rfl, rfl, hxl, hrl, hmc, hcm, hfr⟩
    · by_cases hm : q.size = 0
      · have hn : strCells q = [] := List.eq_nil_of_length_eq_zero (by rw [strCells_length]; exact hm)
        refine ⟨.slice none 0 0, [], w, ?_, ?_, hw⟩
        · have hf := run_firstCells_string (P := P) w 1 q
          rw [hm] at hf
          simp [Builtin.append_, run_underlying ht, run_underlying hu, sizeOf, typeInfo, hi, hik, Builtin.lenOf, hm, hf]
        · rw [← strCells_bsv, hn, hm]; exact OwG.nil
      · have hr := run_append_nil_string (P := P) w t s ty e i (.int .u8 0) ht hu hi hzz q (by omega) (by omega) (by have h2 := hb; simp only [Nat.zero_add] at h2; omega)
        have e0 : (q.data.map fun b => Value.int .u8 b.toNat) = (strCells q).toArray := by
          apply Array.ext'
          simp [strCells]
        rw [e0] at hr
        refine ⟨_, [(w.heap.size, .cells (bsv q.data.toList ++ (Builtin.zeroCells (Value.int .u8 0).cells (grownCap w q.size 0 e - q.size)).toList).toArray e (0, 0))], _, hr, .inr ⟨w.heap.size, grownCap w q.size 0 e, (Builtin.zeroCells (Value.int .u8 0).cells (grownCap w q.size 0 e - q.size)).toList, (0, 0), by rw [Nat.zero_add], rfl, ?_, ?_, ?_, grownCap_le_maxLen w q.size 0 e (by omega), FrOk.zero _⟩, ?_⟩
        · rw [List.nil_append, ← strCells_bsv, strCells_length]; omega
        · simp [size_zeroCells, Value.cells]
        · rw [Nat.zero_add]; exact grownCap_ge w q.size 0 e
        · have h0 := (hw.drop.same (w' := w.drew) rfl rfl rfl).alloc (.cells ((strCells q).toArray ++ Builtin.zeroCells (Value.int .u8 0).cells (grownCap w q.size 0 e - q.size)) e)
          have e1 : (bsv q.data.toList ++ (Builtin.zeroCells (Value.int .u8 0).cells (grownCap w q.size 0 e - q.size)).toList).toArray = (strCells q).toArray ++ Builtin.zeroCells (Value.int .u8 0).cells (grownCap w q.size 0 e - q.size) := by
            apply Array.ext'; simp [strCells_bsv]
          rw [e1]; exact h0
    · have hfnd : w.heap[b]? = some (.cells (xs ++ rest).toArray e fr) := (Fnd.here : Fnd ([(b, .cells (xs ++ rest).toArray e fr)] :: (A ++ B)) b _).get hw
      by_cases hroom : m + q.size ≤ cap
      · have hxl' : xs.length = m := by simpa using hxl
        have hrl' : rest.length = cap - m := by simpa using hrl
        have hlen : m + (strCells q).length ≤ (xs ++ rest).length := by
          simp only [List.length_append, hxl', hrl', strCells_length]; omega
        have hf := run_firstCells_string (P := P) w 1 q
        have hst := run_storeCells_cells (P := P) b m (strCells q) 0 w
          (fun j hj => by rw [cell_of hfnd]; simp; simp at hlen; omega)
          (fun j hj => by
            have := hfr (m + 0 + j) (by omega)
            simp only [World.frozen?, hfnd]
            cases hd : (decide (fr.1 ≤ m + 0 + j) && decide (m + 0 + j < fr.2)) with
            | false => simpa using hd
            | true => simp at hd; exact absurd (by simpa using hd) this)
          (strCells_oneCell q)
        simp only [Nat.add_zero] at hst
        have hr : (Builtin.append_ #[t, s] ty #[.slice (some ⟨b, 0, none⟩) m cap, .string q]).run P w = .ok (.slice (some ⟨b, 0, none⟩) (m + q.size) cap) (w.setCells b m (strCells q)) := by
          simp [Builtin.append_, run_underlying ht, run_underlying hu, sizeOf, typeInfo, hi, hik, Builtin.lenOf, hroom, hf, Addr.add_lit, hst]
        have hx1 : patch (xs ++ rest).toArray.toList m (strCells q) = (xs ++ bsv q.data.toList) ++ rest.drop (strCells q).length := by
          simp only [List.toList_toArray, patch]
          rw [← hxl', List.take_left]
          congr 1
          rw [List.drop_append]
          simp
        have hat := setCells_at (T := e) (fr := fr) (strCells q) m _ w hfnd (by simpa using hlen)
        rw [hx1] at hat
        refine ⟨_, [(b, .cells ((xs ++ bsv q.data.toList) ++ rest.drop (strCells q).length).toArray e fr)], _, hr, .inr ⟨b, cap, rest.drop (strCells q).length, fr, rfl, rfl, ?_, ?_, hroom, hcm, ?_⟩, ?_⟩
        · rw [List.length_append, hxl', ← strCells_bsv, strCells_length]; omega
        · rw [List.length_drop, hrl', strCells_length]; omega
        · intro j hj
          refine hfr j ?_
          simp only [List.length_append, List.length_drop, ← strCells_bsv] at hj hlen ⊢
          omega
        · exact hw.upd .here hat (fun q hq => setCells_ne _ _ _ _ hq) (setCells_out _ _ _).1 (setCells_out _ _ _).2
      · have hrd0 : RdAt ([(b, .cells (xs ++ rest).toArray e fr)] :: (A ++ B)) ⟨b, 0, none⟩ xs := .inr ⟨b, 0, _, _, _, rfl, .here, fun j u hj => by rw [Nat.zero_add]; simpa using getE_app hj⟩
        have hr := run_append_grow_string (P := P) w t s ty e i (.int .u8 0) ht hu hi hzz ⟨b, 0, none⟩ m cap xs (by rw [hik]; exact hxl) (hrd0.cells hw) q (by omega) (by omega) (growslice_fits (by omega) hb)
        refine ⟨_, [(w.heap.size, .cells ((xs ++ bsv q.data.toList) ++ (Builtin.zeroCells (Value.int .u8 0).cells (grownCap w (m + q.size) cap e - (m + q.size))).toList).toArray e (0, 0))], _, hr, .inr ⟨w.heap.size, _, _, (0, 0), rfl, rfl, ?_, ?_, grownCap_ge w (m + q.size) cap e, grownCap_le_maxLen w (m + q.size) cap e h63, FrOk.zero _⟩, ?_⟩
        · have hxl' : xs.length = m := by simpa using hxl
          rw [List.length_append, hxl', ← strCells_bsv, strCells_length]; omega
        · simp [size_zeroCells, Value.cells]
        · have h0 := (hw.drop.same (w' := w.drew) rfl rfl rfl).alloc (.cells (xs.toArray ++ (strCells q).toArray ++ Builtin.zeroCells (Value.int .u8 0).cells (grownCap w (m + q.size) cap e - (m + q.size))) e)
          have e1 : (xs ++ bsv q.data.toList ++ (Builtin.zeroCells (Value.int .u8 0).cells (grownCap w (m + q.size) cap e - (m + q.size))).toList).toArray = xs.toArray ++ (strCells q).toArray ++ Builtin.zeroCells (Value.int .u8 0).cells (grownCap w (m + q.size) cap e - (m + q.size)) := by
            apply Array.ext'; simp [strCells_bsv]
          rw [e1]; exact h0
  obtain ⟨v', C', w', hr, ho, hw'⟩ := main
  unfold Oper.wp
  have hrun : (execOp a.eval ⟨some d, .call ⟨.builtin .append, #[x, y], #[t, s]⟩, ty, ps, af, g⟩).run P w = .ok (.value v') w' := by
    simp only [execOp, resolve, invoke, builtin, Sem.run_bind, Sem.run_pure, Result.andThen_ok, List.map_toArray, List.map_cons, List.map_nil, ha.eval hx, ha.eval hy, hr]
  rw [hrun, Oper.upon_value]
  exact (hk _ _ (h v' C' ho)).out _ _ (ha.put v' hn) (hw'.perm List.perm_middle.symm)⟩
end
end Go.Vx
namespace Go.Ob
open Go Go.Vx Go.Proofs.YtehpnblbkldojaaDoor Go.Lib
set_option linter.all false
variable [W0]
theorem str_app (a b : List UInt8) : str a ++ str b = str (a ++ b) := by
  apply ByteArray.ext
  simp [str]
theorem str_inj {a b : List UInt8} : str a = str b ↔ a = b := by
  constructor
  · intro h
    have := congrArg (fun s => s.data.toList) h
    simpa [str] using this
  · rintro rfl; rfl
theorem str_ext (t : List UInt8) (l h : Nat) : (str t).extract l h = str ((t.drop l).take (h - l)) := by
  apply ByteArray.ext
  apply Array.ext'
  simp [str, List.drop_take]
theorem str_dec (t : List UInt8) (pos : Nat) : Utf8.decode (str t) pos = decodeL (t.drop pos) := (decodeL_drop (str t) pos).symm
theorem str_of (s : ByteArray) : ∃ t, s = str t ∧ t.length = s.size := ⟨s.data.toList, by cases s; rfl, by cases s; simp [ByteArray.size]⟩
section
variable {P : Program} {n : Nat} {M : List (Nat × Value)} {L : List Chunk} {K : List (Nat × Value) → List Chunk → Prop}
variable {d : Nat} {ty : TypeId} {ps : String} {af : Array Edge} {g : Option (Nat × Bool)} {x y : Operand} {v : Value}
theorem EV_catL (a b : List UInt8) {t u : TypeId} (hx : ev M x = some (.string (str a))) (hy : ev M y = some (.string (str b))) (hs : a.length + b.length ≤ 9223372036854775807) :
    EV P n ⟨some d, .binOp .add t x y u, ty, ps, af, g⟩ M L d (.string (str (a ++ b))) := by
  have := EV_strCat (P := P) (n := n) (M := M) (L := L) (d := d) (ty := ty) (ps := ps) (af := af) (g := g) (t := t) (u := u) hx hy (by simpa [str_size] using hs)
  rw [str_app] at this
  exact this
theorem EV_eqL (a b : List UInt8) {t u : TypeId} (hx : ev M x = some (.string (str a))) (hy : ev M y = some (.string (str b))) :
    EV P n ⟨some d, .binOp .eql t x y u, ty, ps, af, g⟩ M L d (.bool (decide (a = b))) := by
  have := EV_strEq (P := P) (n := n) (M := M) (L := L) (d := d) (ty := ty) (ps := ps) (af := af) (g := g) (t := t) (u := u) hx hy
  simpa only [str_inj] using this
theorem EV_cutL (t : List UInt8) (l h : Nat) {T : Nat} [hs : ST P T] {lo hi : Option Operand} (hx : ev M x = some (.string (str t))) (hl : bnd M lo 0 = some (l : Int)) (hh : bnd M hi t.length = some (h : Int))
    (h1 : l ≤ h) (h2 : h ≤ t.length) : EV P n ⟨some d, .slice T x lo hi none, ty, ps, af, g⟩ M L d (.string (str ((t.drop l).take (h - l)))) := by
  have := EV_sliceStr (P := P) (n := n) (M := M) (L := L) (d := d) (ty := ty) (ps := ps) (af := af) (g := g) (T := T) hx hl hh h1 h2
  rw [str_ext] at this
  exact this
end
end Go.Ob
namespace Go.Vx
open Go
set_option linter.all false
variable [W0]
omit [W0] in
def val : List UInt8 → Nat
  | [] => 0
  | b :: r => b.toNat + 256 * val r
end Go.Vx
namespace Go.Vx
open Go Go.WideMaps
variable [W0]
set_option linter.all false
omit [W0] in
/-- Three bytes as a key. -/
def kv3 (l : List UInt8) : Value := .agg (bsv l).toArray
omit [W0] in
class KA (P : Program) (k : Nat) (e : outParam Nat) : Prop where
  arr : ArrKey P k e 3
  byte : P.underlying e = some (.int .u8)
  pos : ∃ m, P.types.size = m + 1
omit [W0] in
theorem bsv_inj : ∀ {a b : List UInt8}, bsv a = bsv b → a = b
  | [], [], _ => rfl
  | [], _ :: _, h => by simp [bsv] at h
  | _ :: _, [], h => by simp [bsv] at h
  | x :: a, y :: b, h => by
    simp only [bsv, List.map_cons, List.cons.injEq, Value.int.injEq, true_and] at h
    have h1 : x.toNat = y.toNat := by omega
    rw [UInt8.toNat_inj.1 h1, bsv_inj h.2]
omit [W0] in
theorem kv3_inj {a b : List UInt8} (h : kv3 a = kv3 b) : a = b := by
  unfold kv3 at h
  simp only [Value.agg.injEq] at h
  exact bsv_inj (by simpa using congrArg Array.toList h)
omit [W0] in
theorem byte_wf (x : UInt8) : (Lit.int .u8 (x.toNat : Int)).wf = true := by
  have := x.toNat_lt
  simp [Lit.wf, IntKind.wrap, IntKind.bits, IntKind.signed, IntKind.min, IntKind.max]
  omega
omit [W0] in
theorem KA.key {P : Program} {k e : Nat} (h : KA P k e) {l : List UInt8} (hl : l.length = 3) : ∃ q, keyOf P k (kv3 l) = some q := by
  match l, hl with
  | [a, b, c], _ =>
    obtain ⟨m, hm⟩ := h.pos
    have hk := h.arr.keyType ⟨m, hm⟩
    have h1 : ∀ (x : UInt8) (D : Nat), P.keyLits (D + 1) e [.int .u8 (x.toNat : Int)] = some [.int .u8 (x.toNat : Int)] := fun x D => by
      unfold Program.keyLits
      rw [h.byte]
      simp only [byte_wf, and_self, if_true]
    have h2 : P.keyLits (P.types.size + 1) k [.int .u8 (a.toNat : Int), .int .u8 (b.toNat : Int), .int .u8 (c.toNat : Int)] = some [.int .u8 (a.toNat : Int), .int .u8 (b.toNat : Int), .int .u8 (c.toNat : Int)] := by
      rw [hm]
      unfold Program.keyLits
      rw [h.arr.hu]
      simp only [h.arr.size, h.arr.one]
      rw [if_pos (by rfl)]
      simp only [List.range_succ, List.range_zero, List.nil_append, List.cons_append, List.mapM_cons, List.mapM_nil, List.drop, List.take, Nat.zero_mul, Nat.one_mul, Nat.mul_one, h1]
      rfl
    unfold keyOf
    rw [h.arr.hu]
    have hf : (kv3 [a, b, c]).formed P k = true := by
      unfold kv3 Value.formed
      simp only [h.arr.hu, h.arr.size]
      rfl
    have hc : (kv3 [a, b, c]).cells.toList = [.int .u8 (a.toNat : Int), .int .u8 (b.toNat : Int), .int .u8 (c.toNat : Int)] := by simp [kv3, bsv, Value.cells]
    simp only [hk, hf, hc, h2, Bool.and_self, if_true, Option.map_some]
    exact ⟨_, rfl⟩
omit [W0] in
/-- What a map's block holds. -/
structure MpR (es : Array MapEntry) (g : List UInt8 → Option Nat) : Prop where
  ent : ∀ e ∈ es.toList, ∃ l m, l.length = 3 ∧ e.key = kv3 l ∧ e.val = .int .i64 ((m : Nat) : Int) ∧ g l = some m
  has : ∀ l m, l.length = 3 → g l = some m → ∃ e ∈ es.toList, e.key = kv3 l
  one : ∀ (i j : Nat) (e f : MapEntry), es[i]? = some e → es[j]? = some f → e.key = f.key → i = j
omit [W0] in
theorem MpR.nil : MpR #[] (fun _ => none) := ⟨fun e h => by simp at h, fun l m _ h => by simp at h, fun i j e f h => by simp at h⟩
omit [W0] in
def ups (g : List UInt8 → Option Nat) (l : List UInt8) (m : Nat) : List UInt8 → Option Nat := fun q => if q = l then some m else g q
omit [W0] in
theorem MpR.find {P : Program} {k e : Nat} (hk : KA P k e) {es : Array MapEntry} {g : List UInt8 → Option Nat} (h : MpR es g) {l : List UInt8} (hl : l.length = 3) (w : World) :
    (g l = none ∧ (Instr.findKey k (kv3 l) es.toList).run P w = .ok none w ∧ ∀ x ∈ es.toList, x.key ≠ kv3 l) ∨
    ∃ m j x, g l = some m ∧ (Instr.findKey k (kv3 l) es.toList).run P w = .ok (some (j, .int .i64 ((m : Nat) : Int))) w ∧ es[j]? = some x ∧ x.key = kv3 l := by
  obtain ⟨q, hq⟩ := hk.key hl
  have hall : ∀ x ∈ es.toList, ∃ y, keyOf P k x.key = some y := fun x hx => by
    obtain ⟨l', m', h1, h2, _⟩ := h.ent x hx
    rw [h2]
    exact hk.key h1
  rcases hk.arr.law.find w hq es.toList hall with ⟨h1, h2⟩ | ⟨j, x, h1, h2, h3⟩
  · left
    refine ⟨?_, h1, h2⟩
    cases hg : g l with
    | none => rfl
    | some m =>
      obtain ⟨x, hx, hxk⟩ := h.has l m hl hg
      exact absurd hxk (h2 x hx)
  · right
    have hx : x ∈ es.toList := List.mem_of_getElem? h2
    obtain ⟨l', m, g1, g2, g3, g4⟩ := h.ent x hx
    rw [h3] at g2
    have e := kv3_inj g2
    subst e
    exact ⟨m, j, x, g4, by rw [h1, g3], by simpa using h2, h3⟩
section
variable {P : Program} {n : Nat} {Q : Exit → Act → World → Prop} {M : List (Nat × Value)} {L : List Chunk} {K : List (Nat × Value) → List Chunk → Prop}
variable {d : Nat} {ty : TypeId} {ps : String} {af : Array Edge} {g : Option (Nat × Bool)} {x y z : Operand} {v : Value}
omit [W0] in
theorem MpR.push {es : Array MapEntry} {f : List UInt8 → Option Nat} (h : MpR es f) {l : List UInt8} (hl : l.length = 3) (m c : Nat) (hno : ∀ x ∈ es.toList, x.key ≠ kv3 l) :
    MpR (es.push { key := kv3 l, val := .int .i64 ((m : Nat) : Int), born := c }) (ups f l m) := by
  refine ⟨fun e he => ?_, fun q r hq hr => ?_, fun i j e e' hi hj hk => ?_⟩
  · simp only [Array.toList_push, List.mem_append, List.mem_singleton] at he
    rcases he with he | rfl
    · obtain ⟨l', m', h1, h2, h3, h4⟩ := h.ent e he
      refine ⟨l', m', h1, h2, h3, ?_⟩
      unfold ups
      rw [if_neg (fun hh => hno e he (by rw [h2, hh]))]
      exact h4
    · exact ⟨l, m, hl, rfl, rfl, by unfold ups; rw [if_pos rfl]⟩
  · unfold ups at hr
    split at hr
    · rename_i hh
      exact ⟨_, by simp only [Array.toList_push, List.mem_append, List.mem_singleton]; exact .inr rfl, by rw [hh]⟩
    · obtain ⟨e, he, hk⟩ := h.has q r hq hr
      exact ⟨e, by simp only [Array.toList_push, List.mem_append]; exact .inl he, hk⟩
  · rw [Array.getElem?_push] at hi hj
    have hnew : ∀ (i : Nat) (e : MapEntry), es[i]? = some e → e.key ≠ kv3 l := fun i e hi => hno e (List.mem_of_getElem? (by simpa using hi))
    split at hi <;> split at hj
    · omega
    · cases hi
      exact absurd hk.symm (hnew j e' hj)
    · cases hj
      exact absurd hk (hnew i e hi)
    · exact h.one i j e e' hi hj hk
omit [W0] in
/-- A slice that can be read, with its room. -/
structure Rs (L : List Chunk) (k : Nat) (v : Value) (m : Nat) (xs : List Value) : Prop where
  sl : Sl L k v m xs
  room : ∃ a c, v = .slice a m c ∧ m ≤ c
theorem Rs.sub {L L' : List Chunk} (hs : ∀ x ∈ L.flatten, x ∈ L'.flatten) {k m : Nat} {v : Value} {xs : List Value} (h : Rs L k v m xs) : Rs L' k v m xs := ⟨sl_sub hs h.sl, h.room⟩
theorem Rs.there {L : List Chunk} {C : Chunk} {k m : Nat} {v : Value} {xs : List Value} (h : Rs L k v m xs) : Rs (C :: L) k v m xs := ⟨sl_there h.sl, h.room⟩
theorem Rs.one {L : List Chunk} {k m : Nat} {v : Value} {xs : List Value} (h : Rs L k v m xs) : v.oneCell' = true := by obtain ⟨a, c, rfl, _⟩ := h.room; rfl
theorem Rs.nil {L : List Chunk} {k : Nat} : Rs L k (.slice none 0 0) 0 [] := ⟨.inl ⟨0, rfl, rfl, rfl⟩, none, 0, rfl, Nat.le_refl _⟩
theorem Rs.len {L : List Chunk} {k m : Nat} {v : Value} {xs : List Value} (h : Rs L k v m xs) : xs.length = m * k := by
  rcases h.sl with ⟨c, rfl, rfl, rfl⟩ | ⟨a, cap, rfl, _, hl⟩
  · simp
  · exact hl
end
end Go.Vx
namespace Go.Vx
theorem Inc.mem [W0] {S L : List Chunk} (h : Inc S L) : ∀ x ∈ S.flatten, x ∈ L.flatten := by
  obtain ⟨R, hp⟩ := h
  intro x hx
  exact hp.flatten.mem_iff.2 (by rw [List.flatten_append]; exact List.mem_append_left _ hx)
end Go.Vx
namespace Go.Proofs.YtehpnblbkldojaaDoor
open Go Go.Vx Go.Nm Go.Ob
set_option linter.all false
set_option maxRecDepth 4000
section
variable [W0]
theorem str_gt {s : List UInt8} {i : Nat} {c : UInt8} (h : s[i]? = some c) : (str s)[i]? = some c := by
  have hi := (List.getElem?_eq_some_iff.1 h).1
  have := str_get hi
  rw [this]
  have e := (List.getElem?_eq_some_iff.1 h).2
  simp [List.getD, h]
theorem dec_str (a b : List UInt8) : decide (str a = str b) = decide (a = b) := decide_eq_decide.2 str_inj
end
end Go.Proofs.YtehpnblbkldojaaDoor
namespace Go.Nm
open Go Go.Lib
set_option linter.all false
def ixS (c : UInt8) (s : List UInt8) : Int := Lib.indexByte s c
def cuS (c : UInt8) (s : List UInt8) : List UInt8 × List UInt8 × Bool := if ixS c s < 0 then (s, [], false) else (s.take (ixS c s).toNat, s.drop ((ixS c s).toNat + 1), true)
theorem ix_cases (c : UInt8) (s : List UInt8) : (c ∉ s ∧ ixS c s = -1) ∨ ∃ k : Nat, k < s.length ∧ ixS c s = (k : Int) ∧ s[k]? = some c ∧ c ∉ s.take k := by
  unfold ixS
  induction s with
  | nil => exact .inl ⟨by simp, rfl⟩
  | cons x t ih =>
    by_cases hx : x = c
    · subst hx
      exact .inr ⟨0, by simp, by simp [Lib.indexByte], by simp, by simp⟩
    · rcases ih with ⟨h1, h2⟩ | ⟨k, h2, h3, h4, h5⟩
      · exact .inl ⟨by simp [h1, Ne.symm hx], by simp [Lib.indexByte, hx, h2]⟩
      · refine .inr ⟨k + 1, by simpa using h2, ?_, by simpa using h4, by simp [h5, Ne.symm hx]⟩
        rw [Lib.indexByte, if_neg (by simpa using hx), h3, if_neg (by simp)]
        omega
theorem ix_split {c : UInt8} {s : List UInt8} {k : Nat} (h : s[k]? = some c) : s = s.take k ++ c :: s.drop (k + 1) := by
  obtain ⟨hk, e⟩ := List.getElem?_eq_some_iff.1 h
  conv => lhs; rw [← List.take_append_drop k s, List.drop_eq_getElem_cons hk, e]
theorem ix_app {c : UInt8} {u v : List UInt8} (h : c ∉ u) : ixS c (u ++ c :: v) = (u.length : Int) := by
  induction u with
  | nil => simp [ixS, Lib.indexByte]
  | cons x u ih =>
    have hx : x ≠ c := fun e => h (by simp [e])
    have := ih (fun w => h (by simp [w]))
    unfold ixS at this ⊢
    rw [List.cons_append, Lib.indexByte, if_neg (by simpa using hx), this, if_neg (by simp)]
    simp
theorem ix_none {c : UInt8} {s : List UInt8} (h : c ∉ s) : ixS c s = -1 := by
  rcases ix_cases c s with h' | ⟨k, h1, h2, h3, h4⟩
  · exact h'.2
  · exact absurd (List.mem_of_getElem? h3) h
theorem cu_app {c : UInt8} {u v : List UInt8} (h : c ∉ u) : cuS c (u ++ c :: v) = (u, v, true) := by
  unfold cuS
  rw [ix_app h, if_neg (by omega), Int.toNat_natCast]
  simp
theorem cu_none {c : UInt8} {s : List UInt8} (h : c ∉ s) : cuS c s = (s, [], false) := by
  unfold cuS
  rw [ix_none h, if_pos (by omega)]
def rp1 (s x : List UInt8) : List UInt8 := if ixS 42 s < 0 then s else s.take (ixS 42 s).toNat ++ x ++ s.drop ((ixS 42 s).toNat + 1)
theorem rp1_none {s x : List UInt8} (h : 42 ∉ s) : rp1 s x = s := by
  unfold rp1
  rw [ix_none h, if_pos (by omega)]
theorem rp1_app {u v x : List UInt8} (h : 42 ∉ u) : rp1 (u ++ 42 :: v) x = u ++ x ++ v := by
  unfold rp1
  rw [ix_app h, if_neg (by omega), Int.toNat_natCast]
  simp
theorem stA_none : ∀ (r : List UInt8) (i : Nat) (a : Int), 42 ∉ r → stA i a r = a
  | [], _, _, _ => rfl
  | c :: r, i, a, h => by
    unfold stA
    rw [if_neg (fun e => h (by simp [e])), stA_none r _ _ (fun w => h (by simp [w]))]
theorem stA_some : ∀ (r : List UInt8) (i : Nat) (a : Int), 0 ≤ a → 42 ∈ r → stA i a r = -2
  | [], _, _, _, h => by simp at h
  | c :: r, i, a, h0, h => by
    unfold stA
    by_cases hc : c = 42
    · rw [if_pos hc, if_pos h0]
    · rw [if_neg hc, stA_some r _ _ h0 (by
        rcases List.mem_cons.1 h with w | w
        · exact absurd w.symm hc
        · exact w)]
theorem stA_first : ∀ (u v : List UInt8) (i : Nat), 42 ∉ u → stA i (-1) (u ++ 42 :: v) = stA (i + u.length + 1) ((i + u.length : Nat) : Int) v
  | [], v, i, _ => by
    rw [List.nil_append]
    conv => lhs; unfold stA
    rw [if_pos rfl, if_neg (by omega)]
    simp
  | c :: u, v, i, h => by
    rw [List.cons_append]
    conv => lhs; unfold stA
    rw [if_neg (fun e => h (by simp [e])), stA_first u v (i + 1) (fun w => h (by simp [w]))]
    simp only [List.length_cons]
    rw [show i + 1 + u.length = i + (u.length + 1) from by omega]
theorem st_none {s : List UInt8} (h : 42 ∉ s) : stN s = -1 := stA_none s 0 (-1) h
theorem st_one {u v : List UInt8} (hu : 42 ∉ u) (hv : 42 ∉ v) : stN (u ++ 42 :: v) = (u.length : Int) := by
  unfold stN
  rw [stA_first u v 0 hu, stA_none _ _ _ hv]
  simp
theorem st_two {u v : List UInt8} (hu : 42 ∉ u) (hv : 42 ∈ v) : stN (u ++ 42 :: v) = -2 := by
  unfold stN
  rw [stA_first u v 0 hu, stA_some _ _ _ (by omega) hv]
theorem vl_bad {s : List UInt8} {c : UInt8} (h : c ∈ s) (hc : chB c = false) : vlN s = false := by
  unfold vlN
  have : s.all chB = false := by
    rw [Bool.eq_false_iff]
    intro w
    have := List.all_eq_true.1 w c h
    rw [hc] at this
    exact Bool.noConfusion this
  rw [this]
  simp
theorem star_cases (s : List UInt8) : 42 ∉ s ∨ ∃ u v, s = u ++ 42 :: v ∧ 42 ∉ u := by
  rcases ix_cases 42 s with h | ⟨k, h1, h2, h3, h4⟩
  · exact .inl h.1
  · exact .inr ⟨_, _, ix_split h3, h4⟩
theorem fits_my (s : List UInt8) : vlN (rp1 s [120]) = (myN s).1 := by
  rcases star_cases s with h | ⟨u, v, rfl, hu⟩
  · rw [rp1_none h]
    unfold myN
    rw [st_none h, if_neg (by decide), if_pos (by decide)]
  · rw [rp1_app hu]
    by_cases hv : 42 ∈ v
    · rw [vl_bad (c := 42) (by simp [hv]) (by decide)]
      unfold myN
      rw [st_two hu hv, if_pos rfl]
    · unfold myN
      rw [st_one hu hv, if_neg (by omega), if_neg (by omega), Int.toNat_natCast]
      simp
theorem my_star {s : List UInt8} (h : (myN s).1 = true) : (myN s).2 = decide (42 ∈ s) := by
  rcases star_cases s with g | ⟨u, v, rfl, hu⟩
  · rw [decide_eq_false g]
    unfold myN
    rw [st_none g, if_neg (by decide), if_pos (by decide)]
  · rw [decide_eq_true (p := 42 ∈ u ++ 42 :: v) (by simp)]
    by_cases hv : 42 ∈ v
    · unfold myN at h
      rw [st_two hu hv, if_pos rfl] at h
      exact Bool.noConfusion h
    · unfold myN
      rw [st_one hu hv, if_neg (by omega), if_neg (by omega)]
def pvN (a b : List UInt8) : Bool := (decide (a = []) || (myN a).1) && (myN b).1 && decide (decide (42 ∈ a) = decide (42 ∈ b))
theorem my_nil : (myN []).1 = false := by decide
theorem sd_cu (u : List UInt8) : sdN u = ((cuS 58 u).1, if (cuS 58 u).2.2 = true then (cuS 58 u).2.1 else (cuS 58 u).1) ∧ (clN u).isSome = (cuS 58 u).2.2 := by
  unfold sdN clN
  rcases ix_cases 58 u with ⟨h1, h2⟩ | ⟨k, h1, h2, h3, h4⟩
  · have e : u.findIdx? (· == 58) = none := by
      rw [List.findIdx?_eq_none_iff]
      intro x hx
      simpa using fun w : x = 58 => h1 (w ▸ hx)
    rw [e, cu_none h1]
    simp
  · have e : u.findIdx? (· == 58) = some k := by
      rw [List.findIdx?_eq_some_iff_getElem]
      obtain ⟨hk, hx⟩ := List.getElem?_eq_some_iff.1 h3
      refine ⟨hk, by rw [hx]; rfl, fun j hj => ?_⟩
      have hm : u[j]'(by omega) ∈ u.take k := by
        rw [List.mem_iff_getElem]
        exact ⟨j, by rw [List.length_take]; omega, by rw [List.getElem_take]⟩
      simpa using fun w : u[j]'(by omega) = 58 => h4 (w ▸ hm)
    rw [e]
    unfold cuS
    rw [h2, if_neg (by omega), Int.toNat_natCast]
    simp
theorem ps_prog (s : List UInt8) : psN s = if pvN (cuS 58 (plN s).2).1 (if (cuS 58 (plN s).2).2.2 = true then (cuS 58 (plN s).2).2.1 else (cuS 58 (plN s).2).1) = true
    then some ⟨(plN s).1, (cuS 58 (plN s).2).1, if (cuS 58 (plN s).2).2.2 = true then (cuS 58 (plN s).2).2.1 else (cuS 58 (plN s).2).1⟩ else none := by
  have hps : psN s = if (if (sdN (plN s).2).1 = [] ∧ (clN (plN s).2).isSome = true then (true, false) else myN (sdN (plN s).2).1).1 = true ∧ (myN (sdN (plN s).2).2).1 = true ∧ (if (sdN (plN s).2).1 = [] ∧ (clN (plN s).2).isSome = true then (true, false) else myN (sdN (plN s).2).1).2 = (myN (sdN (plN s).2).2).2 then some ⟨(plN s).1, (sdN (plN s).2).1, (sdN (plN s).2).2⟩ else none := rfl
  rw [hps, (sd_cu _).1, (sd_cu _).2]
  have hz : (cuS 58 (plN s).2).2.2 = false → (if (cuS 58 (plN s).2).2.2 = true then (cuS 58 (plN s).2).2.1 else (cuS 58 (plN s).2).1) = (cuS 58 (plN s).2).1 := fun h => by rw [h]; rfl
  generalize (if (cuS 58 (plN s).2).2.2 = true then (cuS 58 (plN s).2).2.1 else (cuS 58 (plN s).2).1) = d at *
  generalize (cuS 58 (plN s).2).1 = a at *
  generalize (cuS 58 (plN s).2).2.2 = t at *
  have key : ((if a = [] ∧ t = true then (true, false) else myN a).1 = true ∧ (myN d).1 = true ∧ (if a = [] ∧ t = true then (true, false) else myN a).2 = (myN d).2) ↔ pvN a d = true := by
    unfold pvN
    rw [Bool.and_eq_true, Bool.and_eq_true, Bool.or_eq_true, decide_eq_true_eq, decide_eq_true_eq]
    by_cases h : a = [] ∧ t = true
    · rw [if_pos h, h.1]
      constructor
      · rintro ⟨_, h2, h3⟩
        rw [my_star h2] at h3
        exact ⟨⟨.inl rfl, h2⟩, by simpa using h3⟩
      · rintro ⟨⟨_, h2⟩, h3⟩
        refine ⟨rfl, h2, ?_⟩
        rw [my_star h2]
        simpa using h3
    · rw [if_neg h]
      constructor
      · rintro ⟨h1, h2, h3⟩
        rw [my_star h2, my_star h1] at h3
        exact ⟨⟨.inr h1, h2⟩, h3⟩
      · rintro ⟨⟨h1, h2⟩, h3⟩
        rcases h1 with h1 | h1
        · exfalso
          have ht : t = false := by
            cases t with
            | false => rfl
            | true => exact absurd ⟨h1, rfl⟩ h
          rw [hz ht, h1, my_nil] at h2
          exact Bool.noConfusion h2
        · refine ⟨h1, h2, ?_⟩
          rw [my_star h2, my_star h1]
          exact h3
  simp only [key]
end Go.Nm
namespace Go.Proofs.YtehpnblbkldojaaDoor
open Go Go.Vx Go.Nm Go.Ob Go.Lib
set_option linter.all false
set_option maxRecDepth 4000
section
variable [W0]
theorem hasprefix0_n (s w : List UInt8) (L : List Chunk) (hs : s.length ≤ 9223372036854775000) (hw : w.length ≤ 9223372036854775000) : GvP Tryd.prog 39 [.string (str s), .string (str w)].toArray L (.bool (decide (w.length ≤ s.length ∧ s.take w.length = w))) := by
  refine Gv.of_body (args := [.string (str s), .string (str w)]) Tryd.func39 rfl rfl ?_
  have z1 : (str s).size = s.length := str_size s
  have z2 : (str w).size = w.length := str_size w
  (repeat' first|refine kW ?_|refine kU fun bk=>?_|refine kV fun hc=>?_|refine kZ (fun hc=>?_) fun hc=>?_|fail)
  · have h1 := hc
    rw [z1, z2] at h1
    refine OW_EV (EV_cutL s 0 w.length rfl rfl (bnd_int rfl (by omega)) (Nat.zero_le _) (by omega)) rfl ?_
    (repeat' first|refine kW ?_|refine kU fun bk=>?_|refine kV fun hc=>?_|refine kZ (fun hc=>?_) fun hc=>?_|fail)
    refine kR ?_
    refine ⟨_, iC, ?_, rfl⟩
    show Value.bool _ = Value.bool _
    congr 1
    rw [Bool.eq_iff_iff, decide_eq_true_eq, decide_eq_true_eq, str_inj, List.drop_zero, Nat.sub_zero]
    exact ⟨fun h => ⟨by omega, h⟩, fun h => h.2⟩
  · rw [z1, z2] at hc
    refine kR ?_
    exact ⟨_, iC, by rw [decide_eq_false (by omega)]; rfl, rfl⟩
theorem hasprefix_n (s w : List UInt8) (L : List Chunk) (hs : s.length ≤ 9223372036854775000) (hw : w.length ≤ 9223372036854775000) : GvP Tryd.prog 25 [.string (str s), .string (str w)].toArray L (.bool (decide (w.length ≤ s.length ∧ s.take w.length = w))) := by
  refine Gv.of_body (args := [.string (str s), .string (str w)]) Tryd.func25 rfl rfl ?_
  (repeat' first|refine kW ?_|refine kU fun bk=>?_|refine kV fun hc=>?_|refine kZ (fun hc=>?_) fun hc=>?_|fail)
  refine OW_callP rfl rfl rfl (hasprefix0_n s w _ hs hw) rfl ?_
  (repeat' first|refine kW ?_|refine kU fun bk=>?_|refine kV fun hc=>?_|refine kZ (fun hc=>?_) fun hc=>?_|fail)
  exact kE
theorem hassuffix0_n (s w : List UInt8) (L : List Chunk) (hs : s.length ≤ 9223372036854775000) (hw : w.length ≤ 9223372036854775000) : GvP Tryd.prog 51 [.string (str s), .string (str w)].toArray L (.bool (endB s w)) := by
  refine Gv.of_body (args := [.string (str s), .string (str w)]) Tryd.func51 rfl rfl ?_
  have z1 : (str s).size = s.length := str_size s
  have z2 : (str w).size = w.length := str_size w
  by_cases h : w.length ≤ s.length
  · (repeat' first|refine kW ?_|refine kU fun bk=>?_|refine kV fun hc=>?_|refine kZ (fun hc=>?_) fun hc=>?_|fail)
    refine OW_EV (EV_cutL s (s.length - w.length) s.length rfl (bnd_int rfl (by omega)) rfl (by omega) (Nat.le_refl _)) rfl ?_
    (repeat' first|refine kW ?_|refine kU fun bk=>?_|refine kV fun hc=>?_|refine kZ (fun hc=>?_) fun hc=>?_|fail)
    refine kR ?_
    refine ⟨_, iC, ?_, rfl⟩
    show Value.bool _ = Value.bool _
    congr 1
    unfold endB
    rw [decide_eq_true h, Bool.true_and, Bool.eq_iff_iff, decide_eq_true_eq, decide_eq_true_eq, str_inj, List.take_of_length_le (by simp)]
  · (repeat' first|refine kW ?_|refine kU fun bk=>?_|refine kV fun hc=>?_|refine kZ (fun hc=>?_) fun hc=>?_|fail)
    refine kR ?_
    exact ⟨_, iC, by unfold endB; rw [decide_eq_false h]; rfl, rfl⟩
theorem hassuffix_n (s w : List UInt8) (L : List Chunk) (hs : s.length ≤ 9223372036854775000) (hw : w.length ≤ 9223372036854775000) : GvP Tryd.prog 42 [.string (str s), .string (str w)].toArray L (.bool (endB s w)) := by
  refine Gv.of_body (args := [.string (str s), .string (str w)]) Tryd.func42 rfl rfl ?_
  (repeat' first|refine kW ?_|refine kU fun bk=>?_|refine kV fun hc=>?_|refine kZ (fun hc=>?_) fun hc=>?_|fail)
  refine OW_callP rfl rfl rfl (hassuffix0_n s w _ hs hw) rfl ?_
  (repeat' first|refine kW ?_|refine kU fun bk=>?_|refine kV fun hc=>?_|refine kZ (fun hc=>?_) fun hc=>?_|fail)
  exact kE
theorem cutprefix0_n (s w : List UInt8) (L : List Chunk) (hs : s.length ≤ 9223372036854775000) (hw : w.length ≤ 9223372036854775000) : GvP Tryd.prog 32 [.string (str s), .string (str w)].toArray L
    (if w.length ≤ s.length ∧ s.take w.length = w then .tuple #[.string (str (s.drop w.length)), .bool true] else .tuple #[.string (str s), .bool false]) := by
  refine Gv.of_body (args := [.string (str s), .string (str w)]) Tryd.func32 rfl rfl ?_
  have z1 : (str s).size = s.length := str_size s
  have z2 : (str w).size = w.length := str_size w
  have hp := hasprefix0_n s w L hs hw
  by_cases h : w.length ≤ s.length ∧ s.take w.length = w
  · rw [decide_eq_true h] at hp
    rw [if_pos h]
    (repeat' first|refine kW ?_|refine kU fun bk=>?_|refine kV fun hc=>?_|refine kZ (fun hc=>?_) fun hc=>?_|fail)
    refine OW_callP rfl rfl rfl hp rfl ?_
    (repeat' first|refine kW ?_|refine kU fun bk=>?_|refine kV fun hc=>?_|refine kZ (fun hc=>?_) fun hc=>?_|fail)
    refine OW_EV (EV_cutL s w.length s.length rfl (bnd_int rfl (by omega)) rfl h.1 (Nat.le_refl _)) rfl ?_
    rw [List.take_of_length_le (l := s.drop w.length) (by simp)]
    (repeat' first|refine kW ?_|refine kU fun bk=>?_|refine kV fun hc=>?_|refine kZ (fun hc=>?_) fun hc=>?_|fail)
    exact kE
  · rw [decide_eq_false h] at hp
    rw [if_neg h]
    (repeat' first|refine kW ?_|refine kU fun bk=>?_|refine kV fun hc=>?_|refine kZ (fun hc=>?_) fun hc=>?_|fail)
    refine OW_callP rfl rfl rfl hp rfl ?_
    (repeat' first|refine kW ?_|refine kU fun bk=>?_|refine kV fun hc=>?_|refine kZ (fun hc=>?_) fun hc=>?_|fail)
    exact kE
theorem cutprefix_n (s w : List UInt8) (L : List Chunk) (hs : s.length ≤ 9223372036854775000) (hw : w.length ≤ 9223372036854775000) : GvP Tryd.prog 20 [.string (str s), .string (str w)].toArray L
    (if w.length ≤ s.length ∧ s.take w.length = w then .tuple #[.string (str (s.drop w.length)), .bool true] else .tuple #[.string (str s), .bool false]) := by
  refine Gv.of_body (args := [.string (str s), .string (str w)]) Tryd.func20 rfl rfl ?_
  have hp := cutprefix0_n s w L hs hw
  by_cases h : w.length ≤ s.length ∧ s.take w.length = w
  · rw [if_pos h] at hp ⊢
    (repeat' first|refine kW ?_|refine kU fun bk=>?_|refine kV fun hc=>?_|refine kZ (fun hc=>?_) fun hc=>?_|fail)
    refine OW_callP rfl rfl rfl hp rfl ?_
    (repeat' first|refine kW ?_|refine kU fun bk=>?_|refine kV fun hc=>?_|refine kZ (fun hc=>?_) fun hc=>?_|fail)
    exact kE
  · rw [if_neg h] at hp ⊢
    (repeat' first|refine kW ?_|refine kU fun bk=>?_|refine kV fun hc=>?_|refine kZ (fun hc=>?_) fun hc=>?_|fail)
    refine OW_callP rfl rfl rfl hp rfl ?_
    (repeat' first|refine kW ?_|refine kU fun bk=>?_|refine kV fun hc=>?_|refine kZ (fun hc=>?_) fun hc=>?_|fail)
    exact kE
theorem cutsuffix0_n (s w : List UInt8) (L : List Chunk) (hs : s.length ≤ 9223372036854775000) (hw : w.length ≤ 9223372036854775000) : GvP Tryd.prog 45 [.string (str s), .string (str w)].toArray L
    (if endB s w = true then .tuple #[.string (str (s.take (s.length - w.length))), .bool true] else .tuple #[.string (str s), .bool false]) := by
  refine Gv.of_body (args := [.string (str s), .string (str w)]) Tryd.func45 rfl rfl ?_
  have z1 : (str s).size = s.length := str_size s
  have z2 : (str w).size = w.length := str_size w
  have hp := hassuffix0_n s w L hs hw
  cases h : endB s w with
  | true =>
    have hl : w.length ≤ s.length := by
      unfold endB at h
      rw [Bool.and_eq_true, decide_eq_true_eq] at h
      exact h.1
    rw [h] at hp
    rw [if_pos rfl]
    (repeat' first|refine kW ?_|refine kU fun bk=>?_|refine kV fun hc=>?_|refine kZ (fun hc=>?_) fun hc=>?_|fail)
    refine OW_callP rfl rfl rfl hp rfl ?_
    (repeat' first|refine kW ?_|refine kU fun bk=>?_|refine kV fun hc=>?_|refine kZ (fun hc=>?_) fun hc=>?_|fail)
    refine OW_EV (EV_cutL s 0 (s.length - w.length) rfl rfl (bnd_int rfl (by omega)) (Nat.zero_le _) (by omega)) rfl ?_
    rw [List.drop_zero, Nat.sub_zero]
    (repeat' first|refine kW ?_|refine kU fun bk=>?_|refine kV fun hc=>?_|refine kZ (fun hc=>?_) fun hc=>?_|fail)
    exact kE
  | false =>
    rw [h] at hp
    rw [if_neg Bool.false_ne_true]
    (repeat' first|refine kW ?_|refine kU fun bk=>?_|refine kV fun hc=>?_|refine kZ (fun hc=>?_) fun hc=>?_|fail)
    refine OW_callP rfl rfl rfl hp rfl ?_
    (repeat' first|refine kW ?_|refine kU fun bk=>?_|refine kV fun hc=>?_|refine kZ (fun hc=>?_) fun hc=>?_|fail)
    exact kE
theorem cutsuffix_n (s w : List UInt8) (L : List Chunk) (hs : s.length ≤ 9223372036854775000) (hw : w.length ≤ 9223372036854775000) : GvP Tryd.prog 36 [.string (str s), .string (str w)].toArray L
    (if endB s w = true then .tuple #[.string (str (s.take (s.length - w.length))), .bool true] else .tuple #[.string (str s), .bool false]) := by
  refine Gv.of_body (args := [.string (str s), .string (str w)]) Tryd.func36 rfl rfl ?_
  have hp := cutsuffix0_n s w L hs hw
  cases h : endB s w with
  | true =>
    rw [if_pos h] at hp
    rw [if_pos rfl]
    (repeat' first|refine kW ?_|refine kU fun bk=>?_|refine kV fun hc=>?_|refine kZ (fun hc=>?_) fun hc=>?_|fail)
    refine OW_callP rfl rfl rfl hp rfl ?_
    (repeat' first|refine kW ?_|refine kU fun bk=>?_|refine kV fun hc=>?_|refine kZ (fun hc=>?_) fun hc=>?_|fail)
    exact kE
  | false =>
    rw [if_neg (by rw [h]; exact Bool.false_ne_true)] at hp
    rw [if_neg Bool.false_ne_true]
    (repeat' first|refine kW ?_|refine kU fun bk=>?_|refine kV fun hc=>?_|refine kZ (fun hc=>?_) fun hc=>?_|fail)
    refine OW_callP rfl rfl rfl hp rfl ?_
    (repeat' first|refine kW ?_|refine kU fun bk=>?_|refine kV fun hc=>?_|refine kZ (fun hc=>?_) fun hc=>?_|fail)
    exact kE
theorem indexbyte0_n (s : List UInt8) (c : UInt8) (L : List Chunk) : GvP Tryd.prog 52 [.string (str s), .int .u8 (c.toNat : Int)].toArray L (.int .i64 (ixS c s)) := by
  refine Gv.of_body (args := [.string (str s), .int .u8 (c.toNat : Int)]) Tryd.func52 rfl rfl ?_
  have e : firstIdx (str s) ((c.toNat : Int).toNat.toUInt8) = ixS c s := by
    rw [Lib.firstIdx_eq, Int.toNat_natCast]
    show Lib.indexByte s _ = _
    rw [show c.toNat.toUInt8 = c from by simp]
    rfl
  (repeat' first|refine kW ?_|refine kU fun bk=>?_|refine kV fun hc=>?_|refine kZ (fun hc=>?_) fun hc=>?_|fail)
  refine OW_EV (OW_extern (f := 61) (v := .int .i64 (ixS c s)) rfl rfl Tryd.func61 (by kernel_rfl) (by kernel_rfl) (by kernel_rfl) rfl (fun w _ => by rw [← e]; exact run_indexByte_string (str s) (c.toNat : Int) w)) rfl ?_
  (repeat' first|refine kW ?_|refine kU fun bk=>?_|refine kV fun hc=>?_|refine kZ (fun hc=>?_) fun hc=>?_|fail)
  exact kE
theorem index0_n (s : List UInt8) (c : UInt8) (L : List Chunk) : GvP Tryd.prog 43 [.string (str s), .string (str [c])].toArray L (.int .i64 (ixS c s)) := by
  refine Gv.of_body (args := [.string (str s), .string (str [c])]) Tryd.func43 rfl rfl ?_
  have z2 : (str [c]).size = 1 := rfl
  (repeat' first|refine kW ?_|refine kU fun bk=>?_|refine kV fun hc=>?_|refine kZ (fun hc=>?_) fun hc=>?_|fail)
  · have e := str_inj.1 hc
    rw [← e, show ixS c [c] = 0 from by simp [ixS, Lib.indexByte]]
    exact kE
  · refine OW_EV (EV_indexStr (j := 0) (u := c) rfl rfl rfl rfl) rfl ?_
    (repeat' first|refine kW ?_|refine kU fun bk=>?_|refine kV fun hc=>?_|refine kZ (fun hc=>?_) fun hc=>?_|fail)
    refine OW_callP rfl rfl rfl (indexbyte0_n s c _) rfl ?_
    (repeat' first|refine kW ?_|refine kU fun bk=>?_|refine kV fun hc=>?_|refine kZ (fun hc=>?_) fun hc=>?_|fail)
    exact kE
theorem index_n (s : List UInt8) (c : UInt8) (L : List Chunk) : GvP Tryd.prog 44 [.string (str s), .string (str [c])].toArray L (.int .i64 (ixS c s)) := by
  refine Gv.of_body (args := [.string (str s), .string (str [c])]) Tryd.func44 rfl rfl ?_
  (repeat' first|refine kW ?_|refine kU fun bk=>?_|refine kV fun hc=>?_|refine kZ (fun hc=>?_) fun hc=>?_|fail)
  refine OW_callP rfl rfl rfl (index0_n s c _) rfl ?_
  (repeat' first|refine kW ?_|refine kU fun bk=>?_|refine kV fun hc=>?_|refine kZ (fun hc=>?_) fun hc=>?_|fail)
  exact kE
theorem contains_n (s : List UInt8) (c : UInt8) (L : List Chunk) : GvP Tryd.prog 35 [.string (str s), .string (str [c])].toArray L (.bool (decide (c ∈ s))) := by
  refine Gv.of_body (args := [.string (str s), .string (str [c])]) Tryd.func35 rfl rfl ?_
  have hi := index_n s c L
  rcases ix_cases c s with ⟨h1, h2⟩ | ⟨k, h1, h2, h3, h4⟩
  · rw [decide_eq_false h1]
    rw [h2] at hi
    (repeat' first|refine kW ?_|refine kU fun bk=>?_|refine kV fun hc=>?_|refine kZ (fun hc=>?_) fun hc=>?_|fail)
    refine OW_callP rfl rfl rfl hi rfl ?_
    (repeat' first|refine kW ?_|refine kU fun bk=>?_|refine kV fun hc=>?_|refine kZ (fun hc=>?_) fun hc=>?_|fail)
    exact kE
  · rw [decide_eq_true (List.mem_of_getElem? h3)]
    rw [h2] at hi
    (repeat' first|refine kW ?_|refine kU fun bk=>?_|refine kV fun hc=>?_|refine kZ (fun hc=>?_) fun hc=>?_|fail)
    refine OW_callP rfl rfl rfl hi rfl ?_
    (repeat' first|refine kW ?_|refine kU fun bk=>?_|refine kV fun hc=>?_|refine kZ (fun hc=>?_) fun hc=>?_|fail)
    exact kE
end
end Go.Proofs.YtehpnblbkldojaaDoor
namespace Go.Proofs.YtehpnblbkldojaaDoor
open Go Go.Vx Go.Nm Go.Ob Go.Lib
set_option linter.all false
set_option maxRecDepth 4000
def alR (r : Nat) : Bool := decide (33 ≤ r) && ![127, 126, 94, 58, 63, 42, 91, 92].contains r
def clR (a b : Nat) : Bool := (decide (a = 47) && (decide (b = 47) || decide (b = 46))) || (decide (a = 46) && decide (b = 46)) || (decide (a = 64) && decide (b = 123))
theorem al_ch (c : UInt8) : alR c.toNat = chB c := by
  have : ∀ c : Fin 256, alR (UInt8.ofNat c.val).toNat = chB (UInt8.ofNat c.val) := by decide +kernel
  have h := this ⟨c.toNat, c.toNat_lt⟩
  simpa using h
theorem u8_is (c : UInt8) (n : Nat) (h : n < 256) : decide (c.toNat = n) = decide (c = UInt8.ofNat n) := by
  rw [decide_eq_decide]
  constructor
  · intro e; rw [← e]; simp
  · intro e; rw [e]; simp; omega
theorem cl_cl (p : Nat) (pb c : UInt8) (h : p = pb.toNat ∨ (128 ≤ p ∧ 128 ≤ pb.toNat)) : clR p c.toNat = clB pb c := by
  have e : ∀ n, n < 128 → decide (p = n) = decide (pb = UInt8.ofNat n) := fun n hn => by
    rw [← u8_is pb n (by omega), decide_eq_decide]
    omega
  unfold clR clB
  rw [e 47 (by decide), e 46 (by decide), e 64 (by decide), u8_is c 47 (by decide), u8_is c 46 (by decide), u8_is c 123 (by decide)]
  rfl
theorem alR_high {r : Nat} (h : 128 ≤ r) : alR r = true := by
  unfold alR
  rw [decide_eq_true (by omega)]
  have : [127, 126, 94, 58, 63, 42, 91, 92].contains r = false := by
    rw [Bool.eq_false_iff]
    intro w
    rw [List.contains_iff_mem] at w
    simp only [List.mem_cons, List.not_mem_nil, or_false] at w
    omega
  rw [this]; rfl
theorem clR_high {p r : Nat} (h : 128 ≤ r) : clR p r = false := by
  unfold clR
  rw [decide_eq_false (p := r = 47) (by omega), decide_eq_false (p := r = 46) (by omega), decide_eq_false (p := r = 123) (by omega)]
  simp
section
variable [W0]
theorem allowed_n (r : Nat) (L : List Chunk) (h : r ≤ 1114111) : GvP Tryd.prog 40 [.int .i32 (r : Int)].toArray L (.bool (alR r)) := by
  refine Gv.of_body (args := [.int .i32 (r : Int)]) Tryd.func40 rfl rfl ?_
  (repeat' first|refine kW ?_|refine kU fun bk=>?_|refine kV fun hc=>?_|refine kZ (fun hc=>?_) fun hc=>?_|fail)
  all_goals (refine kR ?_; refine ⟨_, iC, ?_, rfl⟩; show Value.bool _ = Value.bool _; congr 1)
  all_goals (unfold alR; rw [Bool.eq_iff_iff]; simp; try omega)
theorem clash_n (a b : Nat) (L : List Chunk) (ha : a ≤ 1114111) (hb : b ≤ 1114111) : GvP Tryd.prog 41 [.int .i32 (a : Int), .int .i32 (b : Int)].toArray L (.bool (clR a b)) := by
  refine Gv.of_body (args := [.int .i32 (a : Int), .int .i32 (b : Int)]) Tryd.func41 rfl rfl ?_
  (repeat' first|refine kW ?_|refine kU fun bk=>?_|refine kV fun hc=>?_|refine kZ (fun hc=>?_) fun hc=>?_|fail)
  all_goals (refine kR ?_; refine ⟨_, iC, ?_, rfl⟩; show Value.bool _ = Value.bool _; congr 1)
  all_goals (unfold clR; rw [Bool.eq_iff_iff]; simp; try omega)
theorem hparts_n (s : List UInt8) (L : List Chunk) (hs : s.length ≤ 9223372036854775000) : GvP Tryd.prog 26 [.string (str s)].toArray L (.bool (ckN [] 47 s)) := by
  refine Gv.of_body (args := [.string (str s)]) Tryd.func26 rfl rfl ?_
  have z1 : (str s).size = s.length := str_size s
  obtain ⟨V, hV⟩ : ∃ V, V = ckN [] 47 s := ⟨_, rfl⟩
  rw [← hV]
  (repeat' first|refine kW ?_|refine kU fun bk=>?_|refine kV fun hc=>?_|refine kZ (fun hc=>?_) fun hc=>?_|fail)
  refine OW_rangeS rfl rfl (fun b => ?_)
  (repeat' first|refine kW ?_|refine kU fun bk=>?_|refine kV fun hc=>?_|refine kZ (fun hc=>?_) fun hc=>?_|fail)
  refine WC_loop (X := Nat × Nat × UInt8) (fun x => [(0, .string (str s)), (3, .int .i32 (x.2.1 : Int)), (7, .pointer (some ⟨b, 0, none⟩))]) (fun x => [(b, .stringIter (str s) x.1)] :: L)
    (fun x => x.1 ≤ s.length ∧ ckN (s.take x.1) x.2.2 (s.drop x.1) = V ∧ (x.2.1 = x.2.2.toNat ∨ (128 ≤ x.2.1 ∧ 128 ≤ x.2.2.toNat)) ∧ x.2.1 ≤ 1114111) (fun x => s.length - x.1) (0, 47, 47)
    ⟨Nat.zero_le _, by rw [hV]; rfl, .inl rfl, by simp⟩ iS (fun w h => h) ?_
  rintro ⟨k, p, pb⟩ ⟨h1, h2, h3, h4⟩
  simp only at h1 h2 h3 h4 ⊢
  by_cases hk : k < s.length
  · obtain ⟨c, hc0⟩ : ∃ c, c = s.getD k 0 := ⟨_, rfl⟩
    have hdr : s.drop k = c :: s.drop (k + 1) := by
      rw [hc0, List.getD_eq_getElem?_getD, List.getElem?_eq_getElem hk]
      exact List.drop_eq_getElem_cons hk
    have htk : s.take (k + 1) = s.take k ++ [c] := by
      rw [List.take_add_one, hc0, List.getD_eq_getElem?_getD, List.getElem?_eq_getElem hk]; rfl
    rcases Nat.lt_or_ge c.toNat 128 with hlo | hhi
    · have hd1 : (decodeL (s.drop k)).1 = c.toNat := by rw [hdr, decodeL_ascii _ _ hlo]
      have hd2 : (decodeL (s.drop k)).2 = 1 := by rw [hdr, decodeL_ascii _ _ hlo]
      rw [hdr] at h2
      unfold ckN at h2
      have ha := fun L => allowed_n c.toNat L (by omega)
      have hcl := fun L => clash_n p c.toNat L h4 (by omega)
      rw [al_ch] at ha
      rw [cl_cl p pb c h3] at hcl
      have hsf := fun L => hassuffix_n (s.take k) lockL L (by rw [List.length_take]; omega) (by decide)
      cases e1 : chB c with
      | false =>
        rw [e1] at ha h2
        rw [show V = false from by rw [← h2]; rfl]
        (repeat' first|refine kW ?_|refine kU fun bk=>?_|refine kV fun hc=>?_|refine kZ (fun hc=>?_) fun hc=>?_|fail)
        refine OW_nextS rfl (by rw [str_size]; exact hk) .here rfl ?_
        rw [str_dec, hd1, hd2]
        (repeat' first|refine kW ?_|refine kU fun bk=>?_|refine kV fun hc=>?_|refine kZ (fun hc=>?_) fun hc=>?_|fail)
        refine OW_callP rfl rfl rfl (ha _) rfl ?_
        (repeat' first|refine kW ?_|refine kU fun bk=>?_|refine kV fun hc=>?_|refine kZ (fun hc=>?_) fun hc=>?_|fail)
        exact kE
      | true =>
      rw [e1] at ha h2
      cases e2 : clB pb c with
      | true =>
        rw [e2] at hcl h2
        rw [show V = false from by rw [← h2]; rfl]
        (repeat' first|refine kW ?_|refine kU fun bk=>?_|refine kV fun hc=>?_|refine kZ (fun hc=>?_) fun hc=>?_|fail)
        refine OW_nextS rfl (by rw [str_size]; exact hk) .here rfl ?_
        rw [str_dec, hd1, hd2]
        (repeat' first|refine kW ?_|refine kU fun bk=>?_|refine kV fun hc=>?_|refine kZ (fun hc=>?_) fun hc=>?_|fail)
        refine OW_callP rfl rfl rfl (ha _) rfl ?_
        (repeat' first|refine kW ?_|refine kU fun bk=>?_|refine kV fun hc=>?_|refine kZ (fun hc=>?_) fun hc=>?_|fail)
        refine OW_callP rfl rfl rfl (hcl _) rfl ?_
        (repeat' first|refine kW ?_|refine kU fun bk=>?_|refine kV fun hc=>?_|refine kZ (fun hc=>?_) fun hc=>?_|fail)
        exact kE
      | false =>
      rw [e2] at hcl h2
      by_cases e3 : c = 47
      · subst e3
        cases e4 : endB (s.take k) lockL with
        | true =>
          rw [e4] at hsf h2
          rw [show V = false from by rw [← h2]; rfl]
          (repeat' first|refine kW ?_|refine kU fun bk=>?_|refine kV fun hc=>?_|refine kZ (fun hc=>?_) fun hc=>?_|fail)
          refine OW_nextS rfl (by rw [str_size]; exact hk) .here rfl ?_
          rw [str_dec, hd1, hd2]
          (repeat' first|refine kW ?_|refine kU fun bk=>?_|refine kV fun hc=>?_|refine kZ (fun hc=>?_) fun hc=>?_|fail)
          refine OW_callP rfl rfl rfl (ha _) rfl ?_
          (repeat' first|refine kW ?_|refine kU fun bk=>?_|refine kV fun hc=>?_|refine kZ (fun hc=>?_) fun hc=>?_|fail)
          refine OW_callP rfl rfl rfl (hcl _) rfl ?_
          (repeat' first|refine kW ?_|refine kU fun bk=>?_|refine kV fun hc=>?_|refine kZ (fun hc=>?_) fun hc=>?_|fail)
          refine OW_EV (EV_cutL s 0 k rfl rfl rfl (Nat.zero_le _) h1) rfl ?_
          rw [List.drop_zero, Nat.sub_zero]
          (repeat' first|refine kW ?_|refine kU fun bk=>?_|refine kV fun hc=>?_|refine kZ (fun hc=>?_) fun hc=>?_|fail)
          refine OW_callP rfl rfl rfl (hsf _) rfl ?_
          (repeat' first|refine kW ?_|refine kU fun bk=>?_|refine kV fun hc=>?_|refine kZ (fun hc=>?_) fun hc=>?_|fail)
          exact kE
        | false =>
          rw [e4] at hsf h2
          (repeat' first|refine kW ?_|refine kU fun bk=>?_|refine kV fun hc=>?_|refine kZ (fun hc=>?_) fun hc=>?_|fail)
          refine OW_nextS rfl (by rw [str_size]; exact hk) .here rfl ?_
          rw [str_dec, hd1, hd2]
          (repeat' first|refine kW ?_|refine kU fun bk=>?_|refine kV fun hc=>?_|refine kZ (fun hc=>?_) fun hc=>?_|fail)
          refine OW_callP rfl rfl rfl (ha _) rfl ?_
          (repeat' first|refine kW ?_|refine kU fun bk=>?_|refine kV fun hc=>?_|refine kZ (fun hc=>?_) fun hc=>?_|fail)
          refine OW_callP rfl rfl rfl (hcl _) rfl ?_
          (repeat' first|refine kW ?_|refine kU fun bk=>?_|refine kV fun hc=>?_|refine kZ (fun hc=>?_) fun hc=>?_|fail)
          refine OW_EV (EV_cutL s 0 k rfl rfl rfl (Nat.zero_le _) h1) rfl ?_
          rw [List.drop_zero, Nat.sub_zero]
          (repeat' first|refine kW ?_|refine kU fun bk=>?_|refine kV fun hc=>?_|refine kZ (fun hc=>?_) fun hc=>?_|fail)
          refine OW_callP rfl rfl rfl (hsf _) rfl ?_
          (repeat' first|refine kW ?_|refine kU fun bk=>?_|refine kV fun hc=>?_|refine kZ (fun hc=>?_) fun hc=>?_|fail)
          refine WQ_round (X := Nat × Nat × UInt8) (μ := fun x => s.length - x.1) (x := (k, p, pb)) (k + 1, 47, 47) (by simp only; omega) ⟨by simp only; omega, ?_, .inl rfl, by simp⟩ iS (fun w h => h)
          simp only
          rw [htk, ← h2]
          rfl
      · have e3' : ¬ (c.toNat : Int) = 47 := fun h => e3 (UInt8.toNat_inj.1 (by show c.toNat = 47; omega))
        (repeat' first|refine kW ?_|refine kU fun bk=>?_|refine kV fun hc=>?_|refine kZ (fun hc=>?_) fun hc=>?_|fail)
        refine OW_nextS rfl (by rw [str_size]; exact hk) .here rfl ?_
        rw [str_dec, hd1, hd2]
        (repeat' first|refine kW ?_|refine kU fun bk=>?_|refine kV fun hc=>?_|refine kZ (fun hc=>?_) fun hc=>?_|fail)
        refine OW_callP rfl rfl rfl (ha _) rfl ?_
        (repeat' first|refine kW ?_|refine kU fun bk=>?_|refine kV fun hc=>?_|refine kZ (fun hc=>?_) fun hc=>?_|fail)
        refine OW_callP rfl rfl rfl (hcl _) rfl ?_
        (repeat' first|refine kW ?_|refine kU fun bk=>?_|refine kV fun hc=>?_|refine kZ (fun hc=>?_) fun hc=>?_|fail)
        refine WQ_round (X := Nat × Nat × UInt8) (μ := fun x => s.length - x.1) (x := (k, p, pb)) (k + 1, c.toNat, c) (by simp only; omega) ⟨by simp only; omega, ?_, .inl rfl, by simp only; omega⟩ iS (fun w h => h)
        simp only
        rw [htk, ← h2, decide_eq_false e3]
        rfl
    · have hg : (s.drop k).getD 0 0 = c := by rw [hdr]; rfl
      obtain ⟨q1, q2⟩ := dl_high (s.drop k) (by rw [hg]; exact hhi)
      have hne : s.drop k ≠ [] := by rw [hdr]; simp
      have hw1 := decodeL_width (s.drop k)
      have hw2 := decodeL_le (s.drop k) hne
      have hru := decodeL_rune (s.drop k)
      rw [List.length_drop] at hw2
      obtain ⟨x, x1, x2⟩ := ck_high ((s.drop k).take (decodeL (s.drop k)).2) (s.take k) pb ((s.drop k).drop (decodeL (s.drop k)).2) (by
        intro h
        have := congrArg List.length h
        simp at this
        omega) (fun y hy => by
        obtain ⟨j, hj, rfl⟩ := List.getElem_of_mem hy
        have hj2 : j < (decodeL (s.drop k)).2 := by simp at hj; omega
        have := q2 j hj2
        rw [List.getElem_take]
        rw [List.getD_eq_getElem?_getD, List.getElem?_eq_getElem (by rw [List.length_drop]; simp at hj; omega)] at this
        exact this)
      rw [List.take_append_drop, h2, List.drop_drop] at x2
      have hta : s.take k ++ (s.drop k).take (decodeL (s.drop k)).2 = s.take (k + (decodeL (s.drop k)).2) := by
        rw [List.take_add]
      rw [hta] at x2
      have ha := fun L => allowed_n (decodeL (s.drop k)).1 L hru
      have hcl := fun L => clash_n p (decodeL (s.drop k)).1 L h4 hru
      rw [alR_high q1] at ha
      rw [clR_high q1] at hcl
      (repeat' first|refine kW ?_|refine kU fun bk=>?_|refine kV fun hc=>?_|refine kZ (fun hc=>?_) fun hc=>?_|fail)
      refine OW_nextS rfl (by rw [str_size]; exact hk) .here rfl ?_
      rw [str_dec]
      generalize (decodeL (s.drop k)).1 = r at *
      generalize (decodeL (s.drop k)).2 = wd at *
      have r47 : ¬ (r : Int) = 47 := by omega
      (repeat' first|refine kW ?_|refine kU fun bk=>?_|refine kV fun hc=>?_|refine kZ (fun hc=>?_) fun hc=>?_|fail)
      refine OW_callP rfl rfl rfl (ha _) rfl ?_
      (repeat' first|refine kW ?_|refine kU fun bk=>?_|refine kV fun hc=>?_|refine kZ (fun hc=>?_) fun hc=>?_|fail)
      refine OW_callP rfl rfl rfl (hcl _) rfl ?_
      (repeat' first|refine kW ?_|refine kU fun bk=>?_|refine kV fun hc=>?_|refine kZ (fun hc=>?_) fun hc=>?_|fail)
      exact WQ_round (X := Nat × Nat × UInt8) (μ := fun x => s.length - x.1) (x := (k, p, pb)) (k + wd, r, x) (by simp only; omega) ⟨by simp only; omega, x2.symm, .inr ⟨q1, x1⟩, hru⟩ iS (fun w h => h)
  · obtain rfl : k = s.length := by omega
    have hsf := fun L => hassuffix_n s lockL L (by omega) (by decide)
    rw [List.drop_eq_nil_of_le (Nat.le_refl _), List.take_of_length_le (Nat.le_refl _)] at h2
    unfold ckN at h2
    have p47 : (p : Int) = 47 ↔ pb = 47 := ⟨fun h => UInt8.toNat_inj.1 (by show pb.toNat = 47; omega), fun h => by
      subst h
      rcases h3 with h | h
      · rw [h]; rfl
      · exact absurd h.2 (by decide)⟩
    have p46 : (p : Int) = 46 ↔ pb = 46 := ⟨fun h => UInt8.toNat_inj.1 (by show pb.toNat = 46; omega), fun h => by
      subst h
      rcases h3 with h | h
      · rw [h]; rfl
      · exact absurd h.2 (by decide)⟩
    by_cases g1 : pb = 47
    · have e1 := p47.2 g1
      rw [show V = false from by rw [← h2, decide_eq_true g1]; rfl]
      (repeat' first|refine kW ?_|refine kU fun bk=>?_|refine kV fun hc=>?_|refine kZ (fun hc=>?_) fun hc=>?_|fail)
      refine OW_EV (EV_endS rfl .here (by rw [str_size]; omega)) rfl ?_
      (repeat' first|refine kW ?_|refine kU fun bk=>?_|refine kV fun hc=>?_|refine kZ (fun hc=>?_) fun hc=>?_|fail)
      exact kE
    by_cases g2 : pb = 46
    · have e1 : ¬ (p : Int) = 47 := fun h => g1 (p47.1 h)
      have e2 := p46.2 g2
      rw [show V = false from by rw [← h2, decide_eq_true g2, decide_eq_false g1]; rfl]
      (repeat' first|refine kW ?_|refine kU fun bk=>?_|refine kV fun hc=>?_|refine kZ (fun hc=>?_) fun hc=>?_|fail)
      refine OW_EV (EV_endS rfl .here (by rw [str_size]; omega)) rfl ?_
      (repeat' first|refine kW ?_|refine kU fun bk=>?_|refine kV fun hc=>?_|refine kZ (fun hc=>?_) fun hc=>?_|fail)
      exact kE
    have e1 : ¬ (p : Int) = 47 := fun h => g1 (p47.1 h)
    have e2 : ¬ (p : Int) = 46 := fun h => g2 (p46.1 h)
    rw [decide_eq_false g2, decide_eq_false g1] at h2
    cases e4 : endB s lockL with
    | true =>
      rw [e4] at hsf h2
      rw [show V = false from by rw [← h2]; rfl]
      (repeat' first|refine kW ?_|refine kU fun bk=>?_|refine kV fun hc=>?_|refine kZ (fun hc=>?_) fun hc=>?_|fail)
      refine OW_EV (EV_endS rfl .here (by rw [str_size]; omega)) rfl ?_
      (repeat' first|refine kW ?_|refine kU fun bk=>?_|refine kV fun hc=>?_|refine kZ (fun hc=>?_) fun hc=>?_|fail)
      refine OW_callP rfl rfl rfl (hsf _) rfl ?_
      (repeat' first|refine kW ?_|refine kU fun bk=>?_|refine kV fun hc=>?_|refine kZ (fun hc=>?_) fun hc=>?_|fail)
      exact kE
    | false =>
      rw [e4] at hsf h2
      rw [show V = true from by rw [← h2]; rfl]
      (repeat' first|refine kW ?_|refine kU fun bk=>?_|refine kV fun hc=>?_|refine kZ (fun hc=>?_) fun hc=>?_|fail)
      refine OW_EV (EV_endS rfl .here (by rw [str_size]; omega)) rfl ?_
      (repeat' first|refine kW ?_|refine kU fun bk=>?_|refine kV fun hc=>?_|refine kZ (fun hc=>?_) fun hc=>?_|fail)
      refine OW_callP rfl rfl rfl (hsf _) rfl ?_
      (repeat' first|refine kW ?_|refine kU fun bk=>?_|refine kV fun hc=>?_|refine kZ (fun hc=>?_) fun hc=>?_|fail)
      exact kE
end
end Go.Proofs.YtehpnblbkldojaaDoor
namespace Go.Nm
open Go Go.Lib
set_option linter.all false
theorem vl_len {s : List UInt8} (h : vlN s = true) : s.length ≤ 100 := by
  rw [vlN_ck, Bool.and_eq_true, decide_eq_true_eq] at h
  exact h.1
theorem rp1_len (s : List UInt8) : (rp1 s [120]).length = s.length := by
  rcases star_cases s with h | ⟨u, v, rfl, hu⟩
  · rw [rp1_none h]
  · rw [rp1_app hu]
    simp
theorem my_len {s : List UInt8} (h : (myN s).1 = true) : s.length ≤ 100 := by
  rw [← fits_my] at h
  have := vl_len h
  rw [rp1_len] at this
  exact this
theorem my_one {u v : List UInt8} (hu : 42 ∉ u) (h : (myN (u ++ 42 :: v)).1 = true) : 42 ∉ v := fun hv => by
  unfold myN at h
  rw [st_two hu hv, if_pos rfl] at h
  exact Bool.noConfusion h
theorem pv_parts {a b : List UInt8} (h : pvN a b = true) : (a = [] ∨ (myN a).1 = true) ∧ (myN b).1 = true ∧ (42 ∈ a ↔ 42 ∈ b) := by
  unfold pvN at h
  rw [Bool.and_eq_true, Bool.and_eq_true, Bool.or_eq_true, decide_eq_true_eq, decide_eq_true_eq] at h
  exact ⟨h.1.1, h.1.2, by simpa using h.2⟩
theorem pv_len {a b : List UInt8} (h : pvN a b = true) : a.length ≤ 100 ∧ b.length ≤ 100 := by
  obtain ⟨h1, h2, _⟩ := pv_parts h
  refine ⟨?_, my_len h2⟩
  rcases h1 with rfl | h1
  · simp
  · exact my_len h1
def tgN (a d s : List UInt8) : Option (List UInt8) :=
  if 42 ∈ a then
    if ((cuS 42 a).1.length ≤ s.length ∧ s.take (cuS 42 a).1.length = (cuS 42 a).1) ∧ endB (s.drop (cuS 42 a).1.length) (cuS 42 a).2.1 = true ∧ 42 ∉ (cuS 42 a).2.1 ∧ 42 ∈ d then
      some (rp1 d ((s.drop (cuS 42 a).1.length).take ((s.drop (cuS 42 a).1.length).length - (cuS 42 a).2.1.length)))
    else none
  else if s = a then some d else none
theorem endB_drop (s v : List UInt8) (n : Nat) (hn : n ≤ s.length) : endB (s.drop n) v = true ↔ n + v.length ≤ s.length ∧ endB s v = true := by
  have e : s = s.take n ++ s.drop n := (List.take_append_drop n s).symm
  constructor
  · intro h
    have hl : v.length ≤ (s.drop n).length := by
      unfold endB at h
      rw [Bool.and_eq_true, decide_eq_true_eq] at h
      exact h.1
    refine ⟨by rw [List.length_drop] at hl; omega, ?_⟩
    rw [e, endB_app _ _ _ hl]
    exact h
  · rintro ⟨h1, h2⟩
    rw [e, endB_app _ _ _ (by rw [List.length_drop]; omega)] at h2
    exact h2
theorem mp_prog (f : Bool) (a d s : List UInt8) (h : pvN a d = true) : mpN ⟨f, a, d⟩ s = match tgN a d s with | some y => if vlN y = true then some y else none | none => none := by
  obtain ⟨h1, h2, h3⟩ := pv_parts h
  rcases star_cases a with ga | ⟨u, v, rfl, hu⟩
  · unfold mpN tgN
    rw [st_none ga, if_pos (by decide), if_neg ga]
    by_cases hs : s = a
    · rw [if_pos hs]
      by_cases hv : vlN d = true
      · rw [if_pos ⟨hs, hv⟩]
        simp only [hv, if_true]
      · rw [if_neg (fun w => hv w.2)]
        simp only [hv, if_false]
        rfl
    · rw [if_neg hs, if_neg (fun w => hs w.1)]
  · have ha : 42 ∈ u ++ 42 :: v := by simp
    have hv : 42 ∉ v := my_one hu (by
      rcases h1 with h1 | h1
      · simp at h1
      · exact h1)
    obtain ⟨u2, v2, rfl, hu2⟩ : ∃ u2 v2, d = u2 ++ 42 :: v2 ∧ 42 ∉ u2 := by
      rcases star_cases d with g | g
      · exact absurd (h3.1 ha) g
      · exact g
    have hv2 : 42 ∉ v2 := my_one hu2 h2
    have hd : 42 ∈ u2 ++ 42 :: v2 := by simp
    unfold mpN tgN
    simp only [st_one hu hv, st_one hu2 hv2, Int.toNat_natCast, cu_app hu]
    rw [if_neg (by omega), if_pos ha]
    have t1 : (u ++ 42 :: v).take u.length = u := by simp
    have t2 : (u ++ 42 :: v).drop (u.length + 1) = v := by
      rw [List.drop_append]
      simp
    have t3 : (u2 ++ 42 :: v2).take u2.length = u2 := by simp
    have t4 : (u2 ++ 42 :: v2).drop (u2.length + 1) = v2 := by
      rw [List.drop_append]
      simp
    rw [t1, t2, t3, t4, rp1_app hu2]
    by_cases c1 : u.length ≤ s.length ∧ s.take u.length = u
    · have he := endB_drop s v u.length c1.1
      by_cases c2 : endB (s.drop u.length) v = true
      · have c3 := he.1 c2
        have n1 : ¬ (s.length < u.length + v.length ∨ s.take u.length ≠ u ∨ endB s v = false) := by
          rintro (w | w | w)
          · omega
          · exact w c1.2
          · rw [c3.2] at w; exact Bool.noConfusion w
        rw [if_neg n1, if_neg (show ¬ ((u2.length : Int) < 0) from by omega), if_pos (show ((u.length ≤ s.length ∧ s.take u.length = u) ∧ endB (s.drop u.length) v = true ∧ 42 ∉ v ∧ 42 ∈ u2 ++ 42 :: v2) from ⟨c1, c2, hv, hd⟩)]
        simp only [List.length_drop]
        rw [show s.length - v.length - u.length = s.length - u.length - v.length from by omega]
      · have n1 : (s.length < u.length + v.length ∨ s.take u.length ≠ u ∨ endB s v = false) := by
          by_cases w : s.length < u.length + v.length
          · exact .inl w
          · refine .inr (.inr ?_)
            rw [Bool.eq_false_iff]
            exact fun e => c2 (he.2 ⟨by omega, e⟩)
        rw [if_pos n1, if_neg (show ¬ ((u.length ≤ s.length ∧ s.take u.length = u) ∧ endB (s.drop u.length) v = true ∧ 42 ∉ v ∧ 42 ∈ u2 ++ 42 :: v2) from fun w => c2 w.2.1)]
    · have n1 : (s.length < u.length + v.length ∨ s.take u.length ≠ u ∨ endB s v = false) := by
        by_cases w : s.length < u.length + v.length
        · exact .inl w
        · exact .inr (.inl fun e => c1 ⟨by have := congrArg List.length e; rw [List.length_take] at this; omega, e⟩)
      rw [if_pos n1, if_neg (show ¬ ((u.length ≤ s.length ∧ s.take u.length = u) ∧ endB (s.drop u.length) v = true ∧ 42 ∉ v ∧ 42 ∈ u2 ++ 42 :: v2) from fun w => c1 w.1)]
theorem mp_valid {p : Sp} {s x : List UInt8} (h : mpN p s = some x) : vlN x = true := by
  unfold mpN at h
  split at h
  · split at h
    · rename_i h1 h2
      injection h with h
      rw [← h]; exact h2.2
    · simp at h
  · simp only at h
    split at h
    · simp at h
    · split at h
      · simp at h
      · split at h
        · rename_i hv
          injection h with h
          rw [← h]; exact hv
        · simp at h
theorem cu_fst (c : UInt8) (u : List UInt8) : c ∉ (cuS c u).1 ∧ ∃ t, u = (cuS c u).1 ++ t := by
  unfold cuS
  rcases ix_cases c u with ⟨h1, h2⟩ | ⟨k, h1, h2, h3, h4⟩
  · rw [h2, if_pos (by decide)]
    exact ⟨h1, [], by simp⟩
  · rw [h2, if_neg (by omega), Int.toNat_natCast]
    exact ⟨h4, _, (List.take_append_drop k u).symm⟩
theorem pl_other {c : UInt8} {r : List UInt8} (h : c ≠ 43) : plN (c :: r) = (false, c :: r) := by
  unfold plN
  split
  · rename_i heq
    injection heq with e1 _
    exact absurd e1 h
  · rfl
theorem pl_cases (s : List UInt8) : (∃ r, s = 43 :: r ∧ plN s = (true, r)) ∨ (plN s = (false, s) ∧ ∀ c r, s = c :: r → c ≠ 43) := by
  rcases s with _ | ⟨c, r⟩
  · exact .inr ⟨rfl, fun _ _ h => by simp at h⟩
  · by_cases h : c = 43
    · subst h
      exact .inl ⟨r, rfl, rfl⟩
    · exact .inr ⟨pl_other h, fun c' r' e => by injection e with e1 _; rw [← e1]; exact h⟩
theorem ps_back {s : List UInt8} {p : Sp} (h : psN s = some p) : psN (txN p) = some p ∧ pvN p.src p.dst = true := by
  rw [ps_prog] at h
  by_cases hv : pvN (cuS 58 (plN s).2).1 (if (cuS 58 (plN s).2).2.2 = true then (cuS 58 (plN s).2).2.1 else (cuS 58 (plN s).2).1) = true
  rotate_left
  · rw [if_neg hv] at h
    simp at h
  rw [if_pos hv] at h
  injection h with h
  subst h
  refine ⟨?_, hv⟩
  have hc := (cu_fst 58 (plN s).2).1
  obtain ⟨t, ht⟩ := (cu_fst 58 (plN s).2).2
  generalize (if (cuS 58 (plN s).2).2.2 = true then (cuS 58 (plN s).2).2.1 else (cuS 58 (plN s).2).1) = d at *
  generalize (cuS 58 (plN s).2).1 = a at *
  have hpl : plN (txN ⟨(plN s).1, a, d⟩) = ((plN s).1, a ++ 58 :: d) := by
    unfold txN
    simp only
    rcases pl_cases s with ⟨r, e1, e2⟩ | ⟨e1, e2⟩
    · rw [e2]
      simp [plN]
    · rw [e1] at ht ⊢
      simp only at ht ⊢
      rw [if_neg Bool.false_ne_true, List.nil_append, show a ++ [58] ++ d = a ++ 58 :: d from by simp]
      rcases a with _ | ⟨x, a⟩
      · exact pl_other (by decide)
      · exact pl_other (e2 x (a ++ t) (by rw [ht]; rfl))
  rw [ps_prog, hpl]
  simp only
  rw [cu_app hc]
  simp only [if_true]
  rw [if_pos hv]
end Go.Nm
namespace Go.Proofs.YtehpnblbkldojaaDoor
open Go Go.Vx Go.RowKit
set_option linter.all false
variable [W0]
theorem GvP.of_below {P : Program} {f : FuncId} {args : Array Value} {L : List Chunk} {v : Value} (h : ∀ w, Vx.Holds w L → Calls P f args w fun e w' => e = .returned v ∧ Below w.heap.size w w') : GvP P f args L v :=
  ⟨fun w hw => (h w hw).mono fun e w' he => ⟨v, L, he.1, ⟨rfl, rfl⟩, hw.1, fun x hx => by rw [he.2.block _ (hw.lt hx)]; exact hw.2.1 x hx, he.2.os.trans hw.2.2.1, he.2.output.trans hw.2.2.2⟩⟩
end Go.Proofs.YtehpnblbkldojaaDoor
namespace Go.Proofs.YtehpnblbkldojaaDoor
open Go Go.Shelf Go.Proofs
set_option linter.all false
set_option maxRecDepth 100000
def sh_v_ren : Go.Shelf.Ren :=
  {
    f := fun x =>
      match x with
      | 196 => 24
      | 259 => 38
      | n => n,
    t := fun x =>
      match x with
      | 9 => 9
      | 4 => 4
      | 3 => 3
      | 5 => 5
      | 12 => 12
      | 119 => 54
      | 0 => 0
      | 46 => 23
      | 139 => 57
      | 138 => 56
      | 53 => 72
      | n => n,
    g := fun x =>
      match x with
      | 3 => 0
      | 4 => 1
      | n => n }
theorem sh_v : Go.Proofs.Lays.n196 Go.Proofs.Tryd.prog sh_v_ren :=
  { mixed := by kernel_rfl,
    f196 := Eq.trans Go.Proofs.Tryd.func24 (congrArg Option.some (Eq.refl (Go.Proofs.Body.n196 sh_v_ren))),
    f259 := Eq.trans Go.Proofs.Tryd.func38 (congrArg Option.some (Eq.refl (Go.Proofs.Body.n259 sh_v_ren))),
    t0 := Go.Proofs.Tryd.underlying0, a0 := Go.Proofs.Tryd.isAgg0, z0 := Go.Proofs.Tryd.sizeOf0,
    v0 := Go.Proofs.Tryd.zeroValue0, t3 := Go.Proofs.Tryd.underlying3, a3 := Go.Proofs.Tryd.isAgg3,
    z3 := Go.Proofs.Tryd.sizeOf3, v3 := Go.Proofs.Tryd.zeroValue3, t4 := Go.Proofs.Tryd.underlying4,
    a4 := Go.Proofs.Tryd.isAgg4, z4 := Go.Proofs.Tryd.sizeOf4, v4 := Go.Proofs.Tryd.zeroValue4,
    t5 := Go.Proofs.Tryd.underlying5, a5 := Go.Proofs.Tryd.isAgg5, z5 := Go.Proofs.Tryd.sizeOf5,
    v5 := Go.Proofs.Tryd.zeroValue5, t9 := Go.Proofs.Tryd.underlying9, a9 := Go.Proofs.Tryd.isAgg9,
    z9 := Go.Proofs.Tryd.sizeOf9, v9 := Go.Proofs.Tryd.zeroValue9, t12 := Go.Proofs.Tryd.underlying12,
    a12 := Go.Proofs.Tryd.isAgg12, z12 := Go.Proofs.Tryd.sizeOf12, v12 := Go.Proofs.Tryd.zeroValue12,
    t46 := Go.Proofs.Tryd.underlying23, a46 := Go.Proofs.Tryd.isAgg23, z46 := Go.Proofs.Tryd.sizeOf23,
    v46 := Go.Proofs.Tryd.zeroValue23, t53 := Go.Proofs.Tryd.underlying72, a53 := Go.Proofs.Tryd.isAgg72,
    z53 := Go.Proofs.Tryd.sizeOf72, v53 := Go.Proofs.Tryd.zeroValue72, t119 := Go.Proofs.Tryd.underlying54,
    a119 := Go.Proofs.Tryd.isAgg54, z119 := Go.Proofs.Tryd.sizeOf54, t138 := Go.Proofs.Tryd.underlying56,
    a138 := Go.Proofs.Tryd.isAgg56, z138 := Go.Proofs.Tryd.sizeOf56, v138 := Go.Proofs.Tryd.zeroValue56,
    t139 := Go.Proofs.Tryd.underlying57, a139 := Go.Proofs.Tryd.isAgg57, z139 := Go.Proofs.Tryd.sizeOf57,
    v139 := Go.Proofs.Tryd.zeroValue57, g3 := by kernel_rfl,
    g4 := by kernel_rfl }
abbrev utOk (w : World) : Prop := Lib.Utf8Tabs (sh_v_ren.g 3) (sh_v_ren.g 4) w
end Go.Proofs.YtehpnblbkldojaaDoor
namespace Go.Proofs.YtehpnblbkldojaaDoor
open Go Go.Vx Go.Nm Go.Ob Go.Lib Go.RowKit
set_option linter.all false
set_option maxRecDepth 4000
variable [W0]
structure UtAt (L : List Chunk) : Prop where
  ut : ∀ w, Vx.Holds w L → utOk w
theorem UtAt.of {S L : List Chunk} (h : UtAt S) (hi : ∀ w, Vx.Holds w L → Vx.Holds w S) : UtAt L :=
  ⟨fun w hw => h.ut w (hi w hw)⟩
theorem UtAt.inc {S L : List Chunk} (h : UtAt S) (hi : Inc S L) : UtAt L := h.of fun w hw => hi.holds hw
theorem UtAt.there {L : List Chunk} {C : Chunk} (h : UtAt L) : UtAt (C :: L) := h.of fun w hw => hw.drop
theorem utf8_n (t : List UInt8) (L : List Chunk) (hb : UtAt L) (hl : t.length ≤ 9223372036854775807) : GvP Tryd.prog 24 [.string (str t)].toArray L (.bool (Lib.validD t)) :=
  GvP.of_below fun w hw => Any.utf8_ValidString sh_v (str t) w hl (hb.ut w hw)
set_option maxHeartbeats 2000000 in
theorem nvalid_n (s : List UInt8) (L : List Chunk) (hb : UtAt L) (hs : s.length ≤ 9223372036854775000) : GvP Tryd.prog 11 [.string (str s)].toArray L (.bool (vlN s)) := by
  have z1 : (str s).size = s.length := str_size s
  rw [vlN_ck]
  refine Gv.of_body (args := [.string (str s)]) Tryd.func11 rfl rfl ?_
  have hu := utf8_n s L hb (by omega)
  have hp := hasprefix_n s refsL L hs (by decide)
  have hh := hparts_n s L hs
  rw [show refsL.length = 5 from rfl] at hp
  by_cases h1 : s.length ≤ 100
  rotate_left
  · rw [decide_eq_false h1, Bool.false_and]
    (repeat' first|refine kW ?_|refine kU fun bk=>?_|refine kV fun hc=>?_|refine kZ (fun hc=>?_) fun hc=>?_|fail)
    exact kE
  rw [decide_eq_true h1, Bool.true_and]
  cases h2 : validD s with
  | false =>
    rw [h2] at hu
    rw [Bool.false_and]
    (repeat' first|refine kW ?_|refine kU fun bk=>?_|refine kV fun hc=>?_|refine kZ (fun hc=>?_) fun hc=>?_|fail)
    refine OW_callP rfl rfl rfl hu rfl ?_
    (repeat' first|refine kW ?_|refine kU fun bk=>?_|refine kV fun hc=>?_|refine kZ (fun hc=>?_) fun hc=>?_|fail)
    exact kE
  | true =>
  rw [h2] at hu
  rw [Bool.true_and]
  by_cases h3 : 5 ≤ s.length ∧ s.take 5 = refsL
  rotate_left
  · rw [decide_eq_false h3] at hp ⊢
    rw [Bool.false_and]
    (repeat' first|refine kW ?_|refine kU fun bk=>?_|refine kV fun hc=>?_|refine kZ (fun hc=>?_) fun hc=>?_|fail)
    refine OW_callP rfl rfl rfl hu rfl ?_
    (repeat' first|refine kW ?_|refine kU fun bk=>?_|refine kV fun hc=>?_|refine kZ (fun hc=>?_) fun hc=>?_|fail)
    refine OW_callP rfl rfl rfl hp rfl ?_
    (repeat' first|refine kW ?_|refine kU fun bk=>?_|refine kV fun hc=>?_|refine kZ (fun hc=>?_) fun hc=>?_|fail)
    exact kE
  rw [decide_eq_true h3] at hp ⊢
  rw [Bool.true_and]
  generalize ckN [] 47 s = V at *
  (repeat' first|refine kW ?_|refine kU fun bk=>?_|refine kV fun hc=>?_|refine kZ (fun hc=>?_) fun hc=>?_|fail)
  refine OW_callP rfl rfl rfl hu rfl ?_
  (repeat' first|refine kW ?_|refine kU fun bk=>?_|refine kV fun hc=>?_|refine kZ (fun hc=>?_) fun hc=>?_|fail)
  refine OW_callP rfl rfl rfl hp rfl ?_
  (repeat' first|refine kW ?_|refine kU fun bk=>?_|refine kV fun hc=>?_|refine kZ (fun hc=>?_) fun hc=>?_|fail)
  refine OW_callP rfl rfl rfl hh rfl ?_
  (repeat' first|refine kW ?_|refine kU fun bk=>?_|refine kV fun hc=>?_|refine kZ (fun hc=>?_) fun hc=>?_|fail)
  exact kE
theorem nunder_n (a b : List UInt8) (L : List Chunk) (ha : a.length ≤ 9223372036854775000) (hb : b.length ≤ 9223372036854775000) : GvP Tryd.prog 13 [.string (str a), .string (str b)].toArray L (.bool (undB a b)) := by
  have z1 : (str a).size = a.length := str_size a
  have z2 : (str b).size = b.length := str_size b
  refine Gv.of_body (args := [.string (str a), .string (str b)]) Tryd.func13 rfl rfl ?_
  by_cases h : a.length < b.length
  rotate_left
  · rw [show undB a b = false from by unfold undB; rw [decide_eq_false h]; rfl]
    (repeat' first|refine kW ?_|refine kU fun bk=>?_|refine kV fun hc=>?_|refine kZ (fun hc=>?_) fun hc=>?_|fail)
    exact kE
  obtain ⟨c, hc0⟩ : ∃ c, b[a.length]? = some c := ⟨_, List.getElem?_eq_getElem h⟩
  have htk : b.take (a.length + 1) = b.take a.length ++ [c] := by rw [List.take_add_one, hc0]; rfl
  have hun : undB a b = decide (b.take a.length = a ∧ c = 47) := by
    unfold undB
    rw [decide_eq_true h, Bool.true_and, decide_eq_decide, htk]
    constructor
    · intro e
      have := List.append_inj e (by rw [List.length_take]; omega)
      exact ⟨this.1, by simpa using this.2⟩
    · rintro ⟨e1, rfl⟩
      rw [e1]
  rw [hun]
  have hget := str_gt hc0
  by_cases hc47 : c = 47
  rotate_left
  · rw [decide_eq_false (fun w => hc47 w.2)]
    have hcn : ¬ (c.toNat : Int) = 47 := fun w => hc47 (UInt8.toNat_inj.1 (by show c.toNat = 47; omega))
    (repeat' first|refine kW ?_|refine kU fun bk=>?_|refine kV fun hc=>?_|refine kZ (fun hc=>?_) fun hc=>?_|fail)
    refine OW_EV (EV_indexStr (j := a.length) (u := c) rfl rfl (by first | rfl | omega) hget) rfl ?_
    (repeat' first|refine kW ?_|refine kU fun bk=>?_|refine kV fun hc=>?_|refine kZ (fun hc=>?_) fun hc=>?_|fail)
    exact kE
  rw [show decide (b.take a.length = a ∧ c = 47) = decide (b.take a.length = a) from by simp [hc47]]
  subst hc47
  (repeat' first|refine kW ?_|refine kU fun bk=>?_|refine kV fun hc=>?_|refine kZ (fun hc=>?_) fun hc=>?_|fail)
  refine OW_EV (EV_indexStr (j := a.length) (u := 47) rfl rfl (by first | rfl | omega) hget) rfl ?_
  (repeat' first|refine kW ?_|refine kU fun bk=>?_|refine kV fun hc=>?_|refine kZ (fun hc=>?_) fun hc=>?_|fail)
  refine OW_EV (EV_cutL b 0 a.length rfl rfl (bnd_int rfl (by omega)) (Nat.zero_le _) (by omega)) rfl ?_
  rw [List.drop_zero, Nat.sub_zero]
  (repeat' first|refine kW ?_|refine kU fun bk=>?_|refine kV fun hc=>?_|refine kZ (fun hc=>?_) fun hc=>?_|fail)
  refine kR ?_
  refine ⟨_, iC, ?_, rfl⟩
  show Value.bool _ = Value.bool _
  rw [dec_str]
end Go.Proofs.YtehpnblbkldojaaDoor
namespace Go.Proofs.YtehpnblbkldojaaDoor
open Go Go.Vx Go.Nm Go.Ob Go.Lib
set_option linter.all false
set_option maxRecDepth 4000
section
variable [W0]
variable {P : Program} {n : Nat} {M : List (Nat × Value)} {L : List Chunk} {d : Nat} {ty : TypeId} {ps : String} {af : Array Edge} {g : Option (Nat × Bool)} {x y : Operand} in
variable {P : Program} {n : Nat} {M : List (Nat × Value)} {L : List Chunk} {d : Nat} {ty : TypeId} {ps : String} {af : Array Edge} {g : Option (Nat × Bool)} {x y : Operand} in
variable {P : Program} {n : Nat} {M : List (Nat × Value)} {L : List Chunk} {d : Nat} {ty : TypeId} {ps : String} {af : Array Edge} {g : Option (Nat × Bool)} {x y : Operand} in
theorem EV_eqT (a b : List UInt8) (h : a = b) {t u : TypeId} (hx : ev M x = some (.string (str a))) (hy : ev M y = some (.string (str b))) : EV P n ⟨some d, .binOp .eql t x y u, ty, ps, af, g⟩ M L d (.bool true) := by
  have := EV_eqL (P := P) (n := n) (M := M) (L := L) (d := d) (ty := ty) (ps := ps) (af := af) (g := g) (t := t) (u := u) a b hx hy
  simpa [h] using this
variable {P : Program} {n : Nat} {M : List (Nat × Value)} {L : List Chunk} {d : Nat} {ty : TypeId} {ps : String} {af : Array Edge} {g : Option (Nat × Bool)} {x y : Operand} in
theorem EV_eqF (a b : List UInt8) (h : a ≠ b) {t u : TypeId} (hx : ev M x = some (.string (str a))) (hy : ev M y = some (.string (str b))) : EV P n ⟨some d, .binOp .eql t x y u, ty, ps, af, g⟩ M L d (.bool false) := by
  have := EV_eqL (P := P) (n := n) (M := M) (L := L) (d := d) (ty := ty) (ps := ps) (af := af) (g := g) (t := t) (u := u) a b hx hy
  simpa [h] using this
end
end Go.Proofs.YtehpnblbkldojaaDoor
namespace Go.Vx
open Go
set_option linter.all false
variable [W0]
section
variable {P : Program} {n : Nat} {Q : Exit → Act → World → Prop} {M : List (Nat × Value)} {L S : List Chunk} {ops : List Oper} {T : List Nat} {fuel : Nat} {listed : Array Bool} {d : Nat} {v : Value}
variable {ty : TypeId} {ps : String} {af : Array Edge} {g : Option (Nat × Bool)} {x y : Operand}
theorem WC_cut {X : Type} {x y : Code} (MI : X → List (Nat × Value)) (LI : X → List Chunk) (J : X → Prop) (h1 : WC P n x (Exit.then (fun a' w' => ∃ z, J z ∧ St n (MI z) a' ∧ Holds w' (LI z)) Q) M L) (h2 : ∀ z, J z → WC P n y Q (MI z) (LI z)) : WC P n (.seq x y) Q M L := ⟨fun a w ha hw => by
  refine wp_seq (wp_mono (h1.out a w ha hw) ?_)
  intro e a' w' hq
  cases e with
  | normal =>
    obtain ⟨z, hz, hs, hw'⟩ := hq
    exact (h2 z hz).out a' w' hs hw'
  | exit id => exact hq
  | goto l => exact hq
  | ret => exact hq
  | panic c => exact hq
  | outgrown => exact hq⟩
theorem WQ_cut {X : Type} {MI : X → List (Nat × Value)} {LI : X → List Chunk} {J : X → Prop} (z : X) (hJ : J z) (hM : Sub (MI z) M) (hL : ∀ w, Holds w L → Holds w (LI z)) : WQ n (fun a' w' => ∃ z, J z ∧ St n (MI z) a' ∧ Holds w' (LI z)) M L := ⟨fun _ w ha hw => ⟨z, hJ, ha.sub hM, hL w hw⟩⟩
end
end Go.Vx
namespace Go.Proofs.YtehpnblbkldojaaDoor
open Go Go.Vx Go.Nm Go.Ob Go.Lib
set_option linter.all false
set_option maxRecDepth 4000
def spV (p : Sp) : List Value := [.bool p.force, .string (str p.src), .string (str p.dst)]
end Go.Proofs.YtehpnblbkldojaaDoor
namespace Go.Vx
open Go Go.Lib
set_option linter.all false
section
variable [W0]
variable {P : Program} {n : Nat} {M : List (Nat × Value)} {L : List Chunk} {K : List (Nat × Value) → List Chunk → Prop}
variable {d : Nat} {ty : TypeId} {ps : String} {af : Array Edge} {g : Option (Nat × Bool)} {x y : Operand} {v : Value}
theorem Fnd.shape {L : List Chunk} {b : Nat} {c : Array Value} {T : TypeId} {fr : Nat × Nat} (h : Fnd L b (.cells c T fr)) {w : World} (hw : Holds w L) : w.shape? b = some (T, c.size) := by
  have hb := h.get hw
  simp [World.shape?, hb]
theorem EV_toU {s t u T : TypeId} {b : Nat} {c : Array Value} {fr : Nat × Nat} (hs : P.underlying s = some (.pointer u)) (hd : P.underlying t = some .unsafePointer) (hj : ∃ j, P.info? u = some j ∧ j.size ≠ 0) (hf : Fnd L b (.cells c T fr)) (hc : 0 < c.size)
    (hx : ev M x = some (.pointer (some ⟨b, 0, none⟩))) : EV P n ⟨some d, .convert s t x, ty, ps, af, g⟩ M L d (.pointer (some ⟨b, 0, none⟩)) :=
  ⟨rfl, fun a w ha hw => by
    obtain ⟨j, h1, h2⟩ := hj
    have hr := run_to_unsafe (P := P) (w := w) ⟨b, 0, none⟩ hs hd h1 h2 (hf.shape hw) hc
    simp [execOp, ha.eval hx, hr]⟩
theorem EV_fromU {s t u T : TypeId} {b : Nat} {c : Array Value} {fr : Nat × Nat} (hs : P.underlying s = some .unsafePointer) (hd : P.underlying t = some (.pointer u)) (hj : ∃ j, P.info? u = some j) (hf : Fnd L b (.cells c T fr)) (hl : liesAt P P.depth T (c.size / P.cellsOf T) 0 u 1 = true)
    (hx : ev M x = some (.pointer (some ⟨b, 0, none⟩))) : EV P n ⟨some d, .convert s t x, ty, ps, af, g⟩ M L d (.pointer (some ⟨b, 0, none⟩)) :=
  ⟨rfl, fun a w ha hw => by
    obtain ⟨j, h1⟩ := hj
    have hr := run_from_unsafe (P := P) (w := w) ⟨b, 0, none⟩ hs hd h1 (hf.shape hw) hl
    simp [execOp, ha.eval hx, hr]⟩
theorem EV_ptrSame {t u e : TypeId} {q : Addr} (hp : P.underlying t = some (.pointer e)) (hj : ∃ j, P.info? e = some j) (hx : ev M x = some (.pointer (some q))) (hy : ev M y = some (.pointer (some q))) :
    EV P n ⟨some d, .binOp .neq t x y u, ty, ps, af, g⟩ M L d (.bool false) :=
  ⟨rfl, fun a w ha hw => by
    obtain ⟨j, h1⟩ := hj
    have hr := run_neq_ptr_same (P := P) (w := w) q hp h1
    simp [execOp, ha.eval hx, ha.eval hy, eqGuard, hr]⟩
theorem OW_makeNZ {f : FuncId} {fn : Func} {ats tt : Array TypeId} {t e : TypeId} {m : Nat} (hx : ev M x = some (.func (.func f) #[] #[])) (hy : ev M y = some (.int .i64 (m : Int))) (hf : P.funcs[f]? = some fn) (hname : (fn.name == "runtime.NumGoroutine") = false)
    (hb : fn.body.isNone = true) (hnx : Extern.findNext fn = none) (he : Extern.find fn = some (Extern.BytealgMakeNoZero.makeNoZero tt #[t])) (ht : P.underlying t = some (.slice e)) (hm : m ≤ 281474976710656) (hn : Nat.blt d n = true)
    (h : ∀ b cs, m ≤ cs.length → cs.length ≤ maxLen → K ((d, .slice (some ⟨b, 0, none⟩) m cs.length) :: M) ([(b, cl cs e)] :: L)) :
    OW P n ⟨some d, .call ⟨.value x, #[y], ats⟩, ty, ps, af, g⟩ K M L := ⟨fun a w next Q ha hw hk => by
  obtain ⟨cs, hr, h1, h2⟩ := run_makeNoZero (P := P) (w := w) tt t e ht m hm
  have hc := run_callFunc_extern hf hname hb hnx he #[.int .i64 (m : Int)] w
  rw [hr] at hc
  have hrun : (execOp a.eval ⟨some d, .call ⟨.value x, #[y], ats⟩, ty, ps, af, g⟩).run P w = .ok (.value (.slice (some ⟨w.heap.size, 0, none⟩) m cs.size)) (w.drew.drew.alloc (.cells cs e)) := by
    simp only [execOp, resolve, ha.eval hx, List.map_toArray, List.map_cons, List.map_nil, ha.eval hy, Deferred.ofValue, Sem.run_bind, Sem.run_pure, Result.andThen_ok, invoke, Array.append_empty, Array.empty_append, hc]
  unfold Oper.wp
  rw [hrun, Oper.upon_value]
  have hH := (hw.same (w' := w.drew.drew) rfl rfl rfl).alloc (.cells cs e)
  have := h w.heap.size cs.toList (by simpa using h1) (by simpa using h2 (by unfold maxLen; omega))
  simp only [Array.length_toList] at this
  refine (hk _ _ this).out _ _ (ha.put _ hn) ?_
  have e1 : cl cs.toList e = .cells cs e := by simp [cl]
  rw [e1]
  exact hH⟩
theorem EV_copy0 {t e k by_ : TypeId} [hs : SL P t e k by_] (hs1 : (P.info? e).map (·.size) = some 1) {p q : Option Addr} {dc sl sc : Nat} (hx : ev M x = some (.slice p 0 dc)) (hy : ev M y = some (.slice q sl sc)) :
    EV P n ⟨some d, .call ⟨.builtin .copy, #[x, y], #[t, t]⟩, ty, ps, af, g⟩ M L d (.int .i64 0) :=
  ⟨rfl, fun a w ha hw => by
    obtain ⟨ht, i, hi, _⟩ := hs.parts
    have hr := run_copy_none (P := P) w t t ty e p q 0 dc sl sc ht hs1 (Nat.min_zero _)
    simp [execOp, resolve, invoke, builtin, ha.eval hx, ha.eval hy, hr, goInt]⟩
theorem EV_sliceData {ts : Array TypeId} {p : Addr} {m c : Nat} (hc : c ≠ 0) (hx : ev M x = some (.slice (some p) m c)) : EV P n ⟨some d, .call ⟨.builtin .unsafeSliceData, #[x], ts⟩, ty, ps, af, g⟩ M L d (.pointer (some p)) :=
  ⟨rfl, fun a w ha hw => by
    have hr := run_unsafeSliceData_row (P := P) (w := w) ts ty p m c hc
    simp [execOp, resolve, invoke, builtin, ha.eval hx, hr]⟩
theorem OW_unsafeStringD {pt it e : Nat} {b : Nat} {l : List UInt8} {rest : List Value} {fr : Nat × Nat} {A B : List Chunk} {i : Int} (hp : P.underlying pt = some (.pointer e)) (hc : P.cellsOf e = 1) (hx : ev M x = some (.pointer (some ⟨b, 0, none⟩))) (hy : ev M y = some (.int .i64 i)) (hi : i = (l.length : Int))
    (h0 : l ≠ []) (h63 : l.length ≤ 9223372036854775807) (hz : Zip [(b, .cells (bsv l ++ rest).toArray e fr)] L A B)
    (hn : Nat.blt d n = true) (h : K ((d, .string ⟨l.toArray⟩) :: M) (A ++ B)) :
    OW P n ⟨some d, .call ⟨.builtin .unsafeString, #[x, y], #[pt, it]⟩, ty, ps, af, g⟩ K M L := ⟨fun a w next Q ha hw0 hk => by
  have hL := hz.eq
  subst hL
  have hw := hw0.perm List.perm_middle
  subst hi
  have hb := (Fnd.here : Fnd ([(b, .cells (bsv l ++ rest).toArray e fr)] :: (A ++ B)) b _).get hw
  have hl : l.length ≠ 0 := by simpa using h0
  have hr := Lib.run_unsafeString_row (P := P) (w := w) pt it ty e hp hc b (bsv l ++ rest).length (by simp [World.shape?, hb]) l h0 (by simp [bsv]) h63 (fun j u hj => by
    rw [addr_add, cell_of hb]
    have hj' : j < l.length := by
      rcases Nat.lt_or_ge j l.length with h' | h'
      · exact h'
      · simp [List.getElem?_eq_none h'] at hj
    simp only [Nat.zero_add, List.getElem?_toArray]
    rw [List.getElem?_append_left (by simpa [bsv] using hj')]
    simp [bsv, hj])
  have hrun : (execOp a.eval ⟨some d, .call ⟨.builtin .unsafeString, #[x, y], #[pt, it]⟩, ty, ps, af, g⟩).run P w = .ok (.value (.string ⟨l.toArray⟩)) (w.freeze ⟨b, 0, none⟩ l.length) := by
    simp only [execOp, resolve, invoke, builtin, Sem.run_bind, Sem.run_pure, Result.andThen_ok, List.map_toArray, List.map_cons, List.map_nil, ha.eval hx, ha.eval hy, hr]
  unfold Oper.wp
  rw [hrun, Oper.upon_value]
  have hother : ∀ k, k ≠ b → (w.freeze ⟨b, 0, none⟩ l.length).heap[k]? = w.heap[k]? := fun k hk => by
    unfold World.freeze
    rw [if_neg hl]
    simp only [Array.getElem?_modify]
    rw [if_neg (fun e => hk e.symm)]
  refine (hk _ _ h).out _ _ (ha.put _ hn) ?_
  have hd := hw.drop
  refine ⟨hd.1, fun z hz' => ?_, (freeze_os _ _ _).1.trans hd.2.2.1, (freeze_os _ _ _).2.trans hd.2.2.2⟩
  have hne : z.1 ≠ b := by
    have hnd := hw.1
    simp only [List.flatten_cons, List.map_append, List.map_cons, List.map_nil] at hnd
    intro e0
    have := (List.nodup_append.1 hnd).2.2 b (by simp) z.1 (List.mem_map_of_mem hz')
    exact this e0.symm
  rw [hother _ hne]
  exact hd.2.1 z hz'⟩
end
end Go.Vx
namespace Go.Proofs.YtehpnblbkldojaaDoor
open Go Go.Vx Go.Lib Go.Ob
set_option linter.all false
set_option maxRecDepth 4000
theorem bd_info : ∃ j, Tryd.prog.info? 63 = some j ∧ j.size ≠ 0 := by
  have h : (Tryd.prog.info? 63).map (·.size) = some 2 := by kernel_rfl
  cases h2 : Tryd.prog.info? 63 with
  | none => rw [h2] at h; exact absurd h (by simp)
  | some j =>
    rw [h2] at h
    refine ⟨j, rfl, ?_⟩
    have : j.size = 2 := by simpa using h
    omega
theorem bd_info' : ∃ j, Tryd.prog.info? 63 = some j := bd_info.imp fun _ h => h.1
def bdC (q : Nat) (p v : Value) : Chunk := [(q, cl [p, v] 63)]
section
variable [W0]
theorem ccfresh_n (q : Nat) (v : Value) (L : List Chunk) : Gv Tryd.prog 58 [.pointer (some ⟨q, 0, none⟩)].toArray (bdC q (.pointer none) v :: L) (fun r L' => r = .tuple #[] ∧ L' = bdC q (.pointer (some ⟨q, 0, none⟩)) v :: L) := by
  refine Gv.of_body (args := [.pointer (some ⟨q, 0, none⟩)]) Tryd.func58 rfl rfl ?_
  unfold bdC
  (repeat' first|refine kW ?_|refine kU fun bk=>?_|refine kV fun hc=>?_|refine kZ (fun hc=>?_) fun hc=>?_|fail)
  refine OW_EV (EV_toU Tryd.underlying61 Tryd.underlying79 bd_info .here (by simp) rfl) rfl ?_
  (repeat' first|refine kW ?_|refine kU fun bk=>?_|refine kV fun hc=>?_|refine kZ (fun hc=>?_) fun hc=>?_|fail)
  refine OW_EV (OW_extern (f := 63) (v := .pointer (some ⟨q, 0, none⟩)) rfl rfl Tryd.func63 (by kernel_rfl) (by kernel_rfl) (by kernel_rfl) rfl (fun w _ => run_noEscape w _)) rfl ?_
  (repeat' first|refine kW ?_|refine kU fun bk=>?_|refine kV fun hc=>?_|refine kZ (fun hc=>?_) fun hc=>?_|fail)
  refine OW_EV (EV_fromU Tryd.underlying79 Tryd.underlying61 bd_info' .here (by kernel_rfl) rfl) rfl ?_
  (repeat' first|refine kW ?_|refine kU fun bk=>?_|refine kV fun hc=>?_|refine kZ (fun hc=>?_) fun hc=>?_|fail)
  refine kR ?_
  exact ⟨_, iC, rfl, rfl⟩
theorem ccused_n (q : Nat) (v : Value) (L : List Chunk) : GvP Tryd.prog 58 [.pointer (some ⟨q, 0, none⟩)].toArray (bdC q (.pointer (some ⟨q, 0, none⟩)) v :: L) (.tuple #[]) := by
  refine Gv.of_body (args := [.pointer (some ⟨q, 0, none⟩)]) Tryd.func58 rfl rfl ?_
  unfold bdC
  (repeat' first|refine kW ?_|refine kU fun bk=>?_|refine kV fun hc=>?_|refine kZ (fun hc=>?_) fun hc=>?_|fail)
  refine OW_EV (EV_ptrSame Tryd.underlying61 bd_info' rfl rfl) rfl ?_
  (repeat' first|refine kW ?_|refine kU fun bk=>?_|refine kV fun hc=>?_|refine kZ (fun hc=>?_) fun hc=>?_|fail)
  refine kR ?_
  exact ⟨_, iC, rfl, rfl⟩
theorem bgrow0_n (q n : Nat) (L : List Chunk) (h1 : 1 ≤ n) (h2 : n ≤ 281474976710656) : Gv Tryd.prog 59 [.pointer (some ⟨q, 0, none⟩), .int .i64 (n : Int)].toArray (bdC q (.pointer (some ⟨q, 0, none⟩)) (.slice none 0 0) :: L)
    (fun r L' => ∃ b cs, r = .tuple #[] ∧ n ≤ cs.length ∧ cs.length ≤ maxLen ∧ L' = [(b, cl cs 5)] :: bdC q (.pointer (some ⟨q, 0, none⟩)) (.slice (some ⟨b, 0, none⟩) 0 cs.length) :: L) := by
  refine Gv.of_body (args := [.pointer (some ⟨q, 0, none⟩), .int .i64 (n : Int)]) Tryd.func59 rfl rfl ?_
  unfold bdC
  (repeat' first|refine kW ?_|refine kU fun bk=>?_|refine kV fun hc=>?_|refine kZ (fun hc=>?_) fun hc=>?_|fail)
  refine WC_drawAll [] mixed ?_
  (refine WR_t 0 ?_; refine WR_t 1 ?_; refine WR_t 2 ?_; refine WR_t 3 ?_; refine WR_t 4 ?_; refine WR_t 5 ?_; refine WR_t 6 ?_; refine WR_t 7 ?_; refine WR_t 9 ?_; refine WR_t 10 ?_; refine WR_t 11 ?_; refine WR_t 12 ?_; refine WR_t 13 ?_)
  rw [show (2 : Int) * ((0 : Nat) : Int) + (n : Int) = (n : Int) from by omega]
  (refine WR_one 8 (by kernel_rfl) rfl rfl ?_)
  refine OW_makeNZ (f := 64) (t := 42) (e := 5) rfl rfl Tryd.func64 (by kernel_rfl) (by kernel_rfl) (by kernel_rfl) rfl Tryd.underlying42 h2 rfl (fun b cs c1 c2 => ?_)
  refine ⟨iC, ?_⟩
  have hc0 : ¬ cs.length = 0 := by omega
  (refine WR_take 14 rfl rfl (by kernel_rfl) iP iC (EV_sliceSl (l := 0) (h := 0) rfl rfl rfl (Nat.le_refl _) (Nat.zero_le _)) (by rfl) ?_)
  rw [if_neg hc0, Nat.zero_mul, Nat.add_zero, Nat.sub_zero, Nat.sub_zero]
  (refine WR_t 15 ?_)
  (refine WR_done (by kernel_rfl) ?_)
  (repeat' first|refine kW ?_|refine kU fun bk=>?_|refine kV fun hc=>?_|refine kZ (fun hc=>?_) fun hc=>?_|fail)
  refine OW_EV (EV_copy0 (by kernel_rfl) rfl rfl) rfl ?_
  (repeat' first|refine kW ?_|refine kU fun bk=>?_|refine kV fun hc=>?_|refine kZ (fun hc=>?_) fun hc=>?_|fail)
  refine kR ?_
  exact ⟨_, iC, b, cs, rfl, c1, c2, rfl⟩
theorem bgrow_nn (q n : Nat) (L : List Chunk) (h1 : 1 ≤ n) (h2 : n ≤ 281474976710656) : Gv Tryd.prog 47 [.pointer (some ⟨q, 0, none⟩), .int .i64 (n : Int)].toArray (bdC q (.pointer none) (.slice none 0 0) :: L)
    (fun r L' => ∃ b cs, r = .tuple #[] ∧ n ≤ cs.length ∧ cs.length ≤ maxLen ∧ L' = [(b, cl cs 5)] :: bdC q (.pointer (some ⟨q, 0, none⟩)) (.slice (some ⟨b, 0, none⟩) 0 cs.length) :: L) := by
  refine Gv.of_body (args := [.pointer (some ⟨q, 0, none⟩), .int .i64 (n : Int)]) Tryd.func47 rfl rfl ?_
  (repeat' first|refine kW ?_|refine kU fun bk=>?_|refine kV fun hc=>?_|refine kZ (fun hc=>?_) fun hc=>?_|fail)
  refine OW_call rfl rfl rfl (Gv.take (ccfresh_n q (.slice none 0 0) L) (by repeat (first | exact Take.here | apply Take.there))) rfl (fun r L' hp => ?_)
  obtain ⟨rfl, rfl⟩ := hp
  unfold bdC
  (repeat' first|refine kW ?_|refine kU fun bk=>?_|refine kV fun hc=>?_|refine kZ (fun hc=>?_) fun hc=>?_|fail)
  refine WC_drawAll [] mixed ?_
  (refine WR_t 0 ?_; refine WR_t 1 ?_; refine WR_t 2 ?_; refine WR_t 3 ?_; refine WR_t 4 ?_; refine WR_t 5 ?_; refine WR_t 6 ?_; refine WR_t 7 ?_; refine WR_t 8 ?_; refine WR_t 9 ?_; refine WR_t 10 ?_; refine WR_t 11 ?_; refine WR_t 12 ?_)
  (refine WR_done (by kernel_rfl) ?_)
  (repeat' first|refine kW ?_|refine kU fun bk=>?_|refine kV fun hc=>?_|refine kZ (fun hc=>?_) fun hc=>?_|fail)
  refine OW_call rfl rfl rfl (Gv.take (bgrow0_n q n L h1 h2) (by repeat (first | exact Take.here | apply Take.there))) rfl (fun r L' hp => ?_)
  obtain ⟨b, cs, rfl, c1, c2, rfl⟩ := hp
  (repeat' first|refine kW ?_|refine kU fun bk=>?_|refine kV fun hc=>?_|refine kZ (fun hc=>?_) fun hc=>?_|fail)
  refine kR ?_
  exact ⟨_, iC, b, cs, rfl, c1, c2, rfl⟩
theorem bwrite_n (q : Nat) (v : Value) (m : Nat) (xs : List Value) (s : List UInt8) (C : Chunk) (L : List Chunk) (hv : OwG 5 v m xs C) (hl : m + s.length ≤ 140737488355328) :
    Gv Tryd.prog 48 [.pointer (some ⟨q, 0, none⟩), .string (str s)].toArray (C :: bdC q (.pointer (some ⟨q, 0, none⟩)) v :: L)
    (fun r L' => ∃ v' C', r = .tuple #[.int .i64 (s.length : Int), .nilIface] ∧ OwG 5 v' (m + s.length) (xs ++ bsv s) C' ∧ L' = C' :: bdC q (.pointer (some ⟨q, 0, none⟩)) v' :: L) := by
  refine Gv.of_body (args := [.pointer (some ⟨q, 0, none⟩), .string (str s)]) Tryd.func48 rfl rfl ?_
  have z := str_size s
  (repeat' first|refine kW ?_|refine kU fun bk=>?_|refine kV fun hc=>?_|refine kZ (fun hc=>?_) fun hc=>?_|fail)
  refine OW_call rfl rfl rfl (Gv.take (ccused_n q v (C :: L)) (Take.there .here)) rfl (fun r L' hp => ?_)
  obtain ⟨rfl, rfl⟩ := hp
  unfold bdC
  (repeat' first|refine kW ?_|refine kU fun bk=>?_|refine kV fun hc=>?_|refine kZ (fun hc=>?_) fun hc=>?_|fail)
  refine OW_appGS rfl rfl hv (by repeat (first | exact Zip.here _ | apply Zip.there)) (by rw [z]; omega) (by rw [z]; simp only [maxLen]; omega) rfl (fun v' C' ho => ?_)
  rw [z, str_data] at ho
  have hv1 : v'.oneCell' = true := by
    rcases ho with ⟨rfl, _⟩ | ⟨b, cap, rest, fr, rfl, _⟩ <;> rfl
  (repeat' first|refine kW ?_|refine kU fun bk=>?_|refine kV fun hc=>?_|refine kZ (fun hc=>?_) fun hc=>?_|fail)
  refine OW_store rfl rfl hv1 iU (by first | rfl | trivial | simp) ?_
  (repeat' first|refine kW ?_|refine kU fun bk=>?_|refine kV fun hc=>?_|refine kZ (fun hc=>?_) fun hc=>?_|fail)
  refine kR ?_
  exact ⟨C' :: bdC q (.pointer (some ⟨q, 0, none⟩)) v' :: L, iC, v', C', by rw [← z]; rfl, ho, rfl⟩
theorem bstring_n (q : Nat) (v : Value) (l : List UInt8) (C : Chunk) (L : List Chunk) (hv : OwG 5 v l.length (bsv l) C) (h0 : l ≠ []) (hl : l.length ≤ 9223372036854775000) :
    Gv Tryd.prog 50 [.pointer (some ⟨q, 0, none⟩)].toArray (C :: bdC q (.pointer (some ⟨q, 0, none⟩)) v :: L) (fun r L' => r = .string (str l) ∧ L' = L) := by
  refine Gv.of_body (args := [.pointer (some ⟨q, 0, none⟩)]) Tryd.func50 rfl rfl ?_
  unfold bdC
  rcases hv with ⟨rfl, hm, _, _⟩ | ⟨b, cap, rest, fr, rfl, rfl, hxl, hrl, hmc, hcm, hfr⟩
  · exact absurd (List.eq_nil_of_length_eq_zero hm) h0
  have hpos : 0 < l.length := List.length_pos_iff.2 h0
  (repeat' first|refine kW ?_|refine kU fun bk=>?_|refine kV fun hc=>?_|refine kZ (fun hc=>?_) fun hc=>?_|fail)
  refine WC_draw ([(q, cl [.pointer (some ⟨q, 0, none⟩), .slice (some ⟨b, 0, none⟩) l.length cap] 63)] :: L) [11] mixed ?_
  (refine WR_t 0 ?_; refine WR_t 1 ?_; refine WR_t 2 ?_; refine WR_t 3 ?_)
  (refine WR_take 4 rfl rfl (by kernel_rfl) iP iC (EV_sliceData (by omega) rfl) (by rfl) ?_)
  (refine WR_t 5 ?_; refine WR_t 6 ?_; refine WR_t 7 ?_; refine WR_t 8 ?_; refine WR_t 9 ?_)
  (refine WR_one 10 (by kernel_rfl) rfl rfl ?_)
  refine OW_unsafeStringD (l := l) (rest := rest) (fr := fr) (e := 5) Tryd.underlying75 (by kernel_rfl) rfl rfl rfl h0 (by omega) (by repeat (first | exact Zip.here _ | apply Zip.there)) rfl ?_
  refine ⟨iC, ?_⟩
  (refine WR_last 11 (by kernel_rfl) rfl rfl rfl ?_)
  refine OW_EV (EV_assign rfl) rfl ?_
  (refine WR_done (by kernel_rfl) ?_)
  (repeat' first|refine kW ?_|refine kU fun bk=>?_|refine kV fun hc=>?_|refine kZ (fun hc=>?_) fun hc=>?_|fail)
  refine kR ?_
  exact ⟨L, iC, rfl, rfl⟩
end
end Go.Proofs.YtehpnblbkldojaaDoor
