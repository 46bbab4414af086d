/- Contracts and facts on the way to the top. It proves no statement by itself. No conditions. -/
import Derived.WalkKit
import Derived.KernelRfl
import Derived.StillTail
import Derived.OrdersHeld
import Derived.Lib.Bytealg
import Derived.Lib.Overlaps
import Derived.Lib.UnsafeStr
import Derived.Laws.BytesArg
import Derived.ProofKit
import Derived.OpenShut
import Derived.JoinedCond
import Derived.Below
import Derived.Deep.DeepHandedRow
import Derived.SizedLaws
import Derived.LaidLaws
import Derived.RangeFuncRecord
import Derived.OrdersIn
import Derived.Deep.Grids
import Derived.Test.YtbdpjbmfhnbheaaRows
namespace Go.Hf
end Go.Hf
namespace Go.Pm
end Go.Pm
namespace Go.So
end Go.So
namespace Go.Vx
end Go.Vx
namespace Go.Vx
open Go
set_option linter.all false
abbrev Chunk := List (Nat × Obj)
class W0 where
  os : Os
  output : Array (Nat × ByteArray)
variable [W0]
def Holds (w : World) (L : List Chunk) : Prop :=
  (L.flatten.map Prod.fst).Nodup ∧ (∀ x ∈ L.flatten, w.heap[x.1]? = some x.2) ∧ w.os = W0.os ∧ w.output = W0.output
omit [W0] in
/-- A block of cells that may be written. -/
def cl (l : List Value) (T : TypeId) : Obj := .cells l.toArray T (0, 0)
theorem Holds.lt {w : World} {L : List Chunk} (h : Holds w L) {x : Nat × Obj} (hx : x ∈ L.flatten) : x.1 < w.heap.size := by
  have := h.2.1 x hx
  rcases Nat.lt_or_ge x.1 w.heap.size with h' | h'
  · exact h'
  · simp [Array.getElem?_eq_none h'] at this
theorem Holds.same {w w' : World} {L : List Chunk} (h : Holds w L) (hh : w'.heap = w.heap) (ho : w'.os = w.os) (hq : w'.output = w.output) : Holds w' L :=
  ⟨h.1, fun x hx => by rw [hh]; exact h.2.1 x hx, ho.trans h.2.2.1, hq.trans h.2.2.2⟩
theorem Holds.perm {w : World} {L L' : List Chunk} (h : Holds w L) (hp : L.Perm L') : Holds w L' := by
  have hf : L.flatten.Perm L'.flatten := hp.flatten
  exact ⟨(hf.map Prod.fst).nodup_iff.1 h.1, fun x hx => h.2.1 x (hf.mem_iff.2 hx), h.2.2⟩
theorem Holds.alloc {w : World} {L : List Chunk} (h : Holds w L) (o : Obj) : Holds (w.alloc o) ([(w.heap.size, o)] :: L) := by
  refine ⟨?_, ?_, h.2.2⟩
  · simp only [List.flatten_cons, List.map_cons, List.singleton_append, List.nodup_cons]
    refine ⟨?_, h.1⟩
    intro hm
    obtain ⟨x, hx, he⟩ := List.mem_map.1 hm
    have := h.lt hx
    omega
  · intro x hx
    simp only [List.flatten_cons, List.mem_append, List.mem_singleton] at hx
    rcases hx with rfl | hx
    · show (w.heap.push o)[w.heap.size]? = some o
      simp
    · have := h.lt hx
      show (w.heap.push o)[x.1]? = some x.2
      rw [Array.getElem?_push, if_neg (by omega)]
      exact h.2.1 x hx
omit [W0] in
/-- Some chunk holds the block. -/
def Fnd (L : List Chunk) (b : Nat) (o : Obj) : Prop := (b, o) ∈ L.flatten
theorem Fnd.here {L : List Chunk} {b : Nat} {o : Obj} : Fnd ([(b, o)] :: L) b o := by simp [Fnd]
theorem Fnd.there {L : List Chunk} {C : Chunk} {b : Nat} {o : Obj} (h : Fnd L b o) : Fnd (C :: L) b o := by
  simp only [Fnd, List.flatten_cons, List.mem_append] at *; exact .inr h
theorem Fnd.mem {L : List Chunk} {C : Chunk} {b : Nat} {o : Obj} (h : (b, o) ∈ C) : Fnd (C :: L) b o := by
  simp only [Fnd, List.flatten_cons, List.mem_append]; exact .inl h
theorem Fnd.get {w : World} {L : List Chunk} {b : Nat} {o : Obj} (h : Fnd L b o) (hH : Holds w L) : w.heap[b]? = some o := hH.2.1 _ h
omit [W0] in
/-- A chunk of one block is turned. -/
inductive Upd : List Chunk → Nat → Obj → Obj → List Chunk → Prop
  | here {L b o o'} : Upd ([(b, o)] :: L) b o o' ([(b, o')] :: L)
  | there {C L L' b o o'} : Upd L b o o' L' → Upd (C :: L) b o o' (C :: L')
theorem Upd.fnd {L L' : List Chunk} {b : Nat} {o o' : Obj} (h : Upd L b o o' L') : Fnd L b o := by
  induction h with
  | here => exact .here
  | there _ ih => exact .there ih
theorem Upd.keys {L L' : List Chunk} {b : Nat} {o o' : Obj} (h : Upd L b o o' L') : L'.flatten.map Prod.fst = L.flatten.map Prod.fst := by
  induction h with
  | here => simp
  | there _ ih => simp [ih]
theorem Upd.mem {L L' : List Chunk} {b : Nat} {o o' : Obj} (h : Upd L b o o' L') (hn : (L.flatten.map Prod.fst).Nodup) :
    ∀ x ∈ L'.flatten, x = (b, o') ∨ (x.1 ≠ b ∧ x ∈ L.flatten) := by
  induction h with
  | @here L b o o' =>
    intro x hx
    simp only [List.flatten_cons, List.singleton_append, List.mem_cons, List.map_cons, List.nodup_cons] at *
    rcases hx with rfl | hx
    · exact .inl rfl
    · refine .inr ⟨fun he => hn.1 ?_, .inr hx⟩
      rw [← he]; exact List.mem_map_of_mem hx
  | @there C L L' b o o' hu ih =>
    intro x hx
    simp only [List.flatten_cons, List.mem_append, List.map_append] at *
    rw [List.nodup_append] at hn
    rcases hx with hx | hx
    · refine .inr ⟨fun he => ?_, .inl hx⟩
      have := hu.fnd
      exact hn.2.2 x.1 (List.mem_map_of_mem hx) b (List.mem_map_of_mem (f := Prod.fst) this) he
    · rcases ih hn.2.1 x hx with h | h
      · exact .inl h
      · exact .inr ⟨h.1, .inr h.2⟩
theorem Holds.upd {w w' : World} {L L' : List Chunk} {b : Nat} {o o' : Obj} (h : Holds w L) (hu : Upd L b o o' L')
    (hb : w'.heap[b]? = some o') (ho : ∀ c, c ≠ b → w'.heap[c]? = w.heap[c]?) (hos : w'.os = w.os) (hq : w'.output = w.output) : Holds w' L' := by
  refine ⟨by rw [hu.keys]; exact h.1, fun x hx => ?_, hos.trans h.2.2.1, hq.trans h.2.2.2⟩
  rcases hu.mem h.1 x hx with rfl | ⟨hne, hm⟩
  · exact hb
  · rw [ho _ hne]; exact h.2.1 x hm
omit [W0] in
/-- A chunk is taken out. -/
inductive Take : Chunk → List Chunk → List Chunk → Prop
  | here {C L} : Take C (C :: L) L
  | there {C D L L'} : Take C L L' → Take C (D :: L) (D :: L')
theorem Take.perm {C : Chunk} {L L' : List Chunk} (h : Take C L L') : L.Perm (C :: L') := by
  induction h with
  | here => exact .refl _
  | there _ ih => exact (ih.cons _).trans (.swap _ _ _)
theorem Holds.take {w : World} {C : Chunk} {L L' : List Chunk} (h : Holds w L) (ht : Take C L L') : Holds w (C :: L') := h.perm ht.perm
theorem Holds.split {w : World} {C D : Chunk} {L : List Chunk} : Holds w ((C ++ D) :: L) ↔ Holds w (C :: D :: L) := by
  simp [Holds, List.append_assoc]
theorem Holds.nil {w : World} {L : List Chunk} : Holds w ([] :: L) ↔ Holds w L := by simp [Holds]
theorem Holds.drop {w : World} {C : Chunk} {L : List Chunk} (h : Holds w (C :: L)) : Holds w L := by
  refine ⟨?_, fun x hx => h.2.1 x (by simp only [List.flatten_cons, List.mem_append]; exact .inr hx), h.2.2⟩
  have := h.1
  simp only [List.flatten_cons, List.map_append, List.nodup_append] at this
  exact this.2.1
omit [W0] in
def aggB (P : Program) (t : TypeId) : Bool := match P.underlying t with | some (.struct _) | some (.array _ _) | none => true | _ => false
omit [W0] in
def aggT (P : Program) (t : TypeId) : Bool := match P.underlying t with | some (.struct _) | some (.array _ _) => true | _ => false
omit [W0] in
/-- The function has a body that is run. -/
def bodyB (P : Program) (f : FuncId) : Bool := match P.funcs[f]? with
  | some fn => fn.name != "runtime.NumGoroutine" && fn.body.isSome
  | none => false
omit [W0] in
class NA (P : Program) (t : Nat) : Prop where out : aggB P t = false
omit [W0] in
class AG (P : Program) (t : Nat) (k : outParam Nat) : Prop where out : aggT P t = true ∧ (P.info? t).map (·.size) = some k
omit [W0] in
class SZ (P : Program) (t : Nat) (k : outParam Nat) : Prop where out : (P.info? t).map (·.size) = some k
omit [W0] in
def fldOff (P : Program) (s f : Nat) : Option Nat := match P.underlying s with
  | some (.struct fs) => match fs[f]? with
    | some fd => match P.info? fd.type with
      | some i => if Nat.blt 0 i.size then some fd.offset else none
      | none => none
    | none => none
  | _ => none
omit [W0] in
class FO (P : Program) (s f : Nat) (k : outParam Nat) : Prop where out : fldOff P s f = some k
omit [W0] in
def slcOf (P : Program) (T : Nat) : Option (Nat × Nat × Nat) := match P.underlying T with
  | some (.slice e) => match P.info? e with
    | some i => if Nat.blt 0 i.size then some (e, i.size, i.bytes) else none
    | none => none
  | _ => none
omit [W0] in
class SL (P : Program) (T : Nat) (e : outParam Nat) (k : outParam Nat) (by_ : outParam Nat) : Prop where out : slcOf P T = some (e, k, by_)
omit [W0] in
class ST (P : Program) (T : Nat) : Prop where out : P.underlying T = some .string
omit [W0] in
class ZV (P : Program) (t : Nat) (z : outParam Value) : Prop where out : (P.info? t).map (·.zero) = some (some z)
omit [W0] in
class IK (P : Program) (t : Nat) (k : outParam IntKind) : Prop where out : P.underlying t = some (.int k)
omit [W0] in
class BD (P : Program) (f : Nat) : Prop where out : bodyB P f = true
omit [W0] in
def notIface (P : Program) (t : Nat) : Bool := match P.underlying t with | some (.interface _) | none => false | _ => true
omit [W0] in
class NI (P : Program) (t : Nat) : Prop where out : notIface P t = true
omit [W0] in
/-- The cell of a list. -/
def nth : List Value → Nat → Option Value
  | [], _ => none
  | v :: _, 0 => some v
  | _ :: r, i + 1 => nth r i
theorem nth_eq : ∀ (l : List Value) (i : Nat), nth l i = l[i]?
  | [], i => by simp [nth]
  | v :: r, 0 => by simp [nth]
  | v :: r, i + 1 => by simp [nth, nth_eq r i]
omit [W0] in
def lk : List (Nat × Value) → Nat → Option Value
  | [], _ => none
  | (t, v) :: r, n => bif Nat.beq t n then some v else lk r n
omit [W0] in
def ev (M : List (Nat × Value)) : Operand → Option Value
  | .tmp t => lk M t
  | .const v => some v
  | .global g => some (.pointer (some ⟨g, 0, none⟩))
  | .func f => some (.func (.func f) #[] #[])
omit [W0] in
structure St (n : Nat) (M : List (Nat × Value)) (a : Act) : Prop where
  defers : a.defers = []
  size : a.tmps.size = n
  get : ∀ t v, lk M t = some v → a.tmps[t]? = some v
theorem St.eval {n : Nat} {M : List (Nat × Value)} {a : Act} (h : St n M a) {x : Operand} {v : Value} (hx : ev M x = some v) : a.eval x = v := by
  cases x with
  | tmp t => have := h.get t v hx; simp [Act.eval, Array.getD_eq_getD_getElem?, this]
  | const u => exact Option.some.inj hx
  | global g => exact Option.some.inj hx
  | func f => exact Option.some.inj hx
theorem St.put {n : Nat} {M : List (Nat × Value)} {a : Act} (h : St n M a) {d : Nat} (v : Value) (hd : Nat.blt d n = true) : St n ((d, v) :: M) (a.put (some d) v) := by
  have hd' : d < n := by simpa [Nat.blt_eq] using hd
  refine ⟨h.defers, by simp [Act.put, h.size], fun t u ht => ?_⟩
  simp only [Act.put]
  unfold lk at ht
  by_cases e : d = t
  · subst e
    simp at ht
    subst ht
    rw [Array.getElem?_setIfInBounds_self]
    simp [h.size, hd']
  · have : Nat.beq d t = false := by
      cases hb : Nat.beq d t with
      | false => rfl
      | true => exact absurd (Nat.eq_of_beq_eq_true hb) e
    rw [this] at ht
    rw [Array.getElem?_setIfInBounds_ne e]
    exact h.get t u ht
omit [W0] in
/-- All that the smaller list knows the larger one knows. -/
def Sub (M' M : List (Nat × Value)) : Prop := ∀ t v, lk M' t = some v → lk M t = some v
theorem Sub.nil {M : List (Nat × Value)} : Sub [] M := fun t v h => by simp [lk] at h
theorem Sub.cons {M M' : List (Nat × Value)} {t : Nat} {v : Value} (h : lk M t = some v) (hs : Sub M' M) : Sub ((t, v) :: M') M := by
  intro u x hu
  unfold lk at hu
  cases hb : Nat.beq t u with
  | true => rw [hb] at hu; simp at hu; subst hu; rw [← Nat.eq_of_beq_eq_true hb]; exact h
  | false => rw [hb] at hu; exact hs u x hu
theorem St.sub {n : Nat} {M M' : List (Nat × Value)} {a : Act} (h : St n M a) (hs : Sub M' M) : St n M' a := ⟨h.defers, h.size, fun t v ht => h.get t v (hs t v ht)⟩
structure WQ (n : Nat) (q : Act → World → Prop) (M : List (Nat × Value)) (L : List Chunk) : Prop where
  out : ∀ a w, St n M a → Holds w L → q a w
structure WC (P : Program) (n : Nat) (c : Code) (Q : Exit → Act → World → Prop) (M : List (Nat × Value)) (L : List Chunk) : Prop where
  out : ∀ a w, St n M a → Holds w L → c.wp P Q a w
structure WL (P : Program) (n : Nat) (ops : Array Oper) (Q : Exit → Act → World → Prop) (rest : List Oper) (M : List (Nat × Value)) (L : List Chunk) : Prop where
  out : ∀ a w, St n M a → Holds w L → wpList P ops Q rest a w
structure OW (P : Program) (n : Nat) (o : Oper) (K : List (Nat × Value) → List Chunk → Prop) (M : List (Nat × Value)) (L : List Chunk) : Prop where
  out : ∀ a w (next : Act → World → Prop) Q, St n M a → Holds w L → (∀ M' L', K M' L' → WQ n next M' L') → o.wp P a w next Q
section
variable {P : Program} {n : Nat} {Q : Exit → Act → World → Prop} {M : List (Nat × Value)} {L : List Chunk} {K : List (Nat × Value) → List Chunk → Prop}
theorem WC.holds {L' : List Chunk} {c : Code} (h : WC P n c Q M L') (hl : ∀ w, Holds w L → Holds w L') : WC P n c Q M L := ⟨fun a w ha hw => h.out a w ha (hl w hw)⟩
theorem WC.sub {M' : List (Nat × Value)} {c : Code} (h : WC P n c Q M' L) (hs : Sub M' M) : WC P n c Q M L := ⟨fun a w ha hw => h.out a w (ha.sub hs) hw⟩
theorem WC_seq {x y : Code} (h : WC P n x (Exit.then (y.wp P Q) Q) M L) : WC P n (.seq x y) Q M L := ⟨fun a w ha hw => wp_seq (h.out a w ha hw)⟩
theorem WC_skip (h : WQ n (Q .normal) M L) : WC P n .skip Q M L := ⟨fun a w ha hw => wp_skip (h.out a w ha hw)⟩
theorem WC_exit {id : Nat} (h : WQ n (Q (.exit id)) M L) : WC P n (.exit id) Q M L := ⟨fun a w ha hw => wp_exit (h.out a w ha hw)⟩
theorem WC_ret (h : WQ n (Q .ret) M L) : WC P n .ret Q M L := ⟨fun a w ha hw => wp_ret (h.out a w ha hw)⟩
theorem WC_block {id : Nat} {c : Code} (h : WC P n c (Exit.inBlock id Q) M L) : WC P n (.block id c) Q M L := ⟨fun a w ha hw => wp_block (h.out a w ha hw)⟩
theorem WC_cond {c : Operand} {x y : Code} {t : Bool} (hc : ev M c = some (.bool t)) (ht : t = true → WC P n x Q M L) (hf : t = false → WC P n y Q M L) :
    WC P n (.cond c x y) Q M L := ⟨fun a w ha hw => wp_cond_split (ha.eval hc) (fun h => (ht h).out a w ha hw) (fun h => (hf h).out a w ha hw)⟩
theorem WC_true {c : Operand} {x y : Code} (hc : ev M c = some (.bool true)) (ht : WC P n x Q M L) : WC P n (.cond c x y) Q M L := ⟨fun a w ha hw => wp_cond_true (ha.eval hc) (ht.out a w ha hw)⟩
theorem WC_false {c : Operand} {x y : Code} (hc : ev M c = some (.bool false)) (ht : WC P n y Q M L) : WC P n (.cond c x y) Q M L := ⟨fun a w ha hw => wp_cond_false (ha.eval hc) (ht.out a w ha hw)⟩
theorem WC_region {id : Nat} {l : List Oper} (h : WL P n l.toArray Q l M L) : WC P n (.region id l.toArray false) Q M L := ⟨fun a w ha hw => wp_region_lit (h.out a w ha hw)⟩
theorem WL_nil {ops : Array Oper} (h : WQ n (Q .normal) M L) : WL P n ops Q [] M L := ⟨fun a w ha hw => wpList_nil (h.out a w ha hw)⟩
theorem WQ_then_normal {K : Act → World → Prop} (h : WQ n K M L) : WQ n (Exit.then K Q .normal) M L := ⟨h.out⟩
theorem WQ_then_ret {K : Act → World → Prop} (h : WQ n (Q .ret) M L) : WQ n (Exit.then K Q .ret) M L := ⟨h.out⟩
theorem WQ_then_exit {K : Act → World → Prop} {id : Nat} (h : WQ n (Q (.exit id)) M L) : WQ n (Exit.then K Q (.exit id)) M L := ⟨h.out⟩
theorem WQ_block_ret {i : Nat} (h : WQ n (Q .ret) M L) : WQ n (Exit.inBlock i Q .ret) M L := ⟨h.out⟩
theorem WQ_block_normal {i : Nat} (h : WQ n (Q .normal) M L) : WQ n (Exit.inBlock i Q .normal) M L := ⟨h.out⟩
theorem WQ_block_hit {i : Nat} (h : WQ n (Q .normal) M L) : WQ n (Exit.inBlock i Q (.exit i)) M L := ⟨fun a w ha hw => by
  show if i = i then Q .normal a w else Q (.exit i) a w
  rw [if_pos rfl]; exact h.out a w ha hw⟩
theorem WQ_block_miss {i j : Nat} (hne : Nat.beq j i = false) (h : WQ n (Q (.exit j)) M L) : WQ n (Exit.inBlock i Q (.exit j)) M L := ⟨fun a w ha hw => by
  show if j = i then Q .normal a w else Q (.exit j) a w
  rw [if_neg (by intro e; subst e; simp at hne)]; exact h.out a w ha hw⟩
theorem WQ_code {c : Code} (h : WC P n c Q M L) : WQ n (c.wp P Q) M L := ⟨h.out⟩
theorem WL_plain {ops : Array Oper} {rest : List Oper} {o : Oper} (hg : o.guard = none) (h : OW P n o (WL P n ops Q rest) M L) : WL P n ops Q (o :: rest) M L := ⟨fun a w ha hw => by
  unfold wpList
  rw [if_pos (by simp [Region.wanted, hg])]
  exact .inl (h.out a w _ Q ha hw fun M' L' hk => ⟨hk.out⟩)⟩
omit [W0] in
/-- What the guarding operation of a region has yielded. -/
def yl (ops : List Oper) (M : List (Nat × Value)) (j : Nat) : Option Value := ((ops[j]?).bind (·.dst)).bind (lk M)
theorem yielded_of {ops : List Oper} {a : Act} (ha : St n M a) {j : Nat} {v : Value} (h : yl ops M j = some v) :
    yielded ops.toArray a.tmps j = match v with | .bool b => some b | _ => none := by
  unfold yl at h
  unfold yielded
  simp only [List.getElem?_toArray]
  cases hj : ops[j]? with
  | none => simp [hj] at h
  | some o =>
    simp only [hj, Option.bind_some] at h ⊢
    cases hd : o.dst with
    | none => simp [hd] at h
    | some d =>
      simp only [hd, Option.bind_some] at h ⊢
      rw [ha.get d v h]
      cases v <;> rfl
theorem WL_on {ops : List Oper} {rest : List Oper} {o : Oper} {j : Nat} {b : Bool} (hg : o.guard = some (j, b)) (hy : yl ops M j = some (.bool b))
    (h : OW P n o (WL P n ops.toArray Q rest) M L) : WL P n ops.toArray Q (o :: rest) M L := ⟨fun a w ha hw => by
  unfold wpList
  rw [if_pos (by simp [Region.wanted, hg, yielded_of ha hy])]
  exact .inl (h.out a w _ Q ha hw fun M' L' hk => ⟨hk.out⟩)⟩
theorem WL_off {ops : List Oper} {rest : List Oper} {o : Oper} {j d : Nat} {b : Bool} (hg : o.guard = some (j, b)) (hd : o.dst = some d) (hy : yl ops M j = some (.bool (!b)))
    (hn : Nat.blt d n = true) (h : WL P n ops.toArray Q rest ((d, undef) :: M) L) : WL P n ops.toArray Q (o :: rest) M L := ⟨fun a w ha hw => by
  unfold wpList
  rw [if_neg (by simp [Region.wanted, hg, yielded_of ha hy])]
  rw [hd]
  exact h.out _ w (ha.put undef hn) hw⟩
theorem WL_off' {ops : List Oper} {rest : List Oper} {o : Oper} {j : Nat} {b : Bool} (hg : o.guard = some (j, b)) (hd : o.dst = none) (hy : yl ops M j = some (.bool (!b)))
    (h : WL P n ops.toArray Q rest M L) : WL P n ops.toArray Q (o :: rest) M L := ⟨fun a w ha hw => by
  unfold wpList
  rw [if_neg (by simp [Region.wanted, hg, yielded_of ha hy])]
  rw [hd]
  exact h.out _ w ha hw⟩
theorem WL_offu {ops : List Oper} {rest : List Oper} {o : Oper} {j d : Nat} {b : Bool} (hg : o.guard = some (j, b)) (hd : o.dst = some d) (hy : yl ops M j = some undef)
    (hn : Nat.blt d n = true) (h : WL P n ops.toArray Q rest ((d, undef) :: M) L) : WL P n ops.toArray Q (o :: rest) M L := ⟨fun a w ha hw => by
  unfold wpList
  rw [if_neg (by simp [Region.wanted, hg, yielded_of ha hy, undef])]
  rw [hd]
  exact h.out _ w (ha.put undef hn) hw⟩
theorem WL_split {ops : List Oper} {rest : List Oper} {o : Oper} {j : Nat} {b c : Bool} (hg : o.guard = some (j, b)) (hy : yl ops M j = some (.bool c))
    (ht : c = true → WL P n ops.toArray Q (o :: rest) M L) (hf : c = false → WL P n ops.toArray Q (o :: rest) M L) : WL P n ops.toArray Q (o :: rest) M L := by
  cases c
  · exact hf rfl
  · exact ht rfl
theorem OW_val {o : Oper} {d : Nat} {v : Value} (hd : o.dst = some d) (hn : Nat.blt d n = true) (hr : ∀ a w, St n M a → Holds w L → (execOp a.eval o).run P w = .ok (.value v) w)
    (h : K ((d, v) :: M) L) : OW P n o K M L := ⟨fun a w next Q ha hw hk => by
  unfold Oper.wp
  rw [hr a w ha hw, Oper.upon_value, hd]
  exact (hk _ _ h).out _ _ (ha.put v hn) hw⟩
structure EV (P : Program) (n : Nat) (o : Oper) (M : List (Nat × Value)) (L : List Chunk) (d : Nat) (v : Value) : Prop where
  dst : o.dst = some d
  run : ∀ a w, St n M a → Holds w L → (execOp a.eval o).run P w = .ok (.value v) w
theorem OW_EV {o : Oper} {d : Nat} {v : Value} (he : EV P n o M L d v) (hn : Nat.blt d n = true) (h : K ((d, v) :: M) L) : OW P n o K M L := OW_val he.dst hn he.run h
variable {d : Nat} {ty : TypeId} {ps : String} {af : Array Edge} {g : Option (Nat × Bool)} {x y : Operand} {v : Value}
theorem EV_move (hx : ev M x = some v) : EV P n ⟨some d, .move x, ty, ps, af, g⟩ M L d (v) :=
  ⟨rfl, fun a w ha _ => by simp [execOp, ha.eval hx]⟩
theorem EV_assign (hx : ev M x = some v) : EV P n ⟨some d, .assign x, ty, ps, af, g⟩ M L d (v) :=
  ⟨rfl, fun a w ha _ => by simp [execOp, ha.eval hx]⟩
theorem EV_pick {c : Operand} {b : Bool} (hc : ev M c = some (.bool b)) (hv : (if b then ev M x else ev M y) = some v) :
    EV P n ⟨some d, .pick c x y, ty, ps, af, g⟩ M L d (v) :=
  ⟨rfl, fun a w ha _ => by
    cases b
    · simp [execOp, ha.eval hc, asBool, ha.eval (x := y) (by simpa using hv)]
    · simp [execOp, ha.eval hc, asBool, ha.eval (x := x) (by simpa using hv)]⟩
theorem EV_nilCheck {ad : Addr} (hx : ev M x = some (.pointer (some ad))) :
    EV P n ⟨some d, .nilCheck x, ty, ps, af, g⟩ M L d (.pointer (some ad)) :=
  ⟨rfl, fun a w ha _ => by simp [execOp, ha.eval hx]⟩
theorem EV_extract {i : Nat} {vs : List Value} (hx : ev M x = some (.tuple vs.toArray)) (hv : nth vs i = some v) :
    EV P n ⟨some d, .extract x i, ty, ps, af, g⟩ M L d v :=
  ⟨rfl, fun a w ha _ => by rw [nth_eq] at hv; simp [execOp, ha.eval hx, Instr.extract, hv]⟩
theorem EV_not {b : Bool} {ty' : TypeId} (hx : ev M x = some (.bool b)) : EV P n ⟨some d, .unOp .not ty' x, ty, ps, af, g⟩ M L d (.bool (!b)) :=
  ⟨rfl, fun a w ha _ => by simp [execOp, ha.eval hx, Op.unary]⟩
omit [W0] in
/-- Comparisons of integers. -/
def cmpI : BinOp → Int → Int → Option Bool
  | .eql, x, y => some (x == y) | .neq, x, y => some (x != y) | .lss, x, y => some (x < y) | .leq, x, y => some (x ≤ y) | .gtr, x, y => some (x > y) | .geq, x, y => some (x ≥ y)
  | _, _, _ => none
theorem EV_cmp {op : BinOp} {t u : TypeId} {k : IntKind} {i j : Int} {b : Bool} (hx : ev M x = some (.int k i)) (hy : ev M y = some (.int k j)) (hb : cmpI op i j = some b)
    : EV P n ⟨some d, .binOp op t x y u, ty, ps, af, g⟩ M L d (.bool b) :=
  ⟨rfl, fun a w ha _ => by
    cases op <;> simp [cmpI] at hb <;> subst hb <;> simp [execOp, ha.eval hx, ha.eval hy, eqGuard, binOp, Op.intCmp]⟩
omit [W0] in
def ariI : BinOp → Int → Int → Option Int
  | .add, x, y => some (x + y) | .sub, x, y => some (x - y) | .mul, x, y => some (x * y)
  | _, _, _ => none
theorem EV_ari {op : BinOp} {t u : TypeId} {k : IntKind} {i j r : Int} (hx : ev M x = some (.int k i)) (hy : ev M y = some (.int k j)) (hb : ariI op i j = some r)
    : EV P n ⟨some d, .binOp op t x y u, ty, ps, af, g⟩ M L d (.int k (k.wrap r)) :=
  ⟨rfl, fun a w ha _ => by
    cases op <;> simp [ariI] at hb <;> subst hb <;> simp [execOp, ha.eval hx, ha.eval hy, eqGuard, binOp, Op.intArith]⟩
theorem wrap_i64 {r : Int} (h1 : -9223372036854775808 ≤ r) (h2 : r ≤ 9223372036854775807) : IntKind.i64.wrap r = r := by
  simp [IntKind.wrap, IntKind.bits, IntKind.signed]
  split <;> omega
theorem EV_ari64 {op : BinOp} {t u : TypeId} {i j r : Int} (hx : ev M x = some (.int .i64 i)) (hy : ev M y = some (.int .i64 j)) (hb : ariI op i j = some r)
    (h1 : -9223372036854775808 ≤ r ∧ r ≤ 9223372036854775807) : EV P n ⟨some d, .binOp op t x y u, ty, ps, af, g⟩ M L d (.int .i64 r) := by
  have := EV_ari (P := P) (n := n) (L := L) (d := d) (ty := ty) (ps := ps) (af := af) (g := g) (op := op) (t := t) (u := u) hx hy hb
  rwa [wrap_i64 h1.1 h1.2] at this
theorem isAgg_false {t : TypeId} (h : aggB P t = false) (w : World) : (isAgg t).run P w = .ok false w := by
  unfold aggB at h
  cases hu : P.underlying t with
  | none => simp [hu] at h
  | some D => cases D <;> simp [hu] at h <;> simp [isAgg, underlying, hu]
theorem isAgg_true {t : TypeId} (h : aggT P t = true) (w : World) : (isAgg t).run P w = .ok true w := by
  unfold aggT at h
  cases hu : P.underlying t with
  | none => simp [hu] at h
  | some D => cases D <;> simp [hu] at h <;> simp [isAgg, underlying, hu]
theorem cell_of {w : World} {b off : Nat} {c : Array Value} {T : TypeId} {fr : Nat × Nat} (hb : w.heap[b]? = some (.cells c T fr)) : w.cell? ⟨b, off, none⟩ = c[off]? := by
  simp [World.cell?, hb]
theorem EV_load {t : TypeId} [hag : NA P t] {b off : Nat} {c : Array Value} {T : TypeId} {fr : Nat × Nat} (hx : ev M x = some (.pointer (some ⟨b, off, none⟩))) (hf : Fnd L b (.cells c T fr))
    (hc : c[off]? = some v) : EV P n ⟨some d, .load t x, ty, ps, af, g⟩ M L d (v) :=
  ⟨rfl, fun a w ha hw => by
    have hcell : w.cell? ⟨b, off, none⟩ = some v := by rw [cell_of (hf.get hw), hc]
    simp [execOp, ha.eval hx, Instr.loadAt, Instr.sureAddr, loadVar, isAgg_false hag.out, hcell]⟩
theorem EV_loadc {t : TypeId} [hag : NA P t] {b off : Nat} {l : List Value} {T : TypeId} (hx : ev M x = some (.pointer (some ⟨b, off, none⟩))) (hf : Fnd L b (cl l T))
    (hc : nth l off = some v) : EV P n ⟨some d, .load t x, ty, ps, af, g⟩ M L d v :=
  EV_load hx hf (by simpa [nth_eq] using hc)
theorem setCell_at {w : World} {b off : Nat} {c : Array Value} {T : TypeId} {fr : Nat × Nat} {v : Value} (hb : w.heap[b]? = some (.cells c T fr)) :
    (w.setCell ⟨b, off, none⟩ v).heap[b]? = some (.cells (c.setIfInBounds off v) T fr) := by
  simp [World.setCell, Array.getElem?_modify, hb]
theorem setCell_ne {w : World} {b off e : Nat} {v : Value} (hne : e ≠ b) : (w.setCell ⟨b, off, none⟩ v).heap[e]? = w.heap[e]? := by
  simp only [World.setCell, Array.getElem?_modify]
  rw [if_neg (by intro h; exact hne h.symm)]
theorem sizeOf_run {t : TypeId} {k : Nat} (h : (P.info? t).map (·.size) = some k) (w : World) : (sizeOf t).run P w = .ok k w := by
  cases hi : P.info? t with
  | none => simp [hi] at h
  | some i => simp [hi] at h; simp [sizeOf, typeInfo, hi, h]
theorem OW_store {t : TypeId} [hs : SZ P t 1] {b off : Nat} {l : List Value} {T : TypeId} {L' : List Chunk} (hx : ev M x = some (.pointer (some ⟨b, off, none⟩))) (hy : ev M y = some v) (hv : v.oneCell' = true)
    (hu : Upd L b (cl l T) (cl (l.set off v) T) L') (hlt : off < l.length) (h : K M L') :
    OW P n ⟨none, .store t x y, ty, ps, af, g⟩ K M L := ⟨fun a w next Q ha hw hk => by
  have hb := hu.fnd.get hw
  have hcell : w.cell? ⟨b, off, none⟩ = some l[off] := by rw [cell_of hb]; simp [hlt]
  have hfz : w.frozen? ⟨b, off, none⟩ = false := by simp [World.frozen?, hb, cl]
  have hcs : v.cells = #[v] := by cases v <;> simp [Value.oneCell'] at hv <;> rfl
  have hrun : (execOp a.eval ⟨none, .store t x y, ty, ps, af, g⟩).run P w = .ok .skip (w.setCell ⟨b, off, none⟩ v) := by
    simp [execOp, ha.eval hx, ha.eval hy, Instr.storeAt, Instr.sureAddr, storeVar, sizeOf_run hs.out, hcs, storeCells, run_store _ _ _ _ _ hv, Addr.add, hcell, hfz]
  unfold Oper.wp
  rw [hrun, Oper.upon_skip]
  refine (hk _ _ h).out _ _ ha (hw.upd hu ?_ ?_ rfl rfl)
  · rw [setCell_at hb]; simp [cl]
  · exact fun c hc => setCell_ne hc⟩
theorem EV_fieldAddr {s : TypeId} {f k : Nat} [hF : FO P s f k] {b off : Nat} (hx : ev M x = some (.pointer (some ⟨b, off, none⟩)))
    : EV P n ⟨some d, .fieldAddr s x f, ty, ps, af, g⟩ M L d (.pointer (some ⟨b, off + k, none⟩)) :=
  ⟨rfl, fun a w ha _ => by
    have hF := hF.out
    unfold fldOff at hF
    split at hF
    · rename_i fs hu
      split at hF
      · rename_i fd hf
        split at hF
        · rename_i i hi
          split at hF
          · rename_i hz
            simp at hF
            subst hF
            have hne : i.size ≠ 0 := by rw [Nat.blt_eq] at hz; omega
            simp [execOp, ha.eval hx, Instr.fieldAt, Instr.sureAddr, fieldPlace, underlying, hu, hf, sizeOf, typeInfo, hi, hne]
            unfold Addr.add
            split <;> simp_all
          · simp at hF
        · simp at hF
      · simp at hF
    · simp at hF⟩
theorem EV_fieldAddr0 {s : TypeId} {f k : Nat} [hF : FO P s f k] {b : Nat} (hx : ev M x = some (.pointer (some ⟨b, 0, none⟩))) :
    EV P n ⟨some d, .fieldAddr s x f, ty, ps, af, g⟩ M L d (.pointer (some ⟨b, k, none⟩)) := by
  have := EV_fieldAddr (P := P) (n := n) (L := L) (d := d) (ty := ty) (ps := ps) (af := af) (g := g) (s := s) (f := f) hx
  rwa [Nat.zero_add] at this
end
structure Gv (P : Program) (f : FuncId) (args : Array Value) (L : List Chunk) (post : Value → List Chunk → Prop) : Prop where
  out : ∀ w, Holds w L → Calls P f args w fun e w' => ∃ v L', e = .returned v ∧ post v L' ∧ Holds w' L'
section
variable {P : Program} {n : Nat} {Q : Exit → Act → World → Prop} {M : List (Nat × Value)} {L : List Chunk} {K : List (Nat × Value) → List Chunk → Prop}
variable {d : Nat} {ty : TypeId} {ps : String} {af : Array Edge} {g : Option (Nat × Bool)} {x y : Operand} {v : Value}
omit [W0] in
def evs (M : List (Nat × Value)) : List Operand → Option (List Value)
  | [] => some []
  | x :: r => match ev M x, evs M r with
    | some v, some vs => some (v :: vs)
    | _, _ => none
theorem St.evals {a : Act} (h : St n M a) : ∀ {xs : List Operand} {vs : List Value}, evs M xs = some vs → xs.map a.eval = vs
  | [], vs, he => by simp [evs] at he; subst he; rfl
  | x :: r, vs, he => by
    unfold evs at he
    split at he
    · rename_i v vs' h1 h2
      simp at he; subst he
      simp [h.eval h1, St.evals h h2]
    · simp at he
theorem callFunc_run {f : FuncId} (h : bodyB P f = true) (args : Array Value) (w : World) : (callFunc f args).run P w = .ok (.enter f args) w := by
  unfold bodyB at h
  cases hf : P.funcs[f]? with
  | none => simp [hf] at h
  | some fn =>
    simp [hf] at h
    have h2 : fn.body.isNone = false := by cases hb : fn.body <;> simp_all
    simp only [callFunc, Sem.run_bind, run_program, Result.andThen_ok, hf]
    rw [if_neg (by simpa using h.1), if_neg (by simp [h2])]
    rfl
theorem OW_call {f : FuncId} [hb : BD P f] {xs : List Operand} {ats : Array TypeId} {first cap : Array Value} {vs : List Value} {args : Array Value} {post : Value → List Chunk → Prop}
    (hx : ev M x = some (.func (.func f) first cap)) (hvs : evs M xs = some vs) (hargs : first ++ vs.toArray ++ cap = args) (hspec : Gv P f args L post)
    (hn : Nat.blt d n = true) (h : ∀ v L', post v L' → K ((d, v) :: M) L') : OW P n ⟨some d, .call ⟨.value x, xs.toArray, ats⟩, ty, ps, af, g⟩ K M L := ⟨fun a w next Q ha hw hk => by
  subst hargs
  have hrun : (execOp a.eval ⟨some d, .call ⟨.value x, xs.toArray, ats⟩, ty, ps, af, g⟩).run P w = .ok (.enter f (first ++ vs.toArray ++ cap)) w := by
    have hm : Array.map a.eval xs.toArray = vs.toArray := by
      rw [← ha.evals hvs]; simp
    simp only [execOp, resolve, ha.eval hx, hm, Deferred.ofValue, Sem.run_bind, Sem.run_pure, Result.andThen_ok, invoke, callFunc_run hb.out]
  unfold Oper.wp
  rw [hrun, Oper.upon_enter]
  refine (hspec.out w hw).mono fun e w' he => ?_
  obtain ⟨v, L', rfl, hp, hw'⟩ := he
  exact (hk _ _ (h v L' hp)).out _ _ (ha.put v hn) hw'⟩
theorem Gv.mono {f : FuncId} {args : Array Value} {post post' : Value → List Chunk → Prop} (h : Gv P f args L post) (hp : ∀ v L', post v L' → post' v L') : Gv P f args L post' :=
  ⟨fun w hw => (h.out w hw).mono fun _ _ he => let ⟨v, L', h1, h2, h3⟩ := he; ⟨v, L', h1, hp v L' h2, h3⟩⟩
theorem Gv.holds {f : FuncId} {args : Array Value} {post : Value → List Chunk → Prop} {L' : List Chunk} (h : Gv P f args L' post) (hl : ∀ w, Holds w L → Holds w L') : Gv P f args L post :=
  ⟨fun w hw => h.out w (hl w hw)⟩
theorem Gv.take {f : FuncId} {args : Array Value} {post : Value → List Chunk → Prop} {L' : List Chunk} {C : Chunk} (h : Gv P f args (C :: L') post) (ht : Take C L L') : Gv P f args L post :=
  h.holds fun _ hw => hw.take ht
omit [W0] in
/-- The parameters' slots. -/
def params : Nat → List Value → List (Nat × Value)
  | _, [] => []
  | i, v :: r => (i, v) :: params (i + 1) r
theorem params_get : ∀ (args : List Value) (i t : Nat) (v : Value), lk (params i args) t = some v → i ≤ t ∧ args[t - i]? = some v
  | [], i, t, v, h => by simp [params, lk] at h
  | u :: r, i, t, v, h => by
    unfold params lk at h
    cases hb : Nat.beq i t with
    | true =>
      have := Nat.eq_of_beq_eq_true hb
      subst this
      rw [hb] at h
      simp at h; subst h; simp
    | false =>
      rw [hb] at h
      obtain ⟨h1, h2⟩ := params_get r (i + 1) t v h
      refine ⟨by omega, ?_⟩
      have : t - i = (t - (i + 1)) + 1 := by omega
      rw [this]; simpa using h2
theorem Gv.of_body {f : FuncId} {fn : Func} {c : Code} {args : List Value} {post : Value → List Chunk → Prop} (hf : P.funcs[f]? = some fn) (hb : fn.body = some c) (hle : Nat.ble args.length fn.ntmps = true)
    (h : WC P fn.ntmps c (bodyPost P fn (fun e w' => ∃ v L', e = .returned v ∧ post v L' ∧ Holds w' L')) (params 0 args) L) : Gv P f args.toArray L post := ⟨fun w hw => by
  refine calls_of_wp hf hb (h.out _ w ⟨rfl, ?_, ?_⟩ hw)
  · have := Nat.le_of_ble_eq_true hle
    simp; omega
  · intro t v ht
    obtain ⟨_, h2⟩ := params_get args 0 t v ht
    have h2' : args[t]? = some v := by simpa using h2
    have hlt : t < args.length := by
      rcases Nat.lt_or_ge t args.length with h' | h'
      · exact h'
      · simp [List.getElem?_eq_none h'] at h2'
    rw [Array.getElem?_append_left (by simpa using hlt)]
    simpa using h2'⟩
omit [W0] in
/-- What the results' slots hold. -/
def resT (M : List (Nat × Value)) : List ResultVar → Option (List Value)
  | [] => some []
  | .tmp t :: r => match lk M t, resT M r with
    | some v, some vs => some (v :: vs)
    | _, _ => none
  | .cell .. :: _ => none
omit [W0] in
def tupled : List Value → Value
  | [v] => v
  | vs => .tuple vs.toArray
omit [W0] in
def resOne (tmps : Array Value) : ResultVar → Sem Value
  | .tmp t => pure (tmps.getD t undef)
  | .cell x t => do loadVar t (← asAddr (tmps.getD x undef))
theorem results_eq (fn : Func) (tmps : Array Value) : results fn tmps = (do
    let vs ← fn.results.mapM (resOne tmps)
    pure (if h : vs.size = 1 then vs[0] else .tuple vs)) := by
  unfold results
  congr 2
theorem resT_run {a : Act} {w : World} (ha : St n M a) : ∀ {rs : List ResultVar} {vs : List Value}, resT M rs = some vs →
    (rs.mapM (resOne a.tmps)).run P w = .ok vs w
  | [], vs, h => by simp [resT] at h; subst h; rfl
  | .tmp t :: r, vs, h => by
    unfold resT at h
    split at h
    · rename_i v vs' h1 h2
      simp at h; subst h
      have := resT_run (w := w) ha h2
      simp [List.mapM_cons, this, resOne, Array.getD_eq_getD_getElem?, ha.get t v h1]
    · simp at h
  | .cell _ _ :: _, vs, h => by simp [resT] at h
theorem results_run {a : Act} {w : World} {fn : Func} {rs : List ResultVar} {vs : List Value} (ha : St n M a) (hr : fn.results = rs.toArray) (h : resT M rs = some vs) :
    (results fn a.tmps).run P w = .ok (tupled vs) w := by
  rw [results_eq, hr]
  simp only [List.mapM_toArray, Sem.run_bind, Sem.run_map, resT_run ha h, Result.andThen_ok, Sem.run_pure]
  match vs with
  | [] => simp [tupled]
  | [v] => simp [tupled]
  | v :: u :: r => simp [tupled]
end
end Go.Vx
namespace Go.Vx
open Go
set_option linter.all false
variable [W0]
section
variable {P : Program} {n : Nat} {Q : Exit → Act → World → Prop} {M : List (Nat × Value)} {L : List Chunk} {K : List (Nat × Value) → List Chunk → Prop}
variable {d : Nat} {ty : TypeId} {ps : String} {af : Array Edge} {g : Option (Nat × Bool)} {x y : Operand} {v : Value}
theorem SL.parts {T e k b : Nat} (h : SL P T e k b) : P.underlying T = some (.slice e) ∧ ∃ i, P.info? e = some i ∧ i.size = k ∧ i.bytes = b ∧ 0 < k := by
  have h := h.out
  unfold slcOf at h
  split at h
  · rename_i e' hu
    split at h
    · rename_i i hi
      split at h
      · rename_i hz
        simp at h
        obtain ⟨rfl, rfl, rfl⟩ := h
        rw [Nat.blt_eq] at hz
        exact ⟨hu, i, hi, rfl, rfl, hz⟩
      · simp at h
    · simp at h
  · simp at h
theorem addr_add {b off k : Nat} : (⟨b, off, none⟩ : Addr).add k = ⟨b, off + k, none⟩ := by
  unfold Addr.add; split <;> simp_all
theorem EV_indexAddr {T e k by_ : Nat} [hs : SL P T e k by_] {b off len cap j : Nat} {kk : IntKind} {i : Int} (hx : ev M x = some (.slice (some ⟨b, off, none⟩) len cap)) (hy : ev M y = some (.int kk i))
    (hj : i = (j : Int)) (hlt : j < len) :
    EV P n ⟨some d, .indexAddr T x y, ty, ps, af, g⟩ M L d (.pointer (some ⟨b, off + j * k, none⟩)) :=
  ⟨rfl, fun a w ha _ => by
    obtain ⟨hu, i', hi, hk, _, hk0⟩ := hs.parts
    subst hj
    have h2 : (j : Int) < (len : Int) := by omega
    simp [execOp, ha.eval hx, ha.eval hy, Instr.indexAt, asIntOf, underlying, hu, sizeOf, typeInfo, hi, hk, addr_add, h2, hlt]⟩
theorem EV_indexAddr0 {T e k by_ : Nat} [hs : SL P T e k by_] {b len cap j : Nat} {kk : IntKind} {i : Int} (hx : ev M x = some (.slice (some ⟨b, 0, none⟩) len cap)) (hy : ev M y = some (.int kk i))
    (hj : i = (j : Int)) (hlt : j < len) : EV P n ⟨some d, .indexAddr T x y, ty, ps, af, g⟩ M L d (.pointer (some ⟨b, j * k, none⟩)) := by
  have := EV_indexAddr (P := P) (n := n) (L := L) (d := d) (ty := ty) (ps := ps) (af := af) (g := g) (T := T) hx hy hj hlt
  rwa [Nat.zero_add] at this
theorem EV_lenSl {T e k by_ : Nat} [hs : SL P T e k by_] {b : Option Addr} {len cap : Nat} (hx : ev M x = some (.slice b len cap))
    : EV P n ⟨some d, .call ⟨.builtin .len, #[x], #[T]⟩, ty, ps, af, g⟩ M L d (.int .i64 (len : Int)) :=
  ⟨rfl, fun a w ha _ => by
    obtain ⟨hu, _⟩ := hs.parts
    simp [execOp, resolve, invoke, builtin, ha.eval hx, Builtin.len_, underlying, hu, goInt]⟩
theorem EV_capSl {T e k by_ : Nat} [hs : SL P T e k by_] {b : Option Addr} {len cap : Nat} (hx : ev M x = some (.slice b len cap))
    : EV P n ⟨some d, .call ⟨.builtin .cap, #[x], #[T]⟩, ty, ps, af, g⟩ M L d (.int .i64 (cap : Int)) :=
  ⟨rfl, fun a w ha _ => by
    obtain ⟨hu, _⟩ := hs.parts
    simp [execOp, resolve, invoke, builtin, ha.eval hx, Builtin.cap_, underlying, hu, goInt]⟩
theorem EV_lenStr {T : Nat} [hs : ST P T] {s : ByteArray} (hx : ev M x = some (.string s))
    : EV P n ⟨some d, .call ⟨.builtin .len, #[x], #[T]⟩, ty, ps, af, g⟩ M L d (.int .i64 (s.size : Int)) :=
  ⟨rfl, fun a w ha _ => by
    simp [execOp, resolve, invoke, builtin, ha.eval hx, Builtin.len_, underlying, hs.out, goInt]⟩
theorem EV_min {t u : TypeId} {k : IntKind} {i j : Int} (hx : ev M x = some (.int k i)) (hy : ev M y = some (.int k j))
    : EV P n ⟨some d, .call ⟨.builtin .min, #[x, y], #[t, u]⟩, ty, ps, af, g⟩ M L d (.int k (min i j)) :=
  ⟨rfl, fun a w ha _ => by
    have e : (if j < i then j else i) = min i j := by rw [Int.min_def]; split <;> split <;> omega
    simp [execOp, resolve, invoke, builtin, ha.eval hx, ha.eval hy, Builtin.min_, Builtin.min2, e]⟩
theorem EV_max {t u : TypeId} {k : IntKind} {i j : Int} (hx : ev M x = some (.int k i)) (hy : ev M y = some (.int k j))
    : EV P n ⟨some d, .call ⟨.builtin .max, #[x, y], #[t, u]⟩, ty, ps, af, g⟩ M L d (.int k (max i j)) :=
  ⟨rfl, fun a w ha _ => by
    have e : (if i < j then j else i) = max i j := by rw [Int.max_def]; split <;> split <;> omega
    simp [execOp, resolve, invoke, builtin, ha.eval hx, ha.eval hy, Builtin.max_, Builtin.max2, e]⟩
omit [W0] in
/-- A bound of a slice expression. -/
def bnd (M : List (Nat × Value)) : Option Operand → Nat → Option Int
  | none, dflt => some dflt
  | some x, _ => match ev M x with | some (.int _ i) => some i | _ => none
theorem sliceBounds_run {isS : Bool} {len cap : Nat} {lo hi : Option Operand} {l h : Nat} {a : Act} (ha : St n M a) (hl : bnd M lo 0 = some (l : Int)) (hh : bnd M hi len = some (h : Int)) (h1 : l ≤ h) (h2 : h ≤ cap) (w : World) :
    (Instr.sliceBounds isS len cap (lo.map a.eval) (hi.map a.eval) none).run P w = .ok (l, h, cap) w := by
  have hlow : ∀ (x : Operand) (z : Int), bnd M (some x) 0 = some z → ∃ q, a.eval x = .int q z := by
    intro x z hz
    simp only [bnd] at hz
    split at hz
    · rename_i kk i he; simp at hz; subst hz; exact ⟨kk, ha.eval he⟩
    · simp at hz
  cases lo with
  | none =>
    have : l = 0 := by simp [bnd] at hl; omega
    subst this
    cases hi with
    | none =>
      have : len = h := by simp [bnd] at hh; omega
      subst this
      simp [Instr.sliceBounds]
    | some y =>
      obtain ⟨k2, e2⟩ := hlow y _ hh
      simp [Instr.sliceBounds, Instr.sliceBound, e2, asIntOf, h1, h2]
  | some x =>
    obtain ⟨k1, e1⟩ := hlow x _ hl
    cases hi with
    | none =>
      have : len = h := by simp [bnd] at hh; omega
      subst this
      simp [Instr.sliceBounds, Instr.sliceBound, e1, asIntOf, h1, h2]
    | some y =>
      obtain ⟨k2, e2⟩ := hlow y _ hh
      simp [Instr.sliceBounds, Instr.sliceBound, e1, e2, asIntOf, h1, h2]
theorem EV_sliceSl {T e k by_ : Nat} [hs : SL P T e k by_] {b off len cap : Nat} {lo hi : Option Operand} {l h : Nat} (hx : ev M x = some (.slice (some ⟨b, off, none⟩) len cap)) (hl : bnd M lo 0 = some (l : Int)) (hh : bnd M hi len = some (h : Int))
    (h1 : l ≤ h) (h2 : h ≤ cap) : EV P n ⟨some d, .slice T x lo hi none, ty, ps, af, g⟩ M L d (.slice (some ⟨b, if cap = l then off else off + l * k, none⟩) (h - l) (cap - l)) :=
  ⟨rfl, fun a w ha _ => by
    obtain ⟨hu, i', hi', hk', _, hk0⟩ := hs.parts
    simp [execOp, ha.eval hx, Instr.sliceAt, Instr.slice, underlying, hu, sliceBounds_run ha hl hh h1 h2, sizeOf, typeInfo, hi', hk', addr_add]
    split <;> simp_all⟩
theorem EV_sliceTo {T e k by_ : Nat} [hs : SL P T e k by_] {b off len cap : Nat} {lo hi : Option Operand} {h : Nat} (hx : ev M x = some (.slice (some ⟨b, off, none⟩) len cap)) (hl : bnd M lo 0 = some ((0 : Nat) : Int)) (hh : bnd M hi len = some (h : Int))
    (h2 : h ≤ cap) : EV P n ⟨some d, .slice T x lo hi none, ty, ps, af, g⟩ M L d (.slice (some ⟨b, off, none⟩) h cap) := by
  have := EV_sliceSl (P := P) (n := n) (L := L) (d := d) (ty := ty) (ps := ps) (af := af) (g := g) (T := T) hx hl hh (Nat.zero_le _) h2
  have e : (if cap = 0 then off else off + 0 * k) = off := by split <;> simp
  rw [e] at this
  simpa using this
omit [W0] in
/-- Some cells of a list, in a row. -/
def cut (l : List Value) (off k : Nat) : List Value := (l.drop off).take k
omit [W0] in
def patch (l : List Value) (off : Nat) (vs : List Value) : List Value := l.take off ++ vs ++ l.drop (off + vs.length)
theorem cut_get {l : List Value} {off k j : Nat} (h : j < k) : (cut l off k)[j]? = l[off + j]? := by
  simp [cut, List.getElem?_take, h]
omit [W0] in
/-- What stands at an address, in a row. -/
def RdAt (L : List Chunk) (a : Addr) (vs : List Value) : Prop :=
  vs = [] ∨ ∃ b off c T fr, a = ⟨b, off, none⟩ ∧ Fnd L b (.cells c T fr) ∧ ∀ j u, vs[j]? = some u → c[off + j]? = some u
theorem RdAt.cells {a : Addr} {vs : List Value} (h : RdAt L a vs) {w : World} (hw : Holds w L) : ∀ j u, vs[j]? = some u → w.cell? (a.add j) = some u := by
  intro j u hj
  rcases h with rfl | ⟨b, off, c, T, fr, rfl, hf, hc⟩
  · simp at hj
  · rw [addr_add, cell_of (hf.get hw)]; exact hc j u hj
theorem RdAt.cl {b off : Nat} {l : List Value} {T : TypeId} {k : Nat} (hf : Fnd L b (Vx.cl l T)) : RdAt L ⟨b, off, none⟩ (cut l off k) := by
  refine .inr ⟨b, off, l.toArray, T, (0, 0), rfl, hf, fun j u hj => ?_⟩
  have hlt : j < k := by
    rcases Nat.lt_or_ge j k with h' | h'
    · exact h'
    · rw [List.getElem?_eq_none (by simp [cut]; omega)] at hj; simp at hj
  rw [cut_get hlt] at hj
  simpa using hj
theorem RdAt.cl' {b off : Nat} {l vs : List Value} {T : TypeId} (hf : Fnd L b (Vx.cl l T)) (hv : cut l off vs.length = vs) : RdAt L ⟨b, off, none⟩ vs := by
  have := RdAt.cl (off := off) (k := vs.length) hf
  rwa [hv] at this
theorem EV_loadAgg {t k : Nat} [hag : AG P t k] {a : Addr} {vs : List Value} (hx : ev M x = some (.pointer (some a))) (hr : RdAt L a vs) (hl : vs.length = k)
    : EV P n ⟨some d, .load t x, ty, ps, af, g⟩ M L d (.agg vs.toArray) :=
  ⟨rfl, fun a' w ha hw => by
    have hrun := run_loadCells_list (P := P) w a vs (hr.cells hw)
    rw [hl] at hrun
    simp [execOp, ha.eval hx, Instr.loadAt, Instr.sureAddr, loadVar, isAgg_true hag.out.1, sizeOf_run hag.out.2, hrun]⟩
theorem Holds.row {w : World} {L' : List Chunk} {b : Nat} {l l' : List Value} {T : TypeId} (hw : Holds w L) (hu : Upd L b (cl l T) (cl l' T) L') : Holds (w.setRow b l'.toArray) L' := by
  refine hw.upd hu ?_ (fun c hc => setRow_other w b c _ hc) rfl rfl
  exact setRow_heap w b l.toArray _ T (0, 0) (hu.fnd.get hw)
omit [W0] in
def ones (vs : List Value) : Bool := vs.all Value.oneCell'
theorem ones_mem {vs : List Value} (h : ones vs = true) : ∀ v ∈ vs, v.oneCell' = true := by simpa [ones] using h
theorem storeCells_run {w : World} {L' : List Chunk} {b off : Nat} {l vs : List Value} {T : TypeId} (hw : Holds w L) (hu : Upd L b (cl l T) (cl (patch l off vs) T) L') (hfit : off + vs.length ≤ l.length) (h1 : ones vs = true) :
    (storeCells ⟨b, off, none⟩ vs).run P w = .ok () (w.setRow b (patch l off vs).toArray) := by
  have := run_storeCells_at P b off T vs 0 l.toArray w (hu.fnd.get hw) (by simpa using hfit) (ones_mem h1)
  simpa [patch] using this
theorem OW_storeAgg {t k : Nat} [hag : AG P t k] {b off : Nat} {l vs : List Value} {T : TypeId} {L' : List Chunk} (hx : ev M x = some (.pointer (some ⟨b, off, none⟩))) (hy : ev M y = some (.agg vs.toArray)) (hl : vs.length = k)
    (h1 : ones vs = true) (hu : Upd L b (cl l T) (cl (patch l off vs) T) L') (hfit : off + vs.length ≤ l.length) (h : K M L') :
    OW P n ⟨none, .store t x y, ty, ps, af, g⟩ K M L := ⟨fun a w next Q ha hw hk => by
  have hrun : (execOp a.eval ⟨none, .store t x y, ty, ps, af, g⟩).run P w = .ok .skip (w.setRow b (patch l off vs).toArray) := by
    have := storeCells_run (P := P) hw hu hfit h1
    simp [execOp, ha.eval hx, ha.eval hy, Instr.storeAt, Instr.sureAddr, storeVar, sizeOf_run hag.out.2, Value.cells, hl, this]
  unfold Oper.wp
  rw [hrun, Oper.upon_skip]
  exact (hk _ _ h).out _ _ ha (hw.row hu)⟩
theorem OW_newval {o : Oper} {ob : Obj} {f : Nat → Value} (hd : o.dst = some d) (hn : Nat.blt d n = true)
    (hr : ∀ a w, St n M a → Holds w L → (execOp a.eval o).run P w = .ok (.value (f w.heap.size)) (w.alloc ob)) (h : ∀ b, K ((d, f b) :: M) ([(b, ob)] :: L)) : OW P n o K M L := ⟨fun a w next Q ha hw hk => by
  unfold Oper.wp
  rw [hr a w ha hw, Oper.upon_value, hd]
  exact (hk _ _ (h w.heap.size)).out _ _ (ha.put _ hn) (hw.alloc ob)⟩
theorem zero_run {t : TypeId} {z : Value} (h : (P.info? t).map (·.zero) = some (some z)) (w : World) : (zeroValue t).run P w = .ok z w := by
  cases hi : P.info? t with
  | none => simp [hi] at h
  | some i => simp [hi] at h; simp [zeroValue, typeInfo, hi, h]
theorem OW_alloc {t : Nat} {z : Value} [hz : ZV P t z] (hn : Nat.blt d n = true) (h : ∀ b, K ((d, .pointer (some ⟨b, 0, none⟩)) :: M) ([(b, cl z.cells.toList t)] :: L)) :
    OW P n ⟨some d, .alloc t, ty, ps, af, g⟩ K M L :=
  OW_newval (f := fun b => .pointer (some ⟨b, 0, none⟩)) rfl hn (fun a w ha hw => by
    simp [execOp, Instr.alloc, zero_run hz.out, newVar, newRow, cl]) h
theorem OW_box {t : Nat} (hx : ev M x = some v) (hn : Nat.blt d n = true) (h : ∀ b, K ((d, .pointer (some ⟨b, 0, none⟩)) :: M) ([(b, cl v.cells.toList t)] :: L)) :
    OW P n ⟨some d, .box t x, ty, ps, af, g⟩ K M L :=
  OW_newval (f := fun b => .pointer (some ⟨b, 0, none⟩)) rfl hn (fun a w ha hw => by
    simp [execOp, Instr.box, ha.eval hx, newVar, newRow, cl]) h
theorem EV_makeInterface {t : Nat} [hi : NI P t] (hx : ev M x = some v) :
    EV P n ⟨some d, .makeInterface t x, ty, ps, af, g⟩ M L d (.iface t v) :=
  ⟨rfl, fun a w ha _ => by
    have h2 := hi.out
    unfold notIface at h2
    cases hu : P.underlying t with
    | none => simp [hu] at h2
    | some D => cases D <;> simp [hu] at h2 <;> simp [execOp, Instr.makeInterface, ha.eval hx, underlying, hu]⟩
theorem EV_makeFunc {f : Fn} {xs ys : List Operand} {vs us : List Value} (hx : evs M xs = some vs) (hy : evs M ys = some us) :
    EV P n ⟨some d, .makeFunc f xs.toArray ys.toArray, ty, ps, af, g⟩ M L d (.func f vs.toArray us.toArray) :=
  ⟨rfl, fun a w ha _ => by
    have e1 : Array.map a.eval xs.toArray = vs.toArray := by rw [← ha.evals hx]; simp
    have e2 : Array.map a.eval ys.toArray = us.toArray := by rw [← ha.evals hy]; simp
    simp only [execOp, Instr.makeFunc, e1, e2, Sem.run_bind, Sem.run_pure, Result.andThen_ok]⟩
theorem EV_assertYes {t u : Nat} [hi : NI P u] (hx : ev M x = some (.iface u v)) :
    EV P n ⟨some d, .typeAssert x t u true, ty, ps, af, g⟩ M L d (.tuple #[v, .bool true]) :=
  ⟨rfl, fun a w ha _ => by
    have h2 := hi.out
    unfold notIface at h2
    cases hu : P.underlying u with
    | none => simp [hu] at h2
    | some D => cases D <;> simp [hu] at h2 <;> simp [execOp, Instr.typeAssert, ha.eval hx, underlying, hu]⟩
theorem EV_assertNo {t u r : Nat} {z : Value} [hi : NI P u] [hz : ZV P u z] (hx : ev M x = some (.iface r v)) (hne : Nat.beq r u = false) :
    EV P n ⟨some d, .typeAssert x t u true, ty, ps, af, g⟩ M L d (.tuple #[z, .bool false]) :=
  ⟨rfl, fun a w ha _ => by
    have hne' : ¬ r = u := by intro e; subst e; simp at hne
    have h2 := hi.out
    unfold notIface at h2
    cases hu : P.underlying u with
    | none => simp [hu] at h2
    | some D => cases D <;> simp [hu] at h2 <;> simp [execOp, Instr.typeAssert, ha.eval hx, underlying, hu, hne', zero_run hz.out]⟩
theorem toList_inj {s r : ByteArray} : s.toList = r.toList ↔ s = r := by
  rw [ByteArray.toList_eq, ByteArray.toList_eq]
  constructor
  · intro h
    cases s; cases r
    simp only [ByteArray.mk.injEq]
    exact Array.ext' h
  · intro h; rw [h]
theorem EV_strEq {t u : TypeId} {s r : ByteArray} (hx : ev M x = some (.string s)) (hy : ev M y = some (.string r)) :
    EV P n ⟨some d, .binOp .eql t x y u, ty, ps, af, g⟩ M L d (.bool (decide (s = r))) :=
  ⟨rfl, fun a w ha _ => by
    have e : (s.toList == r.toList) = decide (s = r) := by rw [Bool.eq_iff_iff]; simp [toList_inj]
    simp [execOp, ha.eval hx, ha.eval hy, eqGuard, binOp, Op.stringOp, e]⟩
theorem EV_strNe {t u : TypeId} {s r : ByteArray} (hx : ev M x = some (.string s)) (hy : ev M y = some (.string r)) :
    EV P n ⟨some d, .binOp .neq t x y u, ty, ps, af, g⟩ M L d (.bool (!decide (s = r))) :=
  ⟨rfl, fun a w ha _ => by
    have e : (s.toList == r.toList) = decide (s = r) := by rw [Bool.eq_iff_iff]; simp [toList_inj]
    simp [execOp, ha.eval hx, ha.eval hy, eqGuard, binOp, Op.stringOp, e]⟩
theorem EV_strLt {t u : TypeId} {s r : ByteArray} (hx : ev M x = some (.string s)) (hy : ev M y = some (.string r)) :
    EV P n ⟨some d, .binOp .lss t x y u, ty, ps, af, g⟩ M L d (.bool (Op.bytesLess s.toList r.toList)) :=
  ⟨rfl, fun a w ha _ => by simp [execOp, ha.eval hx, ha.eval hy, eqGuard, binOp, Op.stringOp]⟩
theorem EV_convII {s t : Nat} {k k' : IntKind} [h1 : IK P s k] [h2 : IK P t k'] {i r : Int} (hx : ev M x = some (.int k i)) (hr : k'.wrap i = r) :
    EV P n ⟨some d, .convert s t x, ty, ps, af, g⟩ M L d (.int k' r) :=
  ⟨rfl, fun a w ha _ => by
    simp [execOp, ha.eval hx, convert, underlying, h1.out, h2.out, Conv.intToInt, hr]⟩
theorem EV_shr {t u : TypeId} {k k' : IntKind} {i j r : Int} (hx : ev M x = some (.int k i)) (hy : ev M y = some (.int k' j)) (hj : 0 ≤ j) (hr : i.fdiv (2 ^ (min j.toNat k.bits)) = r)
    : EV P n ⟨some d, .binOp .shr t x y u, ty, ps, af, g⟩ M L d (.int k r) :=
  ⟨rfl, fun a w ha _ => by
    have : ¬ j < 0 := by omega
    simp [execOp, ha.eval hx, ha.eval hy, eqGuard, binOp, Op.shift, this, hr]⟩
omit [W0] in
/-- A slice of the call's own (or nil), what its first n elements hold, and its chunk. -/
def Ow (e k : Nat) (v : Value) (m : Nat) (xs : List Value) (C : Chunk) : Prop :=
  (v = .slice none 0 0 ∧ m = 0 ∧ xs = [] ∧ C = []) ∨
  ∃ b cap rest, v = .slice (some ⟨b, 0, none⟩) m cap ∧ C = [(b, cl (xs ++ rest) e)] ∧ xs.length = m * k ∧ rest.length = (cap - m) * k ∧ m ≤ cap ∧ cap ≤ maxLen
omit [W0] in
/-- A slice that can be read: what its elements hold. -/
def Sl (L : List Chunk) (k : Nat) (v : Value) (m : Nat) (xs : List Value) : Prop :=
  (∃ c, v = .slice none 0 c ∧ m = 0 ∧ xs = []) ∨ ∃ a cap, v = .slice (some a) m cap ∧ RdAt L a xs ∧ xs.length = m * k
omit [W0] in
/-- A chunk stands between two parts. -/
inductive Zip (C : Chunk) : List Chunk → List Chunk → List Chunk → Prop
  | here (B) : Zip C (C :: B) [] B
  | there (D) {L A B} : Zip C L A B → Zip C (D :: L) (D :: A) B
theorem Zip.eq {C : Chunk} {L A B : List Chunk} (h : Zip C L A B) : L = A ++ C :: B := by
  induction h with
  | here B => rfl
  | there D _ ih => simp [ih]
theorem Upd.front {L0 : List Chunk} {b : Nat} {o o' : Obj} : Upd ([(b, o)] :: L0) b o o' ([(b, o')] :: L0) := .here
theorem run_append_own' {t e k by_ : Nat} {z : Value} (hs : SL P t e k by_) (hz : ZV P e z) (hzk : z.cells.size = k) {v r : Value} {m c : Nat} {xs ys : List Value} {C : Chunk} (hown : Ow e k v m xs C) {L0 : List Chunk}
    (hsl : Sl (C :: L0) k r c ys) (h1 : ones ys = true) (hb : (m + c) * by_ ≤ 140737488355328) (h63 : m + c ≤ maxLen) {w : World} (hw : Holds w (C :: L0)) :
    ∃ v' C' w', (Builtin.append_ #[t, t] ty #[v, r]).run P w = .ok v' w' ∧ Ow e k v' (m + c) (xs ++ ys) C' ∧ Holds w' (C' :: L0) ∧ (v = .slice none 0 0 → c = 0 → v' = .slice none 0 0) ∧ (v' = .slice none 0 0 → v = .slice none 0 0) := by
  obtain ⟨ht, i, hi, hik, hib, hk⟩ := hs.parts
  have hzz : i.zero = some z := by have := hz.out; rw [hi] at this; simpa using this
  subst hik hib
  have hsmall : m + c ≤ 9223372036854775807 := by simpa [maxLen] using h63
  rcases hown with ⟨rfl, rfl, rfl, rfl⟩ | ⟨b, cap, rest, rfl, rfl, hxl, hrl, hmc, hcm⟩
  · rcases hsl with ⟨c', rfl, rfl, rfl⟩ | ⟨a, c', rfl, hrd, hyl⟩
    · refine ⟨.slice none 0 0, [], w, ?_, .inl ⟨rfl, rfl, rfl, rfl⟩, hw, by simp, by simp⟩
      simp [Builtin.append_, run_underlying ht, sizeOf, typeInfo, hi, Builtin.lenOf, Builtin.firstCells, loadCells, loadCellsFrom]
    · by_cases hc : c = 0
      · subst hc
        have hn : ys = [] := List.eq_nil_of_length_eq_zero (by simpa using hyl)
        subst hn
        refine ⟨.slice none 0 0, [], w, ?_, .inl ⟨rfl, rfl, rfl, rfl⟩, hw, by simp, by simp⟩
        simp [Builtin.append_, run_underlying ht, sizeOf, typeInfo, hi, Builtin.lenOf, Builtin.firstCells, loadCells, loadCellsFrom]
      · have hr := run_append_nil (P := P) w t ty e i z ht hi hzz a c c' ys hyl (hrd.cells hw) (by omega) (by omega) (by have h2 := hb; simp only [Nat.zero_add] at h2; omega)
        refine ⟨_, [(w.heap.size, cl (ys ++ (Builtin.zeroCells z.cells (grownCap w c 0 e - c)).toList) e)], _, hr, .inr ⟨w.heap.size, grownCap w c 0 e, (Builtin.zeroCells z.cells (grownCap w c 0 e - c)).toList, by simp, by simp, by simpa using hyl, ?_, by simpa using grownCap_ge w c 0 e, grownCap_le_maxLen w c 0 e (by omega)⟩, ?_, by simp [hc], by simp⟩
        · simp [size_zeroCells, hzk]
        · have h0 := (hw.drop.same (w' := w.drew) rfl rfl rfl).alloc (.cells (ys.toArray ++ Builtin.zeroCells z.cells (grownCap w c 0 e - c)) e)
          have e1 : (cl (ys ++ (Builtin.zeroCells z.cells (grownCap w c 0 e - c)).toList) e) = .cells (ys.toArray ++ Builtin.zeroCells z.cells (grownCap w c 0 e - c)) e (0, 0) := by
            unfold cl; congr 1; apply Array.ext'; simp
          rw [e1]; exact h0
  · rcases hsl with ⟨c', rfl, rfl, rfl⟩ | ⟨a, c', rfl, hrd, hyl⟩
    · refine ⟨.slice (some ⟨b, 0, none⟩) m cap, _, w, ?_, .inr ⟨b, cap, rest, by simp, rfl, by simpa using hxl, by simpa using hrl, by simpa using hmc, hcm⟩, by simpa using hw, by simp, by simp⟩
      have hmc' : m + 0 ≤ cap := by omega
      simp [Builtin.append_, run_underlying ht, sizeOf, typeInfo, hi, Builtin.lenOf, Builtin.firstCells, hmc, storeCells]
    · by_cases hroom : m + c ≤ cap
      · have hfnd : w.heap[b]? = some (.cells (xs ++ rest).toArray e (0, 0)) := (Fnd.here : Fnd ([(b, cl (xs ++ rest) e)] :: L0) b _).get hw
        have hlen : m * i.size + ys.length ≤ (xs ++ rest).toArray.size := by
          simp only [List.size_toArray, List.length_append, hxl, hrl, hyl, ← Nat.add_mul]
          exact Nat.mul_le_mul_right _ (by omega)
        have hr := run_append_room (P := P) w t ty e i ht hi b m cap _ hfnd a c c' ys hyl (hrd.cells hw) (ones_mem h1) hroom hlen
        have hx1 : ((xs ++ rest).toArray.toList.take (m * i.size) ++ ys ++ (xs ++ rest).toArray.toList.drop (m * i.size + ys.length)) = (xs ++ ys) ++ rest.drop ys.length := by
          simp only [List.toList_toArray]
          rw [← hxl, List.take_left]
          congr 1
          rw [List.drop_append]
          simp
        refine ⟨_, [(b, cl ((xs ++ ys) ++ rest.drop ys.length) e)], _, hr, .inr ⟨b, cap, rest.drop ys.length, rfl, rfl, ?_, ?_, hroom, hcm⟩, ?_, by simp, by simp⟩
        · rw [List.length_append, hxl, hyl, Nat.add_mul]
        · rw [List.length_drop, hrl, hyl, ← Nat.sub_mul]; congr 1; omega
        · rw [hx1]
          exact hw.row .here
      · have hrd0 : RdAt ([(b, cl (xs ++ rest) e)] :: L0) ⟨b, 0, none⟩ xs := RdAt.cl' .here (by simp [cut])
        have hr := run_append_grow (P := P) w t ty e i z ht hi hzz ⟨b, 0, none⟩ m cap xs hxl (hrd0.cells hw) a c c' ys hyl (hrd.cells hw) (by omega) (by omega) (growslice_fits (by omega) hb)
        refine ⟨_, [(w.heap.size, cl ((xs ++ ys) ++ (Builtin.zeroCells z.cells (grownCap w (m + c) cap e - (m + c))).toList) e)], _, hr, .inr ⟨w.heap.size, _, _, rfl, rfl, ?_, ?_, grownCap_ge w (m + c) cap e, grownCap_le_maxLen w (m + c) cap e h63⟩, ?_, by simp, by simp⟩
        · rw [List.length_append, hxl, hyl, Nat.add_mul]
        · simp [size_zeroCells, hzk]
        · have h0 := (hw.drop.same (w' := w.drew) rfl rfl rfl).alloc (.cells (xs.toArray ++ ys.toArray ++ Builtin.zeroCells z.cells (grownCap w (m + c) cap e - (m + c))) e)
          have e1 : (cl ((xs ++ ys) ++ (Builtin.zeroCells z.cells (grownCap w (m + c) cap e - (m + c))).toList) e) = .cells (xs.toArray ++ ys.toArray ++ Builtin.zeroCells z.cells (grownCap w (m + c) cap e - (m + c))) e (0, 0) := by
            unfold cl; congr 1; apply Array.ext'; simp
          rw [e1]; exact h0
theorem Fnd.perm {L L' : List Chunk} {b : Nat} {o : Obj} (h : Fnd L b o) (hp : L.Perm L') : Fnd L' b o := hp.flatten.mem_iff.1 h
theorem RdAt.perm {L L' : List Chunk} {a : Addr} {vs : List Value} (h : RdAt L a vs) (hp : L.Perm L') : RdAt L' a vs := by
  rcases h with h | ⟨b, off, c, T, fr, h1, h2, h3⟩
  · exact .inl h
  · exact .inr ⟨b, off, c, T, fr, h1, h2.perm hp, h3⟩
theorem Sl.perm {L L' : List Chunk} {k m : Nat} {v : Value} {xs : List Value} (h : Sl L k v m xs) (hp : L.Perm L') : Sl L' k v m xs := by
  rcases h with h | ⟨a, cap, h1, h2, h3⟩
  · exact .inl h
  · exact .inr ⟨a, cap, h1, h2.perm hp, h3⟩
theorem OW_append {t e k by_ : Nat} [hs : SL P t e k by_] {z : Value} [hz : ZV P e z] {v r : Value} {m c : Nat} {xs ys : List Value} {C : Chunk} {A B : List Chunk} (hx : ev M x = some v) (hy : ev M y = some r) (hown : Ow e k v m xs C)
    (hsl : Sl L k r c ys) (hzip : Zip C L A B) (hzk : z.cells.size = k) (h1 : ones ys = true) (hb : (m + c) * by_ ≤ 140737488355328) (h63 : m + c ≤ maxLen)
    (hn : Nat.blt d n = true) (h : ∀ v' C', Ow e k v' (m + c) (xs ++ ys) C' → (v = .slice none 0 0 → c = 0 → v' = .slice none 0 0) → (v' = .slice none 0 0 → v = .slice none 0 0) → K ((d, v') :: M) (A ++ C' :: B)) :
    OW P n ⟨some d, .call ⟨.builtin .append, #[x, y], #[t, t]⟩, ty, ps, af, g⟩ K M L := ⟨fun a w next Q ha hw hk => by
  have hL := hzip.eq
  subst hL
  obtain ⟨v', C', w', hr, ho, hw', hn1, hn2⟩ := run_append_own' (P := P) (ty := ty) hs hz hzk hown (hsl.perm List.perm_middle) h1 hb h63 (hw.perm List.perm_middle)
  unfold Oper.wp
  have hrun : (execOp a.eval ⟨some d, .call ⟨.builtin .append, #[x, y], #[t, t]⟩, ty, ps, af, g⟩).run P w = .ok (.value v') w' := by
    simp only [execOp, resolve, invoke, builtin, Sem.run_bind, Sem.run_pure, Result.andThen_ok, List.map_toArray, List.map_cons, List.map_nil, ha.eval hx, ha.eval hy, hr]
  rw [hrun, Oper.upon_value]
  exact (hk _ _ (h v' C' ho hn1 hn2)).out _ _ (ha.put v' hn) (hw'.perm List.perm_middle.symm)⟩
theorem WC_loop {X : Type} {c : Code} (MI : X → List (Nat × Value)) (LI : X → List Chunk) (J : X → Prop) (μ : X → Nat) (x0 : X) (hJ : J x0) (hM : Sub (MI x0) M) (hL : ∀ w, Holds w L → Holds w (LI x0))
    (hround : ∀ x, J x → WC P n c (Exit.then (fun a' w' => ∃ x', μ x' < μ x ∧ J x' ∧ St n (MI x') a' ∧ Holds w' (LI x')) Q) (MI x) (LI x)) : WC P n (.loop c) Q M L := ⟨fun a w ha hw => by
  intro b k cs
  have key : ∀ m x, μ x = m → J x → ∀ a w, St n (MI x) a → Holds w (LI x) →
      ∃ e a' w', Q e a' w' ∧ Arrives P (lone (b.at a (.code c :: .inLoop c :: k)) cs w) b k cs e a' w' := by
    intro m
    induction m using Nat.strongRecOn with
    | _ m ih =>
      intro x hm hx a w ha hw
      obtain ⟨e, a₁, w₁, hq, harr⟩ := (hround x hx).out a w ha hw b (.inLoop c :: k) cs
      subst hm
      cases e with
      | normal =>
        obtain ⟨x', hlt, hJ', ha', hw'⟩ := hq
        obtain ⟨e₂, a₂, w₂, hq₂, harr₂⟩ := ih (μ x') hlt x' rfl hJ' a₁ w₁ ha' hw'
        exact ⟨e₂, a₂, w₂, hq₂, .of_steps (Steps.trans harr (.one step_inLoop)) harr₂⟩
      | exit id => exact ⟨_, a₁, w₁, hq, .pass (x := .inLoop c) rfl (fun _ _ => .inl (by simp)) harr⟩
      | goto l => exact ⟨_, a₁, w₁, hq, .pass (x := .inLoop c) rfl (fun _ _ => .inl (by simp)) harr⟩
      | ret => exact ⟨_, a₁, w₁, hq, .pass (x := .inLoop c) rfl (fun _ _ => .inl (by simp)) harr⟩
      | panic ch => exact ⟨_, a₁, w₁, hq, .pass (x := .inLoop c) rfl (fun _ _ => .inl (by simp)) harr⟩
      | outgrown => exact ⟨_, a₁, w₁, hq, .pass (x := .inLoop c) rfl (fun _ _ => .inl (by simp)) harr⟩
  obtain ⟨e, a', w', hq, harr⟩ := key _ x0 rfl hJ a w (ha.sub hM) (hL w hw)
  exact ⟨e, a', w', hq, .of_steps (.one step_loop) harr⟩⟩
theorem WQ_round {X : Type} {MI : X → List (Nat × Value)} {LI : X → List Chunk} {J : X → Prop} {μ : X → Nat} {x : X} (x' : X) (hlt : μ x' < μ x) (hJ : J x') (hM : Sub (MI x') M) (hL : ∀ w, Holds w L → Holds w (LI x')) :
    WQ n (fun a' w' => ∃ x', μ x' < μ x ∧ J x' ∧ St n (MI x') a' ∧ Holds w' (LI x')) M L := ⟨fun _ w ha hw => ⟨x', hlt, hJ, ha.sub hM, hL w hw⟩⟩
end
end Go.Vx
namespace Go.Vx
open Go
set_option linter.all false
variable [W0]
section
variable {P : Program} {ops : Array Oper} {Q : Exit → Act → World → Prop} {md : Region.Mode} {S : World → Prop} {T : List Nat}
omit [W0] in
/-- Whatever order is picked from here on, and S holds behind every operation that is not on the list T. -/
def wpAnyT (P : Program) (md : Region.Mode) (ops : Array Oper) (Q : Exit → Act → World → Prop) (S : World → Prop) (T : List Nat) : Nat → Array Bool → Act → World → Prop
  | 0, listed, a, w => Region.ready md ops listed = [] ∧ Q .normal a w
  | fuel + 1, listed, a, w =>
    (Region.ready md ops listed = [] → Q .normal a w) ∧
    ∀ i ∈ Region.ready md ops listed, wpOp P ops Q i (fun a' w' => (i ∉ T → S w') ∧ wpAnyT P md ops Q S T fuel (listed.setIfInBounds i true) a' w') a w
theorem wpAny_of_T : ∀ (fuel : Nat) (listed : Array Bool) (a : Act) (w : World), wpAnyT P md ops Q S T fuel listed a w → wpAny P md ops Q fuel listed a w
  | 0, _, _, _, h => h
  | fuel + 1, _, _, _, h => ⟨h.1, fun i hi => wpOp_mono (fun a' w' h' => wpAny_of_T fuel _ a' w' h'.2) (h.2 i hi)⟩
omit [W0] in
/-- i waits for nothing that j does not wait for: i must have come up before j may. -/
def ancB (md : Region.Mode) (ops : Array Oper) (i : Nat) : Nat → Nat → Bool
  | 0, _ => false
  | f + 1, j => match ops[j]? with
    | some o => (o.after.any fun e => Region.binds md e && e.on == i) || o.after.any fun e => Region.binds md e && ancB md ops i f e.on
    | none => false
omit [W0] in
/-- What has come up waited for what has come up. -/
def DC (md : Region.Mode) (ops : Array Oper) (listed : Array Bool) : Prop :=
  ∀ k o, ops[k]? = some o → listed.getD k false = true → ∀ e ∈ o.after, Region.binds md e = true → listed.getD e.on false = true
omit [W0] in
def dcB (md : Region.Mode) (ops : Array Oper) (listed : Array Bool) : Bool :=
  (List.range ops.size).all fun k => !listed.getD k false || match ops[k]? with
    | some o => o.after.all fun e => !Region.binds md e || listed.getD e.on false
    | none => true
theorem DC.of {listed : Array Bool} (h : dcB md ops listed = true) : DC md ops listed := by
  intro k o hk hl e he hb
  simp only [dcB, List.all_eq_true, List.mem_range] at h
  have h1 := h k (Array.getElem?_eq_some_iff.1 hk).1
  rw [hl, hk] at h1
  simp only [Bool.not_true, Bool.false_or] at h1
  have h2 := Array.all_eq_true_iff_forall_mem.1 h1 e he
  simpa [hb] using h2
theorem ancB_spec {i : Nat} {listed : Array Bool} (hd : DC md ops listed) : ∀ (f j : Nat) (o : Oper), ancB md ops i f j = true → ops[j]? = some o →
    (∀ e ∈ o.after, Region.binds md e = true → listed.getD e.on false = true) → listed.getD i false = true := by
  intro f
  induction f with
  | zero => intro j o h; simp [ancB] at h
  | succ f ih =>
    intro j o h hj hall
    simp only [ancB, hj, Bool.or_eq_true] at h
    rcases h with h | h
    · rw [← Array.any_toList, List.any_eq_true] at h
      obtain ⟨e, he, hh⟩ := h
      rw [Array.mem_toList_iff] at he
      simp only [Bool.and_eq_true, beq_iff_eq] at hh
      rw [← hh.2]
      exact hall e he hh.1
    · rw [← Array.any_toList, List.any_eq_true] at h
      obtain ⟨e, he, hh⟩ := h
      rw [Array.mem_toList_iff] at he
      simp only [Bool.and_eq_true] at hh
      obtain ⟨hb, h2⟩ := hh
      have hl := hall e he hb
      cases hk : ops[e.on]? with
      | none => cases f <;> simp [ancB, hk] at h2
      | some o' => exact ih e.on o' h2 hk (hd e.on o' hk hl)
theorem DC.set {listed : Array Bool} {j : Nat} (hd : DC md ops listed) (hj : j ∈ Region.ready md ops listed) : DC md ops (listed.setIfInBounds j true) := by
  intro k o hk hl e he hb
  obtain ⟨_, oj, hoj, hall⟩ := mem_ready.1 hj
  by_cases hjk : j = k
  · subst hjk
    rw [hoj] at hk
    cases hk
    exact getD_set_true (hall e he hb)
  · rw [getD_set_ne false hjk] at hl
    exact getD_set_true (hd k o hk hl e he hb)
theorem listed_both {i : Nat} {listed : Array Bool} (h0 : listed.getD i true = false) (h1 : listed.getD i false = true) : False := by
  rcases Nat.lt_or_ge i listed.size with h' | h'
  · simp [h'] at h0 h1; rw [h0] at h1; cases h1
  · simp [Array.getElem?_eq_none h'] at h1
theorem wpAnyT_first {i : Nat} {oi : Oper} {v : Value} (hi : ops[i]? = some oi) (hsel : ∀ (j : Nat) (o : Oper) cs b, ops[j]? = some o → o.op ≠ .select cs b)
    (hQ : ∀ c a w, Q (.panic c) (a.put oi.dst v) w → Q (.panic c) a w) (hT : ∀ j ∈ T, j ≠ i → ∃ f, ancB md ops i f j = true) :
    ∀ (fuel : Nat) (listed : Array Bool) (a : Act) (w : World),
      (∀ j oj, ops[j]? = some oj → j ≠ i → listed.getD j true = false → (∀ e ∈ oj.after, Region.binds md e = true → e.on ≠ i) → oi.apart ops oj = true) → DC md ops listed →
      i ∈ Region.ready md ops listed → YieldsIf P ops S oi v a → S w →
      wpAnyT P md ops Q S T fuel (listed.setIfInBounds i true) (a.put oi.dst v) w → wpAnyT P md ops Q S T (fuel + 1) listed a w := by
  intro fuel
  induction fuel with
  | zero =>
    intro listed a w _ _ hr hy hS H
    refine ⟨fun h => (by rw [h] at hr; cases hr), fun j hj => ?_⟩
    by_cases hji : j = i
    · subst hji; exact hy.wpOp hi hS ⟨fun _ => hS, H⟩
    · have := ready_mono hj hji
      rw [H.1] at this
      cases this
  | succ fuel ih =>
    intro listed a w hfree hdc hr hy hS H
    refine ⟨fun h => (by rw [h] at hr; cases hr), fun j hj => ?_⟩
    by_cases hji : j = i
    · subst hji; exact hy.wpOp hi hS ⟨fun _ => hS, H⟩
    · have h1 := H.2 j (ready_mono hj hji)
      obtain ⟨hjun, oj, hoj, hall⟩ := mem_ready.1 hj
      have hun := (mem_ready.1 hr).1
      have hnot : ∀ e ∈ oj.after, Region.binds md e = true → e.on ≠ i := fun e he hb heq => by
        have h1 := hall e he hb
        rw [heq] at h1
        exact listed_both hun h1
      have hnT : j ∉ T := fun hm => by
        obtain ⟨f, hf⟩ := hT j hm hji
        exact listed_both hun (ancB_spec hdc f j oj hf hoj hall)
      have h2 := wpOp_putIf hoj (hfree j oj hoj hji hjun hnot) (fun cs b => hsel i oi cs b hi) (fun cs b => hsel j oj cs b hoj) hQ hy h1
      have hfree' : ∀ k ok, ops[k]? = some ok → k ≠ i → (listed.setIfInBounds j true).getD k true = false →
          (∀ e ∈ ok.after, Region.binds md e = true → e.on ≠ i) → oi.apart ops ok = true := fun k ok hk hki hun hno => by
        refine hfree k ok hk hki ?_ hno
        by_cases hjk : j = k
        · subst hjk; exact hjun
        · rw [getD_set_ne true hjk] at hun; exact hun
      refine wpOp_mono (fun a' w' h3 => ⟨fun _ => h3.2.1 hnT, ih (listed.setIfInBounds j true) a' w' hfree' (hdc.set hj) (ready_mono hr (Ne.symm hji)) h3.1 (h3.2.1 hnT) ?_⟩) h2
      rw [Array.setIfInBounds_comm _ _ hji]
      exact h3.2.2
end
omit [W0] in
/-- Where a panic ends, the slots do not matter. -/
structure PO (Q : Exit → Act → World → Prop) : Prop where
  out : ∀ c (a : Act) d v w, Q (.panic c) (a.put d v) w → Q (.panic c) a w
theorem PO.then {Q : Exit → Act → World → Prop} {K : Act → World → Prop} (h : PO Q) : PO (Exit.then K Q) := ⟨h.out⟩
theorem PO.block {Q : Exit → Act → World → Prop} {i : Nat} (h : PO Q) : PO (Exit.inBlock i Q) := ⟨h.out⟩
theorem put_defers' {a : Act} {d : Option Tmp} {v : Value} : (a.put d v).defers = a.defers := by cases d <;> rfl
theorem PO.body {P : Program} {fn : Func} {R : Ending → World → Prop} : PO (bodyPost P fn R) := ⟨fun c a d v w h => by
  obtain ⟨h1, h2⟩ := h
  exact ⟨by rw [put_defers'] at h1; exact h1, h2⟩⟩
omit [W0] in
/-- All chunks of the first list are among the second's. -/
structure Inc (S L : List Chunk) : Prop where
  out : ∃ R, L.Perm (S ++ R)
theorem Inc.nil {L : List Chunk} : Inc [] L := ⟨L, .refl _⟩
theorem Inc.cons {C : Chunk} {S L L' : List Chunk} (ht : Take C L L') (h : Inc S L') : Inc (C :: S) L := by
  obtain ⟨R, hR⟩ := h.out
  exact ⟨R, ht.perm.trans (hR.cons C)⟩
theorem Inc.skip {C : Chunk} {S L : List Chunk} (h : Inc S L) : Inc S (C :: L) := by
  obtain ⟨R, hR⟩ := h.out
  exact ⟨C :: R, (hR.cons C).trans List.perm_middle.symm⟩
theorem Inc.refl {L : List Chunk} : Inc L L := ⟨[], by simp⟩
theorem Holds.front {w : World} {S R : List Chunk} (h : Holds w (S ++ R)) : Holds w S := by
  refine ⟨?_, fun x hx => h.2.1 x (by simp only [List.flatten_append, List.mem_append]; exact .inl hx), h.2.2⟩
  have := h.1
  simp only [List.flatten_append, List.map_append, List.nodup_append] at this
  exact this.1
theorem Inc.holds {S L : List Chunk} (h : Inc S L) {w : World} (hw : Holds w L) : Holds w S := by
  obtain ⟨R, hR⟩ := h.out
  exact (hw.perm hR).front
structure WR (P : Program) (n : Nat) (ops : List Oper) (Q : Exit → Act → World → Prop) (S : List Chunk) (T : List Nat) (fuel : Nat) (listed : Array Bool) (M : List (Nat × Value)) (L : List Chunk) : Prop where
  out : ∀ a w, St n M a → Holds w L → wpAnyT P .any ops.toArray Q (fun w => Holds w S) T fuel listed a w
structure WRk (P : Program) (n : Nat) (ops : List Oper) (Q : Exit → Act → World → Prop) (S : List Chunk) (T : List Nat) (fuel : Nat) (listed : Array Bool) (M : List (Nat × Value)) (L : List Chunk) : Prop where
  inc : Inc S L
  out : WR P n ops Q S T fuel listed M L
section
variable {P : Program} {n : Nat} {Q : Exit → Act → World → Prop} {M : List (Nat × Value)} {L S : List Chunk} {ops : List Oper} {T : List Nat} {fuel : Nat} {listed : Array Bool}
theorem WC_draw (S : List Chunk) (T : List Nat) {id : Nat} (hm : P.follows .mixedOrders = true) (h : WR P n ops Q S T ops.length (Array.replicate ops.length false) M L) : WC P n (.region id ops.toArray true) Q M L := ⟨fun a w ha hw => by
  refine wp_region_any hm (wpAny_of_T (S := fun w => Holds w S) (T := T) _ _ _ _ ?_)
  have := h.out a { w with drawn := w.drawn + 1 } ha (hw.same rfl rfl rfl)
  simpa using this⟩
theorem WC_drawAll (T : List Nat) {id : Nat} (hm : P.follows .mixedOrders = true) (h : WR P n ops Q L T ops.length (Array.replicate ops.length false) M L) : WC P n (.region id ops.toArray true) Q M L := WC_draw L T hm h
theorem WR_done (hr : Region.ready .any ops.toArray listed = []) (h : WQ n (Q .normal) M L) : WR P n ops Q S T fuel listed M L := ⟨fun a w ha hw => by
  cases fuel with
  | zero => exact ⟨hr, h.out a w ha hw⟩
  | succ f => exact ⟨fun _ => h.out a w ha hw, by rw [hr]; simp⟩⟩
omit [W0] in
/-- The ground for taking number i first. -/
def takeB (ops : List Oper) (T : List Nat) (listed : Array Bool) (i : Nat) : Bool :=
  Region.noSelect ops.toArray && Region.free .any ops.toArray listed i && (Region.ready .any ops.toArray listed).contains i && dcB .any ops.toArray listed
    && T.all fun j => j == i || ancB .any ops.toArray i ops.length j
theorem WR_first {i d : Nat} {o : Oper} {v : Value} (hi : ops[i]? = some o) (hd : o.dst = some d) (hb : takeB ops T listed i = true) (hPO : PO Q) (hinc : Inc S L) (hn : Nat.blt d n = true)
    (hy : ∀ a, St n M a → YieldsIf P ops.toArray (fun w => Holds w S) o v a)
    (h : WR P n ops Q S T fuel (listed.setIfInBounds i true) ((d, v) :: M) L) : WR P n ops Q S T (fuel + 1) listed M L := ⟨fun a w ha hw => by
  simp only [takeB, Bool.and_eq_true, List.all_eq_true, Bool.or_eq_true, beq_iff_eq] at hb
  obtain ⟨⟨⟨⟨h1, h2⟩, h3⟩, h4⟩, h5⟩ := hb
  have hi' : ops.toArray[i]? = some o := by simpa using hi
  refine wpAnyT_first hi' (Region.noSelect_spec h1) (fun c a w hq => hPO.out c a _ _ w hq) (fun j hj hne => ⟨ops.length, (h5 j hj).resolve_left hne⟩) fuel listed a w (Region.free_spec hi' h2) (DC.of h4) (by simpa using h3) (hy a ha) (hinc.holds hw) ?_
  rw [hd]
  exact h.out _ w (ha.put v hn) hw⟩
theorem WR_take (i : Nat) {d : Nat} {o : Oper} {v : Value} (hi : ops[i]? = some o) (hg : o.guard = none) (hb : takeB ops T listed i = true) (hPO : PO Q) (hinc : Inc S L) (he : EV P n o M S d v) (hn : Nat.blt d n = true)
    (h : WR P n ops Q S T fuel (listed.setIfInBounds i true) ((d, v) :: M) L) : WR P n ops Q S T (fuel + 1) listed M L :=
  WR_first hi he.dst hb hPO hinc hn (fun a ha => .inl ⟨by simp [Region.wanted, hg], fun w hw => he.run a w ha hw⟩) h
theorem WR_takeOn (i : Nat) {d j : Nat} {b : Bool} {o : Oper} {v : Value} (hi : ops[i]? = some o) (hg : o.guard = some (j, b)) (hy : yl ops M j = some (.bool b)) (hb : takeB ops T listed i = true) (hPO : PO Q) (hinc : Inc S L) (he : EV P n o M S d v) (hn : Nat.blt d n = true)
    (h : WR P n ops Q S T fuel (listed.setIfInBounds i true) ((d, v) :: M) L) : WR P n ops Q S T (fuel + 1) listed M L :=
  WR_first hi he.dst hb hPO hinc hn (fun a ha => .inl ⟨by simp [Region.wanted, hg, yielded_of ha hy], fun w hw => he.run a w ha hw⟩) h
theorem WR_takeOff (i : Nat) {d j : Nat} {b : Bool} {o : Oper} (hi : ops[i]? = some o) (hg : o.guard = some (j, b)) (hy : yl ops M j = some (.bool (!b))) (hd : o.dst = some d) (hb : takeB ops T listed i = true) (hPO : PO Q) (hinc : Inc S L) (hn : Nat.blt d n = true)
    (h : WR P n ops Q S T fuel (listed.setIfInBounds i true) ((d, undef) :: M) L) : WR P n ops Q S T (fuel + 1) listed M L :=
  WR_first hi hd hb hPO hinc hn (fun a ha => .inr ⟨by simp [Region.wanted, hg, yielded_of ha hy], rfl⟩) h
theorem WR_one (i : Nat) {o : Oper} (hr : Region.ready .any ops.toArray listed = [i]) (hi : ops[i]? = some o) (hg : o.guard = none) (h : OW P n o (WRk P n ops Q S T fuel (listed.setIfInBounds i true)) M L) : WR P n ops Q S T (fuel + 1) listed M L := ⟨fun a w ha hw => by
  refine ⟨fun h0 => absurd (hr ▸ h0) (by simp), fun j hj => ?_⟩
  rw [hr] at hj
  simp only [List.mem_singleton] at hj
  subst hj
  unfold wpOp
  simp only [List.getElem?_toArray, hi]
  rw [if_pos (by simp [Region.wanted, hg])]
  exact .inl (h.out a w _ Q ha hw fun M' L' hk => ⟨fun a' w' ha' hw' => ⟨fun _ => hk.inc.holds hw', hk.out.out a' w' ha' hw'⟩⟩)⟩
theorem WR_last (i : Nat) {o : Oper} (hr : Region.ready .any ops.toArray listed = [i]) (hT : T.contains i = true) (hi : ops[i]? = some o) (hg : o.guard = none) (h : OW P n o (WR P n ops Q S T fuel (listed.setIfInBounds i true)) M L) : WR P n ops Q S T (fuel + 1) listed M L := ⟨fun a w ha hw => by
  refine ⟨fun h0 => absurd (hr ▸ h0) (by simp), fun j hj => ?_⟩
  rw [hr] at hj
  simp only [List.mem_singleton] at hj
  subst hj
  unfold wpOp
  simp only [List.getElem?_toArray, hi]
  rw [if_pos (by simp [Region.wanted, hg])]
  have hm : j ∈ T := by simpa using hT
  exact .inl (h.out a w _ Q ha hw fun M' L' hk => ⟨fun a' w' ha' hw' => ⟨fun hn => absurd hm hn, hk.out a' w' ha' hw'⟩⟩)⟩
theorem WQ_retI {fn : Func} {post : Value → List Chunk → Prop} {rs : List ResultVar} {vs : List Value} (hr : fn.results = rs.toArray) (h : resT M rs = some vs) (hp : ∃ L', Inc L' L ∧ post (tupled vs) L') :
    WQ n (bodyPost P fn (fun e w' => ∃ v L', e = .returned v ∧ post v L' ∧ Holds w' L') .ret) M L := ⟨fun _ _ ha hw => by
  obtain ⟨L', hi, hp⟩ := hp
  exact ⟨ha.defers, tupled vs, results_run ha hr h, _, L', rfl, hp, hi.holds hw⟩⟩
theorem WQ_endI {fn : Func} {post : Value → List Chunk → Prop} {rs : List ResultVar} {vs : List Value} (hr : fn.results = rs.toArray) (h : resT M rs = some vs) (hp : ∃ L', Inc L' L ∧ post (tupled vs) L') :
    WQ n (bodyPost P fn (fun e w' => ∃ v L', e = .returned v ∧ post v L' ∧ Holds w' L') .normal) M L := ⟨fun _ _ ha hw => by
  obtain ⟨L', hi, hp⟩ := hp
  exact ⟨ha.defers, tupled vs, results_run ha hr h, _, L', rfl, hp, hi.holds hw⟩⟩
theorem WQ_retH {fn : Func} {post : Value → List Chunk → Prop} {rs : List ResultVar} {vs : List Value} (hr : fn.results = rs.toArray) (h : resT M rs = some vs) (hp : ∃ L', (∀ w, Holds w L → Holds w L') ∧ post (tupled vs) L') :
    WQ n (bodyPost P fn (fun e w' => ∃ v L', e = .returned v ∧ post v L' ∧ Holds w' L') .ret) M L := ⟨fun _ w ha hw => by
  obtain ⟨L', hi, hp⟩ := hp
  exact ⟨ha.defers, tupled vs, results_run ha hr h, _, L', rfl, hp, hi w hw⟩⟩
theorem WQ_endH {fn : Func} {post : Value → List Chunk → Prop} {rs : List ResultVar} {vs : List Value} (hr : fn.results = rs.toArray) (h : resT M rs = some vs) (hp : ∃ L', (∀ w, Holds w L → Holds w L') ∧ post (tupled vs) L') :
    WQ n (bodyPost P fn (fun e w' => ∃ v L', e = .returned v ∧ post v L' ∧ Holds w' L') .normal) M L := ⟨fun _ w ha hw => by
  obtain ⟨L', hi, hp⟩ := hp
  exact ⟨ha.defers, tupled vs, results_run ha hr h, _, L', rfl, hp, hi w hw⟩⟩
theorem WC_holds' {L' : List Chunk} {c : Code} (hl : ∀ w, Holds w L → Holds w L') (h : WC P n c Q M L') : WC P n c Q M L := h.holds hl
theorem OW_holds {L' : List Chunk} {o : Oper} {K : List (Nat × Value) → List Chunk → Prop} (hl : ∀ w, Holds w L → Holds w L') (h : OW P n o K M L') : OW P n o K M L := ⟨fun a w next Q ha hw hk => h.out a w next Q ha (hl w hw) hk⟩
def GvP (P : Program) (f : FuncId) (args : Array Value) (L : List Chunk) (v : Value) : Prop := Gv P f args L (fun r L' => r = v ∧ L' = L)
theorem OW_callP {d : Nat} {ty : TypeId} {ps : String} {af : Array Edge} {g : Option (Nat × Bool)} {x : Operand} {v : Value} {K : List (Nat × Value) → List Chunk → Prop} {f : FuncId} [hb : BD P f] {xs : List Operand} {ats : Array TypeId} {first cap : Array Value} {vs : List Value} {args : Array Value}
    (hx : ev M x = some (.func (.func f) first cap)) (hvs : evs M xs = some vs) (hargs : first ++ vs.toArray ++ cap = args) (hspec : GvP P f args L v)
    (hn : Nat.blt d n = true) (h : K ((d, v) :: M) L) : OW P n ⟨some d, .call ⟨.value x, xs.toArray, ats⟩, ty, ps, af, g⟩ K M L :=
  OW_call hx hvs hargs hspec hn (fun v' L' hp => by obtain ⟨rfl, rfl⟩ := hp; exact h)
end
end Go.Vx
namespace Go.Vx
open Go
set_option linter.all false
variable [W0]
omit [W0] in
/-- Where a type's parts lie. -/
def plcs (P : Program) (t : Nat) : Option (List (Nat × Nat)) := match P.underlying t with
  | some (.struct fs) => fs.toList.mapM fun f => (P.info? f.type).map fun i => (f.offset, i.size)
  | _ => none
omit [W0] in
class BL (P : Program) (t : Nat) (pl : outParam (List (Nat × Nat))) : Prop where out : plcs P t = some pl
omit [W0] in
class PT (P : Program) (t : Nat) : Prop where out : ∃ e, P.underlying t = some (.pointer e)
omit [W0] in
class BB (P : Program) (t : Nat) : Prop where out : P.underlying t = some .bool
omit [W0] in
def fillL (pl : List (Nat × Nat)) : List Value → List (Nat × Value) → Option (List Value)
  | cells, [] => some cells
  | cells, (i, v) :: r => match pl[i]? with
    | none => none
    | some (off, size) => if v.cells.size = size ∧ off + size ≤ cells.length then fillL pl (patch cells off v.cells.toList) r else none
theorem foldl_set (vs : List Value) : ∀ (off j : Nat) (cs : Array Value), off + j + vs.length ≤ cs.size →
    (vs.zipIdx j).foldl (fun cs (x : Value × Nat) => cs.setIfInBounds (off + x.2) x.1) cs = (patch cs.toList (off + j) vs).toArray := by
  induction vs with
  | nil => intro off j cs _; simp [patch]
  | cons v r ih =>
    intro off j cs h
    simp only [List.length_cons] at h
    simp only [List.zipIdx_cons, List.foldl_cons]
    rw [ih off (j + 1) _ (by simp; omega)]
    apply Array.ext'
    have e := list_seg_step cs.toList (off + j) v r (by simp; omega)
    simpa [patch, Array.toList_setIfInBounds, Nat.add_assoc] using e
theorem fill_eq (pl : List (Nat × Nat)) : ∀ (parts : List (Nat × Value)) (cells : List Value) (cs : List Value), fillL pl cells parts = some cs → Instr.fill (pl.toArray[·]?) cells.toArray parts = some cs.toArray := by
  intro parts
  induction parts with
  | nil => intro cells cs h; simp [fillL] at h; subst h; simp [Instr.fill]
  | cons p r ih =>
    intro cells cs h
    obtain ⟨i, v⟩ := p
    unfold fillL at h
    cases hp : pl[i]? with
    | none => simp [hp] at h
    | some q =>
      obtain ⟨off, size⟩ := q
      simp only [hp] at h
      split at h
      · rename_i hc
        unfold Instr.fill
        simp only [List.getElem?_toArray, hp]
        rw [if_neg (by simp; omega)]
        have e : v.cells.zipIdx.foldl (fun cs (x : Value × Nat) => cs.setIfInBounds (off + x.2) x.1) cells.toArray = (patch cells off v.cells.toList).toArray := by
          have := foldl_set v.cells.toList off 0 cells.toArray (by simp; omega)
          rw [← Array.foldl_toList]
          simpa [Array.toList_zipIdx] using this
        have := ih _ cs h
        rw [← e] at this
        simpa using this
      · simp at h
omit [W0] in
/-- The parts' values. -/
def evp (M : List (Nat × Value)) : List (Nat × Operand) → Option (List (Nat × Value))
  | [] => some []
  | (i, x) :: r => match ev M x, evp M r with
    | some v, some vs => some ((i, v) :: vs)
    | _, _ => none
theorem St.evalp {n : Nat} {M : List (Nat × Value)} {a : Act} (h : St n M a) : ∀ {xs : List (Nat × Operand)} {vs : List (Nat × Value)}, evp M xs = some vs → xs.map (fun x => (x.1, a.eval x.2)) = vs
  | [], vs, he => by simp [evp] at he; subst he; rfl
  | (i, x) :: r, vs, he => by
    unfold evp at he
    split at he
    · rename_i v vs' h1 h2
      simp at he; subst he
      simp [h.eval h1, St.evalp h h2]
    · simp at he
section
variable {P : Program} {n : Nat} {Q : Exit → Act → World → Prop} {M : List (Nat × Value)} {L : List Chunk} {K : List (Nat × Value) → List Chunk → Prop}
variable {d : Nat} {ty : TypeId} {ps : String} {af : Array Edge} {g : Option (Nat × Bool)} {x y : Operand} {v : Value}
theorem mapM_places {fs : List Field} {pl : List (Nat × Nat)} (h : fs.mapM (fun f => (P.info? f.type).map fun i => (f.offset, i.size)) = some pl) (w : World) :
    (fs.mapM (m := Sem) fun f => do pure (f.offset, ← sizeOf f.type)).run P w = .ok pl w := by
  induction fs generalizing pl with
  | nil => simp at h; subst h; rfl
  | cons f r ih =>
    simp only [List.mapM_cons] at h
    cases hi : P.info? f.type with
    | none => simp [hi] at h
    | some i =>
      simp only [hi, Option.map_some, Option.pure_def, Option.bind_eq_bind, Option.bind_some] at h
      cases hr : r.mapM (fun f => (P.info? f.type).map fun i => (f.offset, i.size)) with
      | none => simp [hr] at h
      | some pl' =>
        simp [hr] at h
        subst h
        have h2 := ih hr
        have h3 := sizeOf_run (P := P) (t := f.type) (k := i.size) (by rw [hi]; rfl) w
        simp only [List.mapM_cons, Sem.run_bind, h3, Result.andThen_ok, Sem.run_pure, h2]
theorem EV_build {t : Nat} {pl : List (Nat × Nat)} {z : Value} [hb : BL P t pl] [hz : ZV P t z] {parts : List (Nat × Operand)} {pvs : List (Nat × Value)} {cs : List Value} (hp : evp M parts = some pvs)
    (hf : fillL pl z.cells.toList pvs = some cs) : EV P n ⟨some d, .build t parts.toArray, ty, ps, af, g⟩ M L d (.agg cs.toArray) :=
  ⟨rfl, fun a w ha _ => by
    have h1 := hb.out
    unfold plcs at h1
    split at h1
    · rename_i fs hu
      have hm := mapM_places (P := P) h1 w
      have hfill := fill_eq pl pvs z.cells.toList cs hf
      rw [Array.toArray_toList] at hfill
      simp only [List.getElem?_toArray] at hfill
      have hpe := ha.evalp hp
      simp only [execOp, Instr.build, Sem.run_bind, zero_run hz.out, run_underlying hu, Result.andThen_ok]
      rw [← Array.toArray_toList (xs := fs)]
      simp only [List.mapM_toArray, Sem.run_map, hm, Result.andThen_ok]
      simp [hpe, hfill]
    · simp at h1⟩
theorem run_equal_slice {T e : Nat} (hu : P.underlying T = some (.slice e)) (b : Option Addr) (len cap : Nat) (w : World) : (Op.equal T (.slice b len cap) (.slice none 0 0)).run P w = .ok b.isNone w := by
  unfold Op.equal
  rw [show Op.maxDepth = 9999 + 1 from rfl]
  unfold Op.equalIn
  cases b <;> simp [run_underlying hu]
theorem run_equal_ptr {T e : Nat} (hu : P.underlying T = some (.pointer e)) (b : Option Addr) (w : World) : (Op.equal T (.pointer b) (.pointer none)).run P w = .ok b.isNone w := by
  unfold Op.equal
  rw [show Op.maxDepth = 9999 + 1 from rfl]
  unfold Op.equalIn
  cases b <;> simp [run_underlying hu]
theorem run_equal_bool {T : Nat} (hu : P.underlying T = some .bool) (b c : Bool) (w : World) : (Op.equal T (.bool b) (.bool c)).run P w = .ok (b == c) w := by
  unfold Op.equal
  rw [show Op.maxDepth = 9999 + 1 from rfl]
  unfold Op.equalIn
  simp [run_underlying hu]
theorem EV_sliceEqNil {T e k by_ : Nat} [hs : SL P T e k by_] {b : Option Addr} {len cap : Nat} {u : TypeId} (hx : ev M x = some (.slice b len cap)) (hy : ev M y = some (.slice none 0 0)) :
    EV P n ⟨some d, .binOp .eql T x y u, ty, ps, af, g⟩ M L d (.bool b.isNone) :=
  ⟨rfl, fun a w ha _ => by
    obtain ⟨hu, _⟩ := hs.parts
    simp [execOp, ha.eval hx, ha.eval hy, eqGuard, binOp, run_equal_slice hu]⟩
theorem EV_sliceNeNil {T e k by_ : Nat} [hs : SL P T e k by_] {b : Option Addr} {len cap : Nat} {u : TypeId} (hx : ev M x = some (.slice b len cap)) (hy : ev M y = some (.slice none 0 0)) :
    EV P n ⟨some d, .binOp .neq T x y u, ty, ps, af, g⟩ M L d (.bool (!b.isNone)) :=
  ⟨rfl, fun a w ha _ => by
    obtain ⟨hu, _⟩ := hs.parts
    simp [execOp, ha.eval hx, ha.eval hy, eqGuard, binOp, run_equal_slice hu]⟩
theorem EV_ptrEqNil {T : Nat} [hs : PT P T] {b : Option Addr} {u : TypeId} (hx : ev M x = some (.pointer b)) (hy : ev M y = some (.pointer none)) :
    EV P n ⟨some d, .binOp .eql T x y u, ty, ps, af, g⟩ M L d (.bool b.isNone) :=
  ⟨rfl, fun a w ha _ => by
    obtain ⟨e, hu⟩ := hs.out
    simp [execOp, ha.eval hx, ha.eval hy, eqGuard, binOp, run_equal_ptr hu]⟩
theorem EV_ptrNeNil {T : Nat} [hs : PT P T] {b : Option Addr} {u : TypeId} (hx : ev M x = some (.pointer b)) (hy : ev M y = some (.pointer none)) :
    EV P n ⟨some d, .binOp .neq T x y u, ty, ps, af, g⟩ M L d (.bool (!b.isNone)) :=
  ⟨rfl, fun a w ha _ => by
    obtain ⟨e, hu⟩ := hs.out
    simp [execOp, ha.eval hx, ha.eval hy, eqGuard, binOp, run_equal_ptr hu]⟩
theorem EV_boolEq {t : Nat} {u : TypeId} {b c : Bool} [hb : BB P t] (hx : ev M x = some (.bool b)) (hy : ev M y = some (.bool c)) :
    EV P n ⟨some d, .binOp .eql t x y u, ty, ps, af, g⟩ M L d (.bool (b == c)) :=
  ⟨rfl, fun a w ha _ => by
    simp [execOp, ha.eval hx, ha.eval hy, eqGuard, binOp, run_equal_bool hb.out]⟩
theorem EV_boolNe {t : Nat} {u : TypeId} {b c : Bool} [hb : BB P t] (hx : ev M x = some (.bool b)) (hy : ev M y = some (.bool c)) :
    EV P n ⟨some d, .binOp .neq t x y u, ty, ps, af, g⟩ M L d (.bool (b != c)) :=
  ⟨rfl, fun a w ha _ => by
    simp [execOp, ha.eval hx, ha.eval hy, eqGuard, binOp, run_equal_bool hb.out, bne]⟩
theorem EV_slice3 {T e k by_ : Nat} [hs : SL P T e k by_] {b off len cap : Nat} {lo hi mx : Operand} {l h m : Nat} {k1 k2 k3 : IntKind} (hx : ev M x = some (.slice (some ⟨b, off, none⟩) len cap)) (hl : ev M lo = some (.int k1 (l : Int))) (hh : ev M hi = some (.int k2 (h : Int))) (hm : ev M mx = some (.int k3 (m : Int)))
    (h1 : l ≤ h) (h2 : h ≤ m) (h3 : m ≤ cap) : EV P n ⟨some d, .slice T x (some lo) (some hi) (some mx), ty, ps, af, g⟩ M L d (.slice (some ⟨b, if m = l then off else off + l * k, none⟩) (h - l) (m - l)) :=
  ⟨rfl, fun a w ha _ => by
    obtain ⟨hu, i', hi', hk', _, hk0⟩ := hs.parts
    simp [execOp, ha.eval hx, Instr.sliceAt, Instr.slice, run_underlying hu, Instr.sliceBounds, Instr.sliceBound, ha.eval hl, ha.eval hh, ha.eval hm, asIntOf, h1, h2, h3, sizeOf, typeInfo, hi', hk', addr_add]
    split <;> simp_all⟩
omit [W0] in
/-- A new row of zeroes. -/
def zeros (zc : List Value) : Nat → List Value
  | 0 => []
  | n + 1 => zc ++ zeros zc n
theorem zeros_length (zc : List Value) : ∀ n, (zeros zc n).length = n * zc.length
  | 0 => by simp [zeros]
  | n + 1 => by simp [zeros, zeros_length zc n, Nat.add_mul, Nat.add_comm]
theorem zeros_get (zc : List Value) : ∀ (n i : Nat), i < n * zc.length → (zeros zc n)[i]? = zc[i % zc.length]?
  | 0, i, h => by simp at h
  | n + 1, i, h => by
    have hp : 0 < zc.length := by
      rcases Nat.eq_zero_or_pos zc.length with h0 | h0
      · rw [h0] at h; simp at h
      · exact h0
    rw [Nat.add_mul, Nat.one_mul] at h
    unfold zeros
    by_cases hi : i < zc.length
    · rw [List.getElem?_append_left hi, Nat.mod_eq_of_lt hi]
    · rw [List.getElem?_append_right (by omega), zeros_get zc n (i - zc.length) (by omega)]
      congr 1
      exact (Nat.mod_eq_sub_mod (Nat.le_of_not_lt hi)).symm
theorem zeros_range {z : Array Value} {m : Nat} : ((Array.range (m * z.size)).map (fun i => z[i % z.size]!)) = (zeros z.toList m).toArray := by
  apply Array.ext'
  apply List.ext_getElem?
  intro i
  by_cases h : i < m * z.size
  · have hz : 0 < z.size := by
      rcases Nat.eq_zero_or_pos z.size with h0 | h0
      · rw [h0] at h; simp at h
      · exact h0
    have hm : i % z.size < z.size := Nat.mod_lt _ hz
    rw [zeros_get _ _ _ (by simpa using h)]
    simp [h, hm]
  · rw [List.getElem?_eq_none (by simp; omega), List.getElem?_eq_none (by rw [zeros_length]; simp; omega)]
theorem OW_makeSlice {t e k by_ : Nat} {z : Value} [hs : SL P t e k by_] [hz : ZV P e z] {m c : Nat} {k1 k2 : IntKind} (hx : ev M x = some (.int k1 (m : Int))) (hy : ev M y = some (.int k2 (c : Int))) (hzk : z.cells.size = k)
    (hmc : m ≤ c) (hc : c ≤ 9223372036854775807) (hb : c * by_ ≤ 281474976710656) (hn : Nat.blt d n = true)
    (h : ∀ b, K ((d, .slice (some ⟨b, 0, none⟩) m c) :: M) ([(b, cl (zeros z.cells.toList c) e)] :: L)) : OW P n ⟨some d, .makeSlice t x y, ty, ps, af, g⟩ K M L :=
  OW_newval (f := fun b => .slice (some ⟨b, 0, none⟩) m c) rfl hn (fun a w ha hw => by
    obtain ⟨hu, i, hi, hik, hib, hk0⟩ := hs.parts
    have hzz : i.zero = some z := by have := hz.out; rw [hi] at this; simpa using this
    subst hik hib
    have hr := run_make (P := P) w t e i z hu hi hzz k1 k2 m c (by omega) (by omega) (by
      rw [← Int.natCast_mul, Nat.mul_comm]; exact Int.ofNat_le.2 hb) (by omega)
    have hz2 := zeros_range (z := z.cells) (m := c)
    rw [hzk] at hz2
    simp only [execOp, ha.eval hx, ha.eval hy, Sem.run_bind, hr, Result.andThen_ok, Sem.run_pure, Int.toNat_natCast]
    unfold madeCells cl
    rw [hzk, hz2]) h
theorem OW_buildSlice {t e k by_ len : Nat} {z : Value} [hs : SL P t e k by_] [hz : ZV P e z] {parts : List (Nat × Operand)} {pvs : List (Nat × Value)} {cs : List Value} (hp : evp M parts = some pvs) (hzk : z.cells.size = k)
    (hf : fillL ((List.range len).map fun i => (i * k, k)) (zeros z.cells.toList len) pvs = some cs) (hlen : len * k ≤ 16777216) (hpl : pvs.all (fun x => Nat.blt x.1 len) = true) (hn : Nat.blt d n = true)
    (h : ∀ b, K ((d, .slice (some ⟨b, 0, none⟩) len len) :: M) ([(b, cl cs e)] :: L)) : OW P n ⟨some d, .buildSlice t len parts.toArray, ty, ps, af, g⟩ K M L :=
  OW_newval (f := fun b => .slice (some ⟨b, 0, none⟩) len len) rfl hn (fun a w ha hw => by
    obtain ⟨hu, i, hi, hik, hib, hk0⟩ := hs.parts
    subst hik
    have hpe := ha.evalp hp
    have hz2 := zeros_range (z := z.cells) (m := len)
    rw [hzk] at hz2
    have hfill := fill_eq _ pvs _ cs hf
    have hfill2 : Instr.fill (fun j => some (j * i.size, i.size)) (zeros z.cells.toList len).toArray pvs = some cs.toArray := by
      have key : ∀ (ps : List (Nat × Value)) (c : Array Value), ps.all (fun x => Nat.blt x.1 len) = true → Instr.fill (((List.range len).map fun j => (j * i.size, i.size)).toArray[·]?) c ps = Instr.fill (fun j => some (j * i.size, i.size)) c ps := by
        intro ps
        induction ps with
        | nil => intro c _; simp [Instr.fill]
        | cons p r ih =>
          intro c hall
          obtain ⟨j, v⟩ := p
          simp only [List.all_cons, Bool.and_eq_true, Nat.blt_eq] at hall
          unfold Instr.fill
          simp only [List.getElem?_toArray, List.getElem?_map, List.getElem?_range hall.1, Option.map_some]
          split
          · rfl
          · have := ih (v.cells.zipIdx.foldl (fun cs (x : Value × Nat) => cs.setIfInBounds (j * i.size + x.2) x.1) c) hall.2
            simp only [List.getElem?_toArray, List.getElem?_map] at this
            exact this
      rw [← key pvs _ hpl]; exact hfill
    have hle : ¬ (16777216 < len * i.size) := by omega
    by_cases h0 : len * i.size = 0
    · have hl0 : len = 0 := by
        rcases Nat.mul_eq_zero.1 h0 with h | h
        · exact h
        · omega
      subst hl0
      simp [zeros] at hfill2
      have e0 : ∀ f : Nat → Value, Array.map f (Array.range 0) = #[] := fun f => by apply Array.ext'; simp
      simp [execOp, Instr.buildSlice, run_underlying hu, sizeOf, typeInfo, hi, hpe, newRow, e0, hfill2, cl]
    · simp only [execOp, Instr.buildSlice, Sem.run_bind, run_underlying hu, Result.andThen_ok]
      have hsz : (sizeOf e).run P w = .ok i.size w := sizeOf_run (by rw [hi]; rfl) w
      simp [hsz, h0, zero_run hz.out, hpe, hzk, hle]
      rw [hz2]
      simp [hfill2, newRow, cl]) h
theorem wrap_u64 {r : Int} (h1 : 0 ≤ r) (h2 : r ≤ 18446744073709551615) : IntKind.u64.wrap r = r := by
  simp [IntKind.wrap, IntKind.bits, IntKind.signed]
  omega
theorem shr_lit {a j m : Int} {k : IntKind} (h : 0 ≤ a) (hm : (2 : Int) ^ (min j.toNat k.bits) = m) : a.fdiv (2 ^ (min j.toNat k.bits)) = a / m := by
  rw [hm]
  subst hm
  exact Int.fdiv_eq_ediv_of_nonneg _ (Int.le_of_lt (Int.pow_pos (by decide)))
theorem lk_int {t : Nat} {k : IntKind} {a b : Int} (h : lk M t = some (.int k a)) (e : a = b) : lk M t = some (.int k b) := by rw [h, e]
theorem bnd_int {o : Operand} {dflt : Nat} {k : IntKind} {a b : Int} (h : ev M o = some (.int k a)) (e : a = b) : bnd M (some o) dflt = some b := by simp only [bnd, h, e]
omit [W0] in
def tkN : List Value → Nat → Option (List Value)
  | _, 0 => some []
  | [], _ + 1 => none
  | v :: r, m + 1 => match tkN r m with
    | some vs => some (v :: vs)
    | none => none
omit [W0] in
def dpN : List Value → Nat → List Value
  | l, 0 => l
  | [], _ + 1 => []
  | _ :: r, m + 1 => dpN r m
theorem dpN_eq : ∀ (l : List Value) (m : Nat), dpN l m = l.drop m
  | l, 0 => by simp [dpN]
  | [], m + 1 => by simp [dpN]
  | v :: r, m + 1 => by simp [dpN, dpN_eq r m]
theorem tkN_eq : ∀ {l : List Value} {m : Nat} {vs : List Value}, tkN l m = some vs → vs = l.take m ∧ vs.length = m
  | l, 0, vs, h => by simp [tkN] at h; subst h; simp
  | [], m + 1, vs, h => by simp [tkN] at h
  | v :: r, m + 1, vs, h => by
    unfold tkN at h
    split at h
    · rename_i us hu
      simp at h; subst h
      obtain ⟨h1, h2⟩ := tkN_eq hu
      simp [h1, h2]
      rw [← h2]; simp [h1]
    · simp at h
theorem EV_loadAggC {t k : Nat} [hag : AG P t k] {b off : Nat} {l vs : List Value} {T : TypeId} (hx : ev M x = some (.pointer (some ⟨b, off, none⟩))) (hf : Fnd L b (cl l T)) (hc : tkN (dpN l off) k = some vs) :
    EV P n ⟨some d, .load t x, ty, ps, af, g⟩ M L d (.agg vs.toArray) := by
  obtain ⟨h1, h2⟩ := tkN_eq hc
  rw [dpN_eq] at h1
  exact EV_loadAgg hx (RdAt.cl' hf (by unfold cut; rw [h2, h1])) h2
theorem OW_storeAggTo {t k : Nat} [hag : AG P t k] {b off : Nat} {l vs : List Value} {T : TypeId} {L' : List Chunk} (l' : List Value) (hx : ev M x = some (.pointer (some ⟨b, off, none⟩))) (hy : ev M y = some (.agg vs.toArray)) (hl : vs.length = k)
    (h1 : ones vs = true) (he : patch l off vs = l') (hu : Upd L b (cl l T) (cl l' T) L') (hfit : off + vs.length ≤ l.length) (h : K M L') :
    OW P n ⟨none, .store t x y, ty, ps, af, g⟩ K M L := by
  subst he
  exact OW_storeAgg hx hy hl h1 hu hfit h
theorem OW_storeTo {t : TypeId} [hs : SZ P t 1] {b off : Nat} {l : List Value} {T : TypeId} {L' : List Chunk} (l' : List Value) (hx : ev M x = some (.pointer (some ⟨b, off, none⟩))) (hy : ev M y = some v) (hv : v.oneCell' = true)
    (he : l.set off v = l') (hu : Upd L b (cl l T) (cl l' T) L') (hlt : off < l.length) (h : K M L') :
    OW P n ⟨none, .store t x y, ty, ps, af, g⟩ K M L := by
  subst he
  exact OW_store hx hy hv hu hlt h
omit [W0] in
def bitI : BinOp → IntKind → Int → Int → Option Int
  | .and, k, x, y => some (k.wrap ((BitVec.ofInt k.bits x &&& BitVec.ofInt k.bits y).toNat : Int))
  | .or, k, x, y => some (k.wrap ((BitVec.ofInt k.bits x ||| BitVec.ofInt k.bits y).toNat : Int))
  | .xor, k, x, y => some (k.wrap ((BitVec.ofInt k.bits x ^^^ BitVec.ofInt k.bits y).toNat : Int))
  | .andNot, k, x, y => some (k.wrap ((BitVec.ofInt k.bits x &&& ~~~ BitVec.ofInt k.bits y).toNat : Int))
  | _, _, _, _ => none
theorem EV_bit {op : BinOp} {t u : TypeId} {k : IntKind} {i j r : Int} (hx : ev M x = some (.int k i)) (hy : ev M y = some (.int k j)) (hb : bitI op k i j = some r) :
    EV P n ⟨some d, .binOp op t x y u, ty, ps, af, g⟩ M L d (.int k r) :=
  ⟨rfl, fun a w ha _ => by
    cases op <;> simp [bitI] at hb <;> subst hb <;> simp [execOp, ha.eval hx, ha.eval hy, eqGuard, binOp, Op.intBits]⟩
omit [W0] in
/-- A mask of the lowest bits: what it is one less than. -/
def maskI (k : IntKind) : Int → Option Int
  | .ofNat m => bif Nat.beq (2 ^ Nat.log2 (m + 1)) (m + 1) && Nat.ble (Nat.log2 (m + 1) + 1) k.bits then some (m + 1 : Nat) else none
  | .negSucc _ => none
theorem bits_mask {k : IntKind} {i m p : Int} (h : maskI k m = some p) : k.wrap ((BitVec.ofInt k.bits i &&& BitVec.ofInt k.bits m).toNat : Int) = i % p := by
  cases m with
  | negSucc _ => simp [maskI] at h
  | ofNat m =>
    have h : (bif Nat.beq (2 ^ Nat.log2 (m + 1)) (m + 1) && Nat.ble (Nat.log2 (m + 1) + 1) k.bits then some ((m + 1 : Nat) : Int) else none) = some p := h
    cases h1 : (Nat.beq (2 ^ Nat.log2 (m + 1)) (m + 1) && Nat.ble (Nat.log2 (m + 1) + 1) k.bits) with
    | false => rw [h1] at h; simp at h
    | true =>
      rw [h1] at h
      simp only [cond_true, Option.some.injEq] at h
      rw [Bool.and_eq_true, Nat.ble_eq] at h1
      obtain ⟨h2, h3⟩ := h1
      have h2 := Nat.eq_of_beq_eq_true h2
      generalize Nat.log2 (m + 1) = j at h2 h3
      subst h
      have hj : j < k.bits := by omega
      have hlt : 2 ^ j < 2 ^ k.bits := Nat.pow_lt_pow_right (by decide) hj
      have hm : m = 2 ^ j - 1 := by omega
      have e1 : (BitVec.ofInt k.bits (Int.ofNat m)).toNat = m := by
        rw [BitVec.toNat_ofInt]
        have hml : m < 2 ^ k.bits := by omega
        have : (Int.ofNat m) % ((2 ^ k.bits : Nat) : Int) = Int.ofNat m := Int.emod_eq_of_lt (Int.natCast_nonneg m) (by have : ((m : Nat) : Int) < ((2 ^ k.bits : Nat) : Int) := by { exact_mod_cast hml }; exact this)
        rw [this]; rfl
      have e2 : ((BitVec.ofInt k.bits i).toNat : Int) = i % ((2 ^ k.bits : Nat) : Int) := by
        rw [BitVec.toNat_ofInt]
        have h0 : 0 < 2 ^ k.bits := Nat.pow_pos (by decide)
        exact Int.toNat_of_nonneg (Int.emod_nonneg _ (by omega))
      have e3 : ((BitVec.ofInt k.bits i &&& BitVec.ofInt k.bits (Int.ofNat m)).toNat : Int) = i % ((2 ^ j : Nat) : Int) := by
        rw [BitVec.toNat_and, e1, hm, Nat.and_two_pow_sub_one_eq_mod, Int.natCast_emod, e2]
        refine Int.emod_emod_of_dvd _ ?_
        exact_mod_cast Nat.pow_dvd_pow 2 (Nat.le_of_lt hj)
      rw [e3, h2]
      have hp : (0 : Int) < ((m + 1 : Nat) : Int) := by omega
      have g1 := Int.emod_nonneg i (Int.ne_of_gt hp)
      have g2 := Int.emod_lt_of_pos i hp
      have g3 : ((m + 1 : Nat) : Int) ≤ ((2 ^ (k.bits - 1) : Nat) : Int) := by
        have : 2 ^ j ≤ 2 ^ (k.bits - 1) := Nat.pow_le_pow_right (by decide) (by omega)
        rw [← h2]; exact_mod_cast this
      have g4 : ((m + 1 : Nat) : Int) < ((2 ^ k.bits : Nat) : Int) := by rw [← h2]; exact_mod_cast hlt
      unfold IntKind.wrap
      have c1 : ((2 : Int) ^ k.bits) = ((2 ^ k.bits : Nat) : Int) := by simp
      have c2 : ((2 : Int) ^ (k.bits - 1)) = ((2 ^ (k.bits - 1) : Nat) : Int) := by simp
      simp only [c1, c2]
      rw [Int.emod_eq_of_lt g1 (by omega), if_neg]
      simp only [Bool.and_eq_true, decide_eq_true_eq]
      omega
theorem EV_mask {t u : TypeId} {k : IntKind} {i m p : Int} (hx : ev M x = some (.int k i)) (hy : ev M y = some (.int k m)) (hm : maskI k m = some p) :
    EV P n ⟨some d, .binOp .and t x y u, ty, ps, af, g⟩ M L d (.int k (i % p)) := by
  have := EV_bit (P := P) (n := n) (L := L) (d := d) (ty := ty) (ps := ps) (af := af) (g := g) (op := .and) (t := t) (u := u) hx hy rfl
  rwa [bits_mask hm] at this
theorem EV_rem {t u : TypeId} {k : IntKind} {i j : Int} (hx : ev M x = some (.int k i)) (hy : ev M y = some (.int k j)) (hj : j ≠ 0) :
    EV P n ⟨some d, .binOp .rem t x y u, ty, ps, af, g⟩ M L d (.int k (i.tmod j)) :=
  ⟨rfl, fun a w ha _ => by simp [execOp, ha.eval hx, ha.eval hy, eqGuard, binOp, Op.intDiv, hj]⟩
theorem EV_shl {t u : TypeId} {k k' : IntKind} {i j r : Int} (hx : ev M x = some (.int k i)) (hy : ev M y = some (.int k' j)) (hj : 0 ≤ j) (hr : k.wrap (i * 2 ^ (min j.toNat k.bits)) = r) :
    EV P n ⟨some d, .binOp .shl t x y u, ty, ps, af, g⟩ M L d (.int k r) :=
  ⟨rfl, fun a w ha _ => by
    have : ¬ j < 0 := by omega
    simp [execOp, ha.eval hx, ha.eval hy, eqGuard, binOp, Op.shift, this, hr]⟩
theorem OW_E {o : Oper} (h : K ((d, v) :: M) L) (he : EV P n o M L d v := by first | (show EV _ _ ⟨_, .move _, _, _, _, _⟩ _ _ _ _; first | exact EV_move rfl) | (show EV _ _ ⟨_, .assign _, _, _, _, _⟩ _ _ _ _; first | exact EV_assign rfl) | (show EV _ _ ⟨_, .nilCheck _, _, _, _, _⟩ _ _ _ _; first | exact EV_nilCheck rfl) | (show EV _ _ ⟨_, .fieldAddr .., _, _, _, _⟩ _ _ _ _; first | exact EV_fieldAddr0 rfl | exact EV_fieldAddr rfl) | (show EV _ _ ⟨_, .load .., _, _, _, _⟩ _ _ _ _; first | exact EV_loadc rfl (by repeat (first | assumption | exact Fnd.here | refine Fnd.there ?_)) rfl | exact EV_loadAggC rfl (by repeat (first | assumption | exact Fnd.here | refine Fnd.there ?_)) rfl) | (show EV _ _ ⟨_, .binOp .., _, _, _, _⟩ _ _ _ _; first | exact EV_cmp rfl rfl rfl | exact EV_ari64 rfl rfl rfl (by omega) | exact EV_shr rfl rfl (by decide) (shr_lit (by omega) (by simp [IntKind.bits]; rfl)) | exact EV_strEq rfl rfl | exact EV_strNe rfl rfl | exact EV_strLt rfl rfl | exact EV_sliceEqNil rfl rfl | exact EV_sliceNeNil rfl rfl | exact EV_ptrEqNil rfl rfl | exact EV_ptrNeNil rfl rfl | exact EV_boolEq rfl rfl | exact EV_boolNe rfl rfl) | (show EV _ _ ⟨_, .convert .., _, _, _, _⟩ _ _ _ _; first | exact EV_convII rfl (wrap_i64 (by omega) (by omega)) | exact EV_convII rfl (wrap_u64 (by omega) (by omega)) | exact EV_convII rfl rfl) | (show EV _ _ ⟨_, .extract .., _, _, _, _⟩ _ _ _ _; first | exact EV_extract rfl rfl) | (show EV _ _ ⟨_, .unOp .., _, _, _, _⟩ _ _ _ _; first | exact EV_not rfl) | (show EV _ _ ⟨_, .pick .., _, _, _, _⟩ _ _ _ _; first | exact EV_pick rfl rfl) | (show EV _ _ ⟨_, .call ⟨.builtin .len, _, _⟩, _, _, _, _⟩ _ _ _ _; first | exact EV_lenSl rfl | exact EV_lenStr rfl) | (show EV _ _ ⟨_, .call ⟨.builtin .cap, _, _⟩, _, _, _, _⟩ _ _ _ _; first | exact EV_capSl rfl) | (show EV _ _ ⟨_, .call ⟨.builtin .min, _, _⟩, _, _, _, _⟩ _ _ _ _; first | exact EV_min rfl rfl) | (show EV _ _ ⟨_, .call ⟨.builtin .max, _, _⟩, _, _, _, _⟩ _ _ _ _; first | exact EV_max rfl rfl) | (show EV _ _ ⟨_, .makeInterface .., _, _, _, _⟩ _ _ _ _; first | exact EV_makeInterface rfl) | (show EV _ _ ⟨_, .makeFunc .., _, _, _, _⟩ _ _ _ _; first | exact EV_makeFunc rfl rfl) | (show EV _ _ ⟨_, .typeAssert .., _, _, _, _⟩ _ _ _ _; first | exact EV_assertYes rfl | exact EV_assertNo rfl rfl) | (show EV _ _ ⟨_, .build .., _, _, _, _⟩ _ _ _ _; first | exact EV_build rfl (by simp [fillL, patch, Value.cells]; rfl))) (hn : Nat.blt d n = true := by exact rfl) : OW P n o K M L := OW_EV he hn h
theorem WR_t {S : List Chunk} {ops : List Oper} {T : List Nat} {fuel : Nat} {listed : Array Bool} (i : Nat) {o : Oper} (h : WR P n ops Q S T fuel (listed.setIfInBounds i true) ((d, v) :: M) L)
    (hi : ops[i]? = some o := by exact rfl) (hg : o.guard = none := by exact rfl) (hb : takeB ops T listed i = true := by kernel_rfl) (hPO : PO Q := by exact (by repeat (first | with_reducible exact PO.body | with_reducible exact RP_po | with_reducible refine PO.then ?_ | with_reducible refine PO.block ?_))) (hinc : Inc S L := by exact (by repeat (first | exact Inc.refl | exact Inc.nil | (show Inc (_ :: _) _; refine Inc.cons (by repeat (first | exact Take.here | apply Take.there)) ?_) | refine Inc.skip ?_))) (he : EV P n o M S d v := by exact (by first | (show EV _ _ ⟨_, .move _, _, _, _, _⟩ _ _ _ _; first | exact EV_move rfl) | (show EV _ _ ⟨_, .assign _, _, _, _, _⟩ _ _ _ _; first | exact EV_assign rfl) | (show EV _ _ ⟨_, .nilCheck _, _, _, _, _⟩ _ _ _ _; first | exact EV_nilCheck rfl) | (show EV _ _ ⟨_, .fieldAddr .., _, _, _, _⟩ _ _ _ _; first | exact EV_fieldAddr0 rfl | exact EV_fieldAddr rfl) | (show EV _ _ ⟨_, .load .., _, _, _, _⟩ _ _ _ _; first | exact EV_loadc rfl (by repeat (first | assumption | exact Fnd.here | refine Fnd.there ?_)) rfl | exact EV_loadAggC rfl (by repeat (first | assumption | exact Fnd.here | refine Fnd.there ?_)) rfl) | (show EV _ _ ⟨_, .binOp .., _, _, _, _⟩ _ _ _ _; first | exact EV_cmp rfl rfl rfl | exact EV_ari64 rfl rfl rfl (by omega) | exact EV_shr rfl rfl (by decide) (shr_lit (by omega) (by simp [IntKind.bits]; rfl)) | exact EV_strEq rfl rfl | exact EV_strNe rfl rfl | exact EV_strLt rfl rfl | exact EV_sliceEqNil rfl rfl | exact EV_sliceNeNil rfl rfl | exact EV_ptrEqNil rfl rfl | exact EV_ptrNeNil rfl rfl | exact EV_boolEq rfl rfl | exact EV_boolNe rfl rfl) | (show EV _ _ ⟨_, .convert .., _, _, _, _⟩ _ _ _ _; first | exact EV_convII rfl (wrap_i64 (by omega) (by omega)) | exact EV_convII rfl (wrap_u64 (by omega) (by omega)) | exact EV_convII rfl rfl) | (show EV _ _ ⟨_, .extract .., _, _, _, _⟩ _ _ _ _; first | exact EV_extract rfl rfl) | (show EV _ _ ⟨_, .unOp .., _, _, _, _⟩ _ _ _ _; first | exact EV_not rfl) | (show EV _ _ ⟨_, .pick .., _, _, _, _⟩ _ _ _ _; first | exact EV_pick rfl rfl) | (show EV _ _ ⟨_, .call ⟨.builtin .len, _, _⟩, _, _, _, _⟩ _ _ _ _; first | exact EV_lenSl rfl | exact EV_lenStr rfl) | (show EV _ _ ⟨_, .call ⟨.builtin .cap, _, _⟩, _, _, _, _⟩ _ _ _ _; first | exact EV_capSl rfl) | (show EV _ _ ⟨_, .call ⟨.builtin .min, _, _⟩, _, _, _, _⟩ _ _ _ _; first | exact EV_min rfl rfl) | (show EV _ _ ⟨_, .call ⟨.builtin .max, _, _⟩, _, _, _, _⟩ _ _ _ _; first | exact EV_max rfl rfl) | (show EV _ _ ⟨_, .makeInterface .., _, _, _, _⟩ _ _ _ _; first | exact EV_makeInterface rfl) | (show EV _ _ ⟨_, .makeFunc .., _, _, _, _⟩ _ _ _ _; first | exact EV_makeFunc rfl rfl) | (show EV _ _ ⟨_, .typeAssert .., _, _, _, _⟩ _ _ _ _; first | exact EV_assertYes rfl | exact EV_assertNo rfl rfl) | (show EV _ _ ⟨_, .build .., _, _, _, _⟩ _ _ _ _; first | exact EV_build rfl (by simp [fillL, patch, Value.cells]; rfl)))) (hn : Nat.blt d n = true := by exact rfl) :
    WR P n ops Q S T (fuel + 1) listed M L := WR_take i hi hg hb hPO hinc he hn h
theorem a0 {o : Oper} (he : EV P n o M L d v) (h : K ((d, v) :: M) L) (hn : Nat.blt d n = true := by exact rfl) : OW P n o K M L := OW_EV he hn h
end
theorem nrB : (∀ (p : Prop) [Decidable p], (decide p = true) = p) ∧ (∀ (p : Prop) [Decidable p], (decide p = false) = ¬ p) ∧
    (∀ {α : Type} [BEq α] [LawfulBEq α] (a b : α), ((a == b) = true) = (a = b)) ∧ (∀ {α : Type} [BEq α] [LawfulBEq α] (a b : α), ((a != b) = true) = ¬ (a = b)) ∧
    (∀ {α : Type} [BEq α] [LawfulBEq α] (a b : α), ((a == b) = false) = ¬ (a = b)) ∧ (∀ {α : Type} [BEq α] [LawfulBEq α] (a b : α), ((a != b) = false) = (a = b)) ∧
    (∀ b : Bool, ((!b) = true) = (b = false)) ∧ (∀ b : Bool, ((!b) = false) = (b = true)) ∧ (∀ b : Bool, (¬ (b = true)) = (b = false)) ∧
    (∀ a b : Bool, ((a && b) = true) = (a = true ∧ b = true)) ∧ (∀ a b : Bool, ((a || b) = true) = (a = true ∨ b = true)) ∧ (∀ a b : Bool, ((a || b) = false) = (a = false ∧ b = false)) ∧
    (∀ {α : Type} (a b : α), (a ≠ b) = ¬ (a = b)) ∧ (∀ b : Bool, (true != b) = !b) ∧ (∀ b : Bool, (false != b) = b) ∧ (∀ b : Bool, (b != true) = !b) ∧ (∀ b : Bool, (b != false) = b) := by
  refine ⟨fun p _ => by simp, fun p _ => by simp, fun a b => by simp, fun a b => by simp, fun a b => by simp, fun a b => by simp, fun b => by simp, fun b => by simp, fun b => by simp, fun a b => by simp, fun a b => by simp, fun a b => by simp, fun a b => rfl, fun b => by simp, fun b => by simp, fun b => by simp, fun b => by simp⟩
end Go.Vx
namespace Go.Vx
open Go
set_option linter.all false
variable [W0]
variable {P : Program}
theorem getE_app {l r : List Value} {i : Nat} {v : Value} (h : l[i]? = some v) : (l ++ r)[i]? = some v := by
  have : i < l.length := by
    rcases Nat.lt_or_ge i l.length with h' | h'
    · exact h'
    · simp [List.getElem?_eq_none h'] at h
  rw [List.getElem?_append_left this]; exact h
theorem ow_slc {e k m : Nat} {v : Value} {xs : List Value} {C : Chunk} (h : Ow e k v m xs C) : ∃ a c, v = .slice a m c := by
  rcases h with ⟨rfl, rfl, _⟩ | ⟨b, cap, rest, rfl, _⟩
  · exact ⟨_, _, rfl⟩
  · exact ⟨_, _, rfl⟩
theorem ow_sl {e k m : Nat} {v : Value} {xs : List Value} {C : Chunk} {L : List Chunk} (h : Ow e k v m xs C) : Sl (C :: L) k v m xs := by
  rcases h with ⟨rfl, rfl, rfl, rfl⟩ | ⟨b, cap, rest, rfl, rfl, hxl, hrl, hmc, hcm⟩
  · exact .inl ⟨_, rfl, rfl, rfl⟩
  · exact .inr ⟨_, _, rfl, RdAt.cl' Fnd.here (by simp [cut]), hxl⟩
theorem rd_sub {L L' : List Chunk} (hs : ∀ x ∈ L.flatten, x ∈ L'.flatten) {a : Addr} {vs : List Value} (h : RdAt L a vs) : RdAt L' a vs := by
  rcases h with h | ⟨b, off, c, T, fr, e2, h7, h8⟩
  · exact .inl h
  · exact .inr ⟨b, off, c, T, fr, e2, hs _ h7, h8⟩
theorem sl_sub {L L' : List Chunk} (hs : ∀ x ∈ L.flatten, x ∈ L'.flatten) {k m : Nat} {v : Value} {xs : List Value} (h : Sl L k v m xs) : Sl L' k v m xs := by
  rcases h with h | ⟨a, cap, e1, h5, h6⟩
  · exact .inl h
  · exact .inr ⟨a, cap, e1, rd_sub hs h5, h6⟩
theorem sl_there {L : List Chunk} {C : Chunk} {k m : Nat} {v : Value} {xs : List Value} (h : Sl L k v m xs) : Sl (C :: L) k v m xs :=
  sl_sub (fun x hx => by simp only [List.flatten_cons, List.mem_append]; exact .inr hx) h
omit [W0] in
/-- Integers as cells. -/
def intsN (xs : List Int) : List Value := xs.map (Value.int .i64)
theorem sl_cells {L : List Chunk} {k m cap b : Nat} {c : Array Value} {T : TypeId} {fr : Nat × Nat} {xs : List Value} (hf : Fnd L b (.cells c T fr)) (hl : xs.length = m * k) (hc : c.toList.take xs.length = xs) : Sl L k (.slice (some ⟨b, 0, none⟩) m cap) m xs := by
  refine .inr ⟨_, cap, rfl, .inr ⟨b, 0, c, T, fr, rfl, hf, fun j u hj => ?_⟩, hl⟩
  rw [← hc] at hj
  rw [List.getElem?_take] at hj
  split at hj
  · simpa using hj
  · simp at hj
theorem GvP.of {f : FuncId} {args : Array Value} {L L' : List Chunk} {v : Value} (h : GvP P f args L' v) (h1 : Inc L' L) (h2 : Inc L L') : GvP P f args L v :=
  ⟨fun w hw => (h.out w (h1.holds hw)).mono fun _ _ he => by
    obtain ⟨v', L'', e1, ⟨e2, e3⟩, hw'⟩ := he
    subst e2 e3
    exact ⟨v', L, e1, ⟨rfl, rfl⟩, h2.holds hw'⟩⟩
theorem two {w : World} {A B : Chunk} {L : List Chunk} : Holds w ((A ++ B) :: L) ↔ Holds w (A :: B :: L) := by
  simp [Holds, List.append_assoc]
end Go.Vx
namespace Go.Proofs.Ytbdpjbmfhnbheaa
open Go Go.Vx Go.ChangeShapes Go.WideShapes Go.ChangeAt Go.RowKit
set_option maxRecDepth 4000
set_option linter.all false
def blks (W : World) : Chunk := W.heap.toList.zipIdx.map fun x => (x.2, x.1)
theorem blks_mem {W : World} {b : Nat} {o : Obj} : (b, o) ∈ blks W ↔ W.heap[b]? = some o := by
  unfold blks
  rw [List.mem_map]
  constructor
  · rintro ⟨⟨x, i⟩, hm, he⟩
    simp at he
    obtain ⟨rfl, rfl⟩ := he
    have := List.mk_mem_zipIdx_iff_getElem?.1 hm
    simpa using this
  · intro h
    exact ⟨(o, b), List.mk_mem_zipIdx_iff_getElem?.2 (by simpa using h), rfl⟩
theorem blks_keys (W : World) : ((blks W).map Prod.fst).Nodup := by
  have : (blks W).map Prod.fst = List.range' 0 W.heap.toList.length := by
    unfold blks
    rw [List.map_map]
    exact List.zipIdx_map_snd 0 _
  rw [this]
  exact List.nodup_range'
structure Kept (W W' : World) : Prop where
  os : W'.os = W.os
  output : W'.output = W.output
  block : ∀ k, k < W.heap.size → W'.heap[k]? = W.heap[k]?
theorem bridge {P : Program} {f : FuncId} {args : Array Value} {W : World} {v : Value} (h : ∀ [W0], GvP P f args [blks W] v) : Calls P f args W fun e W' => e = .returned v ∧ Kept W W' := by
  letI i : W0 := ⟨W.os, W.output⟩
  have h0 : GvP P f args [blks W] v := h
  have hH : Holds W [blks W] := ⟨by simpa using blks_keys W, fun x hx => blks_mem.1 (by simpa using hx), rfl, rfl⟩
  refine (h0.out W hH).mono fun e W' he => ?_
  obtain ⟨v', L', rfl, ⟨rfl, rfl⟩, hw⟩ := he
  refine ⟨rfl, hw.2.2.1, hw.2.2.2, fun k hk => ?_⟩
  have hm : W.heap[k]? = some W.heap[k] := by simp [hk]
  rw [hm]
  exact hw.2.1 (k, W.heap[k]) (by simpa using blks_mem.2 hm)
theorem Kept.frame {W W' : World} (h : Kept W W') (may : MemPlace → Prop) : W.keptBut W' may := by
  refine ⟨h.os, h.output, fun i hi => ?_⟩
  rw [h.block i hi]
  split <;> simp_all
theorem Kept.same {W W' : World} (h : Kept W W') {p : MemPlace} (hp : p.block < W.heap.size) : W.sameAt W' p := by
  cases p with
  | cell b o => exact World.cell?_of_block (w := W) (h.block b hp)
  | map b => exact h.block b hp
theorem Kept.trod {H : Type} {enc : TypeId × Value → H} {P : Program} {t : TypeId} (hl : laidOutB P = true) (hr : P.readableRec t = true) (hrow : t < P.types.size) {W W' : World} {v : Value} {d : DataW H} {ps : List MemPlace}
    (h : DataW.Trod enc P W 0 (fun _ => true) true t v d ps) (hb : Kept W W') (hlt : ∀ x ∈ ps, x.block < W.heap.size) :
    DataW.Trod enc P W' 0 (fun b => decide (b < W.heap.size)) true t v d ps :=
  WideElems.Trod_stays hl hr hrow h (fun x hx => hb.same (hlt x hx)) (fun x hx => by simpa using hlt x hx)
theorem Try.own : ownKnob Try.prog.godebug = none := by kernel_rfl
theorem Try.laidOut : laidOutB Try.prog = true := by kernel_rfl
end Go.Proofs.Ytbdpjbmfhnbheaa
namespace Go.Proofs.Ytbdpjbmfhnbheaa
open Go Go.Vx Go.ChangeShapes Go.WideShapes Go.ChangeAt Go.RowKit
set_option maxRecDepth 4000
set_option linter.all false
theorem i64_of_wf {n : Int} (h : (Lit.int .i64 n).wf = true) : -9223372036854775808 ≤ n ∧ n ≤ 9223372036854775807 := by
  simp [Lit.wf, IntKind.min, IntKind.max, IntKind.signed, IntKind.bits] at h
  omega
end Go.Proofs.Ytbdpjbmfhnbheaa
namespace Go.Vx
open Go
set_option linter.all false
variable [W0]
variable {P : Program}
inductive ResL (P : Program) (M : List (Nat × Value)) (L : List Chunk) : List ResultVar → List Value → Prop
  | nil : ResL P M L [] []
  | tmp {t : Nat} {v : Value} {rs : List ResultVar} {vs : List Value} : lk M t = some v → ResL P M L rs vs → ResL P M L (.tmp t :: rs) (v :: vs)
  | agg {x T k b off : Nat} {us : List Value} {rs : List ResultVar} {vs : List Value} : aggT P T = true ∧ (P.info? T).map (·.size) = some k → lk M x = some (.pointer (some ⟨b, off, none⟩)) → RdAt L ⟨b, off, none⟩ us → us.length = k → ResL P M L rs vs → ResL P M L (.cell x T :: rs) (.agg us.toArray :: vs)
  | one {x T b off : Nat} {l : List Value} {U : TypeId} {v : Value} {rs : List ResultVar} {vs : List Value} : aggB P T = false → lk M x = some (.pointer (some ⟨b, off, none⟩)) → Fnd L b (cl l U) → nth l off = some v → ResL P M L rs vs → ResL P M L (.cell x T :: rs) (v :: vs)
theorem resL_run {n : Nat} {M : List (Nat × Value)} {L : List Chunk} {a : Act} {w : World} (ha : St n M a) (hw : Holds w L) {rs : List ResultVar} {vs : List Value} (h : ResL P M L rs vs) :
    (rs.mapM (resOne a.tmps)).run P w = .ok vs w := by
  induction h with
  | nil => rfl
  | tmp h1 _ ih => simp [List.mapM_cons, ih, resOne, Array.getD_eq_getD_getElem?, ha.get _ _ h1]
  | @agg x T k b off us rs vs hT h1 h2 h3 _ ih =>
    have hrun := run_loadCells_list (P := P) w ⟨b, off, none⟩ us (h2.cells hw)
    rw [h3] at hrun
    simp [List.mapM_cons, ih, resOne, Array.getD_eq_getD_getElem?, ha.get _ _ h1, asAddr, loadVar, isAgg_true hT.1, sizeOf_run hT.2, hrun]
  | @one x T b off l U v rs vs hT h1 h2 h3 _ ih =>
    have hcell : w.cell? ⟨b, off, none⟩ = some v := by
      rw [cell_of (h2.get hw)]
      simpa [nth_eq] using h3
    simp [List.mapM_cons, ih, resOne, Array.getD_eq_getD_getElem?, ha.get _ _ h1, asAddr, loadVar, isAgg_false hT, hcell]
theorem resultsL_run {n : Nat} {M : List (Nat × Value)} {L : List Chunk} {a : Act} {w : World} {fn : Func} {rs : List ResultVar} {vs : List Value} (ha : St n M a) (hw : Holds w L) (hr : fn.results = rs.toArray) (h : ResL P M L rs vs) :
    (results fn a.tmps).run P w = .ok (tupled vs) w := by
  rw [results_eq, hr]
  simp only [List.mapM_toArray, Sem.run_bind, Sem.run_map, resL_run ha hw h, Result.andThen_ok, Sem.run_pure]
  match vs with
  | [] => simp [tupled]
  | [v] => simp [tupled]
  | v :: u :: r => simp [tupled]
theorem WQ_retC {n : Nat} {M : List (Nat × Value)} {L : List Chunk} {fn : Func} {post : Value → List Chunk → Prop} {rs : List ResultVar} {vs : List Value} (hr : fn.results = rs.toArray) (h : ResL P M L rs vs) (hp : ∃ L', (∀ w, Holds w L → Holds w L') ∧ post (tupled vs) L') :
    WQ n (bodyPost P fn (fun e w' => ∃ v L', e = .returned v ∧ post v L' ∧ Holds w' L') .ret) M L := ⟨fun _ w ha hw => by
  obtain ⟨L', hi, hp⟩ := hp
  exact ⟨ha.defers, tupled vs, resultsL_run ha hw hr h, _, L', rfl, hp, hi w hw⟩⟩
section
variable {n : Nat} {Q : Exit → Act → World → Prop} {M : List (Nat × Value)} {L : List Chunk} {d : Nat} {v : Value}
theorem WR_u {S : List Chunk} {ops : List Oper} {T : List Nat} {fuel : Nat} {listed : Array Bool} (i : Nat) {j : Nat} {b : Bool} {o : Oper} (h : WR P n ops Q S T fuel (listed.setIfInBounds i true) ((d, v) :: M) L)
    (hi : ops[i]? = some o := by exact rfl) (hg : o.guard = some (j, b) := by exact rfl) (hy : yl ops M j = some (.bool b) := by exact rfl) (hb : takeB ops T listed i = true := by kernel_rfl) (hPO : PO Q := by exact (by repeat (first | with_reducible exact PO.body | with_reducible exact RP_po | with_reducible refine PO.then ?_ | with_reducible refine PO.block ?_))) (hinc : Inc S L := by exact (by repeat (first | exact Inc.refl | exact Inc.nil | (show Inc (_ :: _) _; refine Inc.cons (by repeat (first | exact Take.here | apply Take.there)) ?_) | refine Inc.skip ?_))) (he : EV P n o M S d v := by exact (by first | (show EV _ _ ⟨_, .move _, _, _, _, _⟩ _ _ _ _; first | exact EV_move rfl) | (show EV _ _ ⟨_, .assign _, _, _, _, _⟩ _ _ _ _; first | exact EV_assign rfl) | (show EV _ _ ⟨_, .nilCheck _, _, _, _, _⟩ _ _ _ _; first | exact EV_nilCheck rfl) | (show EV _ _ ⟨_, .fieldAddr .., _, _, _, _⟩ _ _ _ _; first | exact EV_fieldAddr0 rfl | exact EV_fieldAddr rfl) | (show EV _ _ ⟨_, .load .., _, _, _, _⟩ _ _ _ _; first | exact EV_loadc rfl (by repeat (first | assumption | exact Fnd.here | refine Fnd.there ?_)) rfl | exact EV_loadAggC rfl (by repeat (first | assumption | exact Fnd.here | refine Fnd.there ?_)) rfl) | (show EV _ _ ⟨_, .binOp .., _, _, _, _⟩ _ _ _ _; first | exact EV_cmp rfl rfl rfl | exact EV_ari64 rfl rfl rfl (by omega) | exact EV_shr rfl rfl (by decide) (shr_lit (by omega) (by simp [IntKind.bits]; rfl)) | exact EV_strEq rfl rfl | exact EV_strNe rfl rfl | exact EV_strLt rfl rfl | exact EV_sliceEqNil rfl rfl | exact EV_sliceNeNil rfl rfl | exact EV_ptrEqNil rfl rfl | exact EV_ptrNeNil rfl rfl | exact EV_boolEq rfl rfl | exact EV_boolNe rfl rfl) | (show EV _ _ ⟨_, .convert .., _, _, _, _⟩ _ _ _ _; first | exact EV_convII rfl (wrap_i64 (by omega) (by omega)) | exact EV_convII rfl (wrap_u64 (by omega) (by omega)) | exact EV_convII rfl rfl) | (show EV _ _ ⟨_, .extract .., _, _, _, _⟩ _ _ _ _; first | exact EV_extract rfl rfl) | (show EV _ _ ⟨_, .unOp .., _, _, _, _⟩ _ _ _ _; first | exact EV_not rfl) | (show EV _ _ ⟨_, .pick .., _, _, _, _⟩ _ _ _ _; first | exact EV_pick rfl rfl) | (show EV _ _ ⟨_, .call ⟨.builtin .len, _, _⟩, _, _, _, _⟩ _ _ _ _; first | exact EV_lenSl rfl | exact EV_lenStr rfl) | (show EV _ _ ⟨_, .call ⟨.builtin .cap, _, _⟩, _, _, _, _⟩ _ _ _ _; first | exact EV_capSl rfl) | (show EV _ _ ⟨_, .call ⟨.builtin .min, _, _⟩, _, _, _, _⟩ _ _ _ _; first | exact EV_min rfl rfl) | (show EV _ _ ⟨_, .call ⟨.builtin .max, _, _⟩, _, _, _, _⟩ _ _ _ _; first | exact EV_max rfl rfl) | (show EV _ _ ⟨_, .makeInterface .., _, _, _, _⟩ _ _ _ _; first | exact EV_makeInterface rfl) | (show EV _ _ ⟨_, .makeFunc .., _, _, _, _⟩ _ _ _ _; first | exact EV_makeFunc rfl rfl) | (show EV _ _ ⟨_, .typeAssert .., _, _, _, _⟩ _ _ _ _; first | exact EV_assertYes rfl | exact EV_assertNo rfl rfl) | (show EV _ _ ⟨_, .build .., _, _, _, _⟩ _ _ _ _; first | exact EV_build rfl (by simp [fillL, patch, Value.cells]; rfl)))) (hn : Nat.blt d n = true := by exact rfl) :
    WR P n ops Q S T (fuel + 1) listed M L := WR_takeOn i hi hg hy hb hPO hinc he hn h
theorem WR_v {S : List Chunk} {ops : List Oper} {T : List Nat} {fuel : Nat} {listed : Array Bool} (i : Nat) {j : Nat} {b : Bool} {o : Oper} (h : WR P n ops Q S T fuel (listed.setIfInBounds i true) ((d, undef) :: M) L)
    (hi : ops[i]? = some o := by exact rfl) (hg : o.guard = some (j, b) := by exact rfl) (hy : yl ops M j = some (.bool (!b)) := by exact rfl) (hd : o.dst = some d := by exact rfl) (hb : takeB ops T listed i = true := by kernel_rfl) (hPO : PO Q := by exact (by repeat (first | with_reducible exact PO.body | with_reducible exact RP_po | with_reducible refine PO.then ?_ | with_reducible refine PO.block ?_))) (hinc : Inc S L := by exact (by repeat (first | exact Inc.refl | exact Inc.nil | (show Inc (_ :: _) _; refine Inc.cons (by repeat (first | exact Take.here | apply Take.there)) ?_) | refine Inc.skip ?_))) (hn : Nat.blt d n = true := by exact rfl) :
    WR P n ops Q S T (fuel + 1) listed M L := WR_takeOff i hi hg hy hd hb hPO hinc hn h
theorem WR_oneOn {S : List Chunk} {ops : List Oper} {T : List Nat} {fuel : Nat} {listed : Array Bool} (i : Nat) {j : Nat} {b : Bool} {o : Oper} (hr : Region.ready .any ops.toArray listed = [i]) (hi : ops[i]? = some o) (hg : o.guard = some (j, b)) (hy : yl ops M j = some (.bool b)) (h : OW P n o (WRk P n ops Q S T fuel (listed.setIfInBounds i true)) M L) : WR P n ops Q S T (fuel + 1) listed M L := ⟨fun a w ha hw => by
  refine ⟨fun h0 => absurd (hr ▸ h0) (by simp), fun j' hj => ?_⟩
  rw [hr] at hj
  simp only [List.mem_singleton] at hj
  subst hj
  unfold wpOp
  simp only [List.getElem?_toArray, hi]
  rw [if_pos (by simp [Region.wanted, hg, yielded_of ha hy])]
  exact .inl (h.out a w _ Q ha hw fun M' L' hk => ⟨fun a' w' ha' hw' => ⟨fun _ => hk.inc.holds hw', hk.out.out a' w' ha' hw'⟩⟩)⟩
end
end Go.Vx
namespace Go.So
set_option linter.all false
variable {α : Type}
def swp (f : Nat → α) (i j : Nat) : Nat → α := fun k => if k = i then f j else if k = j then f i else f k
def upd (f : Nat → α) (i : Nat) (y : α) : Nat → α := fun k => if k = i then y else f k
theorem upd_swp (f : Nat → α) (i j : Nat) : upd (upd f i (f j)) j (f i) = swp f i j := by
  funext k
  simp only [upd, swp]
  by_cases h1 : k = j
  · by_cases h2 : k = i
    · subst h1; subst h2; simp
    · rw [if_pos h1, if_neg h2, if_pos h1]
  · rw [if_neg h1]
    by_cases h2 : k = i
    · rw [if_pos h2, if_pos h2]
    · rw [if_neg h2, if_neg h2, if_neg h1]
inductive Mv (a b : Nat) : (Nat → α) → (Nat → α) → Prop
  | refl (f) : Mv a b f f
  | step {f g i j} : Mv a b f g → a ≤ i → i < b → a ≤ j → j < b → Mv a b f (swp g i j)
theorem Mv.one {a b i j : Nat} (f : Nat → α) (h1 : a ≤ i) (h2 : i < b) (h3 : a ≤ j) (h4 : j < b) : Mv a b f (swp f i j) := .step (.refl f) h1 h2 h3 h4
theorem Mv.trans {a b : Nat} {f g h : Nat → α} (h1 : Mv a b f g) (h2 : Mv a b g h) : Mv a b f h := by
  induction h2 with
  | refl => exact h1
  | step _ p q r s ih => exact ih.step p q r s
theorem Mv.mono {a b c d : Nat} {f g : Nat → α} (h : Mv a b f g) (h1 : c ≤ a) (h2 : b ≤ d) : Mv c d f g := by
  induction h with
  | refl => exact .refl _
  | step _ p q r s ih => exact ih.step (by omega) (by omega) (by omega) (by omega)
theorem Mv.out {a b : Nat} {f g : Nat → α} (h : Mv a b f g) {k : Nat} (hk : k < a ∨ b ≤ k) : g k = f k := by
  induction h with
  | refl => rfl
  | step _ p q r s ih =>
    simp only [swp]
    rw [if_neg (by omega), if_neg (by omega)]
    exact ih
theorem Mv.all {a b : Nat} {f g : Nat → α} (h : Mv a b f g) {p : α → Prop} (hp : ∀ k, a ≤ k → k < b → p (f k)) : ∀ k, a ≤ k → k < b → p (g k) := by
  induction h with
  | refl => exact hp
  | @step g i j _ h1 h2 h3 h4 ih =>
    intro k hk1 hk2
    simp only [swp]
    split
    · exact ih j h3 h4
    · split
      · exact ih i h1 h2
      · exact ih k hk1 hk2
theorem swp_perm (f : Nat → α) {i j n : Nat} (hi : i < n) (hj : j < n) : ((List.range n).map (swp f i j)).Perm ((List.range n).map f) := by
  have e : swp f i j = fun k => f (swp id i j k) := by
    funext k
    simp only [swp, id]
    split
    · rfl
    · split <;> rfl
  have hs : ((List.range n).map (swp id i j)).Perm (List.range n) := by
    refine (List.perm_ext_iff_of_nodup ?_ List.nodup_range).2 fun x => ?_
    · refine List.Pairwise.map _ (fun a b hab => ?_) List.nodup_range
      intro he
      apply hab
      simp only [swp, id] at he
      split at he <;> split at he <;> (try split at he) <;> (try split at he) <;> omega
    · simp only [List.mem_map, List.mem_range]
      constructor
      · rintro ⟨k, hk, rfl⟩
        simp only [swp, id]
        split
        · exact hj
        · split
          · exact hi
          · exact hk
      · intro hx
        refine ⟨swp id i j x, ?_, ?_⟩
        · simp only [swp, id]
          split
          · exact hj
          · split
            · exact hi
            · exact hx
        · simp only [swp, id]
          split <;> (try split) <;> (try split) <;> (try split) <;> omega
  have e2 : (List.range n).map (fun k => f (swp id i j k)) = ((List.range n).map (swp id i j)).map f := by rw [List.map_map]; rfl
  rw [e, e2]
  exact hs.map f
theorem Mv.perm {a b n : Nat} {f g : Nat → α} (h : Mv a b f g) (hb : b ≤ n) : ((List.range n).map g).Perm ((List.range n).map f) := by
  induction h with
  | refl => exact .refl _
  | step _ p q r s ih => exact (swp_perm _ (by omega) (by omega)).trans ih
def swr (f : Nat → α) (a b : Nat) : Nat → Nat → α
  | 0 => f
  | n + 1 => swp (swr f a b n) (a + n) (b + n)
theorem swr_mv (f : Nat → α) {a b c d : Nat} : ∀ n, c ≤ a → c ≤ b → a + n ≤ d → b + n ≤ d → Mv c d f (swr f a b n)
  | 0, _, _, _, _ => .refl f
  | n + 1, h1, h2, h3, h4 => (swr_mv f n h1 h2 (by omega) (by omega)).step (by omega) (by omega) (by omega) (by omega)
theorem swr_at (f : Nat → α) {a b : Nat} : ∀ n, a + n ≤ b → ∀ k, swr f a b n k = if a ≤ k ∧ k < a + n then f (k - a + b) else if b ≤ k ∧ k < b + n then f (k - b + a) else f k
  | 0, _, k => by
    simp only [swr]
    rw [if_neg (by omega), if_neg (by omega)]
  | n + 1, h, k => by
    simp only [swr, swp]
    by_cases h1 : k = a + n
    · rw [if_pos h1, swr_at f n (by omega), if_neg (by omega), if_neg (by omega), if_pos (by omega)]
      congr 1; omega
    · rw [if_neg h1]
      by_cases h2 : k = b + n
      · rw [if_pos h2, swr_at f n (by omega), if_neg (by omega), if_neg (by omega), if_neg (by omega), if_pos (by omega)]
        congr 1; omega
      · rw [if_neg h2, swr_at f n (by omega)]
        have eA : (a ≤ k ∧ k < a + n) = (a ≤ k ∧ k < a + (n + 1)) := by apply propext; omega
        have eB : (b ≤ k ∧ k < b + n) = (b ≤ k ∧ k < b + (n + 1)) := by apply propext; omega
        simp only [eA, eB]
def rot (f : Nat → α) (a m b : Nat) : Nat → α := fun k => if a ≤ k ∧ k < a + (b - m) then f (k - a + m) else if a + (b - m) ≤ k ∧ k < b then f (k - (b - m)) else f k
theorem rot_more (f : Nat → α) {m i j : Nat} (hj : j < i) (hi : i ≤ m) (h0 : 0 < j) : rot (swr f (m - i) m j) (m - (i - j)) m (m + j) = rot f (m - i) m (m + j) := by
  funext k
  simp only [rot]
  have hs := swr_at f (a := m - i) (b := m) j (by omega)
  by_cases c1 : k < m - i
  · rw [if_neg (by omega), if_neg (by omega), hs, if_neg (by omega), if_neg (by omega), if_neg (by omega), if_neg (by omega)]
  by_cases c2 : k < m - i + j
  · rw [if_neg (by omega), if_neg (by omega), hs, if_pos (by omega), if_pos (by omega)]
  by_cases c3 : k < m - i + j + j
  · rw [if_pos (by omega), hs, if_neg (by omega), if_pos (by omega), if_neg (by omega), if_pos (by omega)]
    congr 1; omega
  by_cases c4 : k < m + j
  · rw [if_neg (by omega), if_pos (by omega), hs, if_neg (by omega), if_neg (by omega), if_neg (by omega), if_pos (by omega)]
  · rw [if_neg (by omega), if_neg (by omega), hs, if_neg (by omega), if_neg (by omega), if_neg (by omega), if_neg (by omega)]
theorem rot_less (f : Nat → α) {m i j : Nat} (hj : i < j) (hi : i ≤ m) (h0 : 0 < i) : rot (swr f (m - i) (m + j - i) i) (m - i) m (m + (j - i)) = rot f (m - i) m (m + j) := by
  funext k
  simp only [rot]
  have hs := swr_at f (a := m - i) (b := m + j - i) i (by omega)
  by_cases c1 : k < m - i
  · rw [if_neg (by omega), if_neg (by omega), hs, if_neg (by omega), if_neg (by omega), if_neg (by omega), if_neg (by omega)]
  by_cases c2 : k < m - i + (j - i)
  · rw [if_pos (by omega), hs, if_neg (by omega), if_neg (by omega), if_pos (by omega)]
  by_cases c3 : k < m + (j - i)
  · rw [if_neg (by omega), if_pos (by omega), hs, if_pos (by omega), if_pos (by omega)]
    congr 1; omega
  by_cases c4 : k < m + j
  · rw [if_neg (by omega), if_neg (by omega), hs, if_neg (by omega), if_pos (by omega), if_neg (by omega), if_pos (by omega)]
    congr 1; omega
  · rw [if_neg (by omega), if_neg (by omega), hs, if_neg (by omega), if_neg (by omega), if_neg (by omega), if_neg (by omega)]
theorem rot_same (f : Nat → α) {m i : Nat} (hi : i ≤ m) : swr f (m - i) m i = rot f (m - i) m (m + i) := by
  funext k
  simp only [rot]
  have e : m + i - m = i := by omega
  rw [swr_at f i (by omega), e]
  repeat' split
  all_goals first
    | rfl
    | (exfalso; omega)
    | (congr 1; omega)
def Srt (key : α → Nat) (a b : Nat) (f : Nat → α) : Prop := ∀ i j, a ≤ i → i ≤ j → j < b → key (f i) ≤ key (f j)
theorem Srt.sub {key : α → Nat} {a b c d : Nat} {f : Nat → α} (h : Srt key a b f) (h1 : a ≤ c) (h2 : d ≤ b) : Srt key c d f := fun i j p q r => h i j (by omega) q (by omega)
theorem Srt.join {key : α → Nat} {a m b : Nat} {f : Nat → α} (h1 : Srt key a m f) (h2 : Srt key m b f) (h3 : ∀ i j, a ≤ i → i < m → m ≤ j → j < b → key (f i) ≤ key (f j)) : Srt key a b f := by
  intro i j hi hij hj
  by_cases c : j < m
  · exact h1 i j hi hij c
  by_cases c' : i < m
  · exact h3 i j hi c' (by omega) hj
  · exact h2 i j (by omega) hij hj
theorem Srt.congr {key : α → Nat} {a b : Nat} {f g : Nat → α} (h : Srt key a b f) (he : ∀ k, a ≤ k → k < b → g k = f k) : Srt key a b g := fun i j p q r => by
  rw [he i p (by omega), he j (by omega) r]; exact h i j p q r
end Go.So
namespace Go.Vx
set_option linter.all false
theorem iC [W0] {S L : List Chunk} (h : Inc S L := by exact (by repeat (first | exact Inc.refl | exact Inc.nil | (show Inc (_ :: _) _; refine Inc.cons (by repeat (first | exact Take.here | apply Take.there)) ?_) | refine Inc.skip ?_))) : Inc S L := h
theorem iS [W0] {M M2 : List (Nat × Value)} (h : Sub M M2 := by exact (by repeat (first | exact Sub.nil | refine Sub.cons rfl ?_ | refine Sub.cons (lk_int rfl (by first | omega | (dsimp only; omega))) ?_))) : Sub M M2 := h
theorem iH [W0] {S L : List Chunk} {w : World} (hw : Holds w L) (h : Inc S L := by exact (by repeat (first | exact Inc.refl | exact Inc.nil | (show Inc (_ :: _) _; refine Inc.cons (by repeat (first | exact Take.here | apply Take.there)) ?_) | refine Inc.skip ?_))) : Holds w S := h.holds hw
section
variable [W0] {P : Program} {n : Nat} {Q : Exit → Act → World → Prop} {M : List (Nat × Value)} {L : List Chunk} {K : List (Nat × Value) → List Chunk → Prop}
variable {d : Nat} {ty : TypeId} {ps : String} {af : Array Edge} {g : Option (Nat × Bool)} {x y : Operand} {v : Value}
theorem jA {ops : Array Oper} {rest : List Oper} {o : Oper} (h : OW P n o (WL P n ops Q rest) M L) (hg : o.guard = none := by exact rfl) : WL P n ops Q (o :: rest) M L := WL_plain hg h
theorem jB {ops : Array Oper} (h : WQ n (Q .normal) M L) : WL P n ops Q [] M L := WL_nil h
theorem jC {ops : List Oper} {rest : List Oper} {o : Oper} {j : Nat} {b : Bool} (h : OW P n o (WL P n ops.toArray Q rest) M L) (hg : o.guard = some (j, b) := by exact rfl) (hy : yl ops M j = some (.bool b) := by exact rfl) : WL P n ops.toArray Q (o :: rest) M L := WL_on hg hy h
theorem jD {ops : List Oper} {rest : List Oper} {o : Oper} {j d : Nat} {b : Bool} (h : WL P n ops.toArray Q rest ((d, undef) :: M) L) (hg : o.guard = some (j, b) := by exact rfl) (hd : o.dst = some d := by exact rfl) (hy : yl ops M j = some (.bool (!b)) := by exact rfl)
    (hn : Nat.blt d n = true := by exact rfl) : WL P n ops.toArray Q (o :: rest) M L := WL_off hg hd hy hn h
theorem jE {ops : List Oper} {rest : List Oper} {o : Oper} {j d : Nat} {b : Bool} (h : WL P n ops.toArray Q rest ((d, undef) :: M) L) (hg : o.guard = some (j, b) := by exact rfl) (hd : o.dst = some d := by exact rfl) (hy : yl ops M j = some undef := by exact rfl)
    (hn : Nat.blt d n = true := by exact rfl) : WL P n ops.toArray Q (o :: rest) M L := WL_offu hg hd hy hn h
theorem jF {ops : List Oper} {rest : List Oper} {o : Oper} {j : Nat} {b : Bool} (h : WL P n ops.toArray Q rest M L) (hg : o.guard = some (j, b) := by exact rfl) (hd : o.dst = none := by exact rfl) (hy : yl ops M j = some (.bool (!b)) := by exact rfl) :
    WL P n ops.toArray Q (o :: rest) M L := WL_off' hg hd hy h
theorem jG {ops : List Oper} {rest : List Oper} {o : Oper} {j : Nat} {b c : Bool} (ht : c = true → WL P n ops.toArray Q (o :: rest) M L) (hf : c = false → WL P n ops.toArray Q (o :: rest) M L) (hg : o.guard = some (j, b) := by exact rfl) (hy : yl ops M j = some (.bool c) := by exact rfl) :
    WL P n ops.toArray Q (o :: rest) M L := WL_split hg hy ht hf
theorem jI {t : TypeId} [hs : SZ P t 1] {b off : Nat} {l : List Value} {T : TypeId} {L' : List Chunk} (h : K M L') (hx : ev M x = some (.pointer (some ⟨b, off, none⟩)) := by exact rfl) (hy : ev M y = some v := by exact rfl) (hv : v.oneCell' = true := by exact rfl)
    (hu : Upd L b (cl l T) (cl (l.set off v) T) L' := by exact (by repeat (first | exact Upd.here | apply Upd.there))) (hlt : off < l.length := by first | (simp; done) | (simp; omega)) : OW P n ⟨none, .store t x y, ty, ps, af, g⟩ K M L := OW_store hx hy hv hu hlt h
theorem jJ {t k : Nat} [hag : AG P t k] {b off : Nat} {l vs : List Value} {T : TypeId} {L' : List Chunk} (h : K M L') (hx : ev M x = some (.pointer (some ⟨b, off, none⟩)) := by exact rfl) (hy : ev M y = some (.agg vs.toArray) := by exact rfl) (hl : vs.length = k := by exact rfl)
    (h1 : ones vs = true := by exact rfl) (hu : Upd L b (cl l T) (cl (patch l off vs) T) L' := by exact (by repeat (first | exact Upd.here | apply Upd.there))) (hfit : off + vs.length ≤ l.length := by first | (simp [Value.cells]; done) | (simp [Value.cells]; omega)) :
    OW P n ⟨none, .store t x y, ty, ps, af, g⟩ K M L := OW_storeAgg hx hy hl h1 hu hfit h
theorem jK {t : Nat} {z : Value} [hz : ZV P t z] (h : ∀ b, K ((d, .pointer (some ⟨b, 0, none⟩)) :: M) ([(b, cl z.cells.toList t)] :: L)) (hn : Nat.blt d n = true := by exact rfl) :
    OW P n ⟨some d, .alloc t, ty, ps, af, g⟩ K M L := OW_alloc hn h
theorem jL {t : Nat} (h : ∀ b, K ((d, .pointer (some ⟨b, 0, none⟩)) :: M) ([(b, cl v.cells.toList t)] :: L)) (hx : ev M x = some v := by exact rfl) (hn : Nat.blt d n = true := by exact rfl) :
    OW P n ⟨some d, .box t x, ty, ps, af, g⟩ K M L := OW_box hx hn h
theorem jM {x y : Code} (h : WC P n x (Exit.then (y.wp P Q) Q) M L) : WC P n (.seq x y) Q M L := WC_seq h
theorem jN {id : Nat} {l : List Oper} (h : WL P n l.toArray Q l M L) : WC P n (.region id l.toArray false) Q M L := WC_region h
theorem jO {c : Operand} {x y : Code} (ht : WC P n x Q M L) (hc : ev M c = some (.bool true) := by exact rfl) : WC P n (.cond c x y) Q M L := WC_true hc ht
theorem jP {c : Operand} {x y : Code} (ht : WC P n y Q M L) (hc : ev M c = some (.bool false) := by exact rfl) : WC P n (.cond c x y) Q M L := WC_false hc ht
theorem jR (h : WQ n (Q .normal) M L) : WC P n .skip Q M L := WC_skip h
theorem jS (h : WQ n (Q .ret) M L) : WC P n .ret Q M L := WC_ret h
theorem jT {id : Nat} (h : WQ n (Q (.exit id)) M L) : WC P n (.exit id) Q M L := WC_exit h
theorem jU {id : Nat} {c : Code} (h : WC P n c (Exit.inBlock id Q) M L) : WC P n (.block id c) Q M L := WC_block h
theorem jV {K : Act → World → Prop} (h : WQ n K M L) : WQ n (Exit.then K Q .normal) M L := WQ_then_normal h
theorem jW {c : Code} (h : WC P n c Q M L) : WQ n (c.wp P Q) M L := WQ_code h
theorem jX {K : Act → World → Prop} (h : WQ n (Q .ret) M L) : WQ n (Exit.then K Q .ret) M L := WQ_then_ret h
theorem jY {i : Nat} (h : WQ n (Q .ret) M L) : WQ n (Exit.inBlock i Q .ret) M L := WQ_block_ret h
theorem jZ {K : Act → World → Prop} {id : Nat} (h : WQ n (Q (.exit id)) M L) : WQ n (Exit.then K Q (.exit id)) M L := WQ_then_exit h
theorem kA {i : Nat} (h : WQ n (Q .normal) M L) : WQ n (Exit.inBlock i Q (.exit i)) M L := WQ_block_hit h
theorem kB {i j : Nat} (h : WQ n (Q (.exit j)) M L) (hne : Nat.beq j i = false := by with_unfolding_all exact rfl) : WQ n (Exit.inBlock i Q (.exit j)) M L := WQ_block_miss hne h
theorem kC {i : Nat} (h : WQ n (Q .normal) M L) : WQ n (Exit.inBlock i Q .normal) M L := WQ_block_normal h
structure Wr (q : Prop) : Prop where out : q
theorem kW {p q : Prop} (h : q) (s : Wr q → p := by (intro h9; (first | (show WL _ _ _ _ _ _ _; first | refine jA ?_ | refine jB ?_ | refine jC ?_ | refine jD ?_ | refine jE ?_ | refine jF ?_) | (show OW _ _ _ _ _ _; first | refine OW_E ?_ | refine jI ?_ | refine jJ ?_) | (show WC _ _ _ _ _ _; first | refine jM ?_ | refine jN ?_ | refine jO ?_ | refine jP ?_ | refine jR ?_ | refine jS ?_ | refine jT ?_ | refine jU ?_) | (show WQ _ _ _ _; with_reducible first | refine jV ?_ | refine jW ?_ | refine jX ?_ | refine jY ?_ | refine jZ ?_ | refine kA ?_ | refine kB ?_ | refine kC ?_)); (repeat (first | (show WL _ _ _ _ _ _ _; first | refine jA ?_ | refine jB ?_ | refine jC ?_ | refine jD ?_ | refine jE ?_ | refine jF ?_) | (show OW _ _ _ _ _ _; first | refine OW_E ?_ | refine jI ?_ | refine jJ ?_) | (show WC _ _ _ _ _ _; first | refine jM ?_ | refine jN ?_ | refine jO ?_ | refine jP ?_ | refine jR ?_ | refine jS ?_ | refine jT ?_ | refine jU ?_) | (show WQ _ _ _ _; with_reducible first | refine jV ?_ | refine jW ?_ | refine jX ?_ | refine jY ?_ | refine jZ ?_ | refine kA ?_ | refine kB ?_ | refine kC ?_))); exact h9.out)) : p := s ⟨h⟩
theorem kY {p q : Prop} (h : q) (s : Wr q → p := by (intro h9; (first | (show WL _ _ _ _ _ _ _; first | refine jA ?_ | refine jB ?_ | refine jC ?_ | refine jD ?_ | refine jE ?_ | refine jF ?_) | (show OW _ _ _ _ _ _; first | refine OW_E ?_ | refine jI ?_ | refine jJ ?_) | (show WC _ _ _ _ _ _; first | refine jN ?_ | refine jO ?_ | refine jP ?_ | refine jR ?_ | refine jS ?_ | refine jT ?_ | refine jU ?_) | (show WQ _ _ _ _; with_reducible first | refine jV ?_ | refine jW ?_ | refine jX ?_ | refine jY ?_ | refine jZ ?_ | refine kA ?_ | refine kB ?_ | refine kC ?_)); (repeat (first | (show WL _ _ _ _ _ _ _; first | refine jA ?_ | refine jB ?_ | refine jC ?_ | refine jD ?_ | refine jE ?_ | refine jF ?_) | (show OW _ _ _ _ _ _; first | refine OW_E ?_ | refine jI ?_ | refine jJ ?_) | (show WC _ _ _ _ _ _; first | refine jN ?_ | refine jO ?_ | refine jP ?_ | refine jR ?_ | refine jS ?_ | refine jT ?_ | refine jU ?_) | (show WQ _ _ _ _; with_reducible first | refine jV ?_ | refine jW ?_ | refine jX ?_ | refine jY ?_ | refine jZ ?_ | refine kA ?_ | refine kB ?_ | refine kC ?_))); exact h9.out)) : p := s ⟨h⟩
theorem kT {c : Operand} {x y : Code} {t : Bool} {p : Prop} (ht : p → WC P n x Q M L) (hc : ev M c = some (.bool t) := by exact rfl) (hn : t = false → False := by (intro hc; (try simp only [nrB] at hc); first | omega | exact hc trivial | exact hc rfl)) (hp : t = true → p := by (intro hc; (try simp only [nrB] at hc); exact hc)) : WC P n (.cond c x y) Q M L :=
  WC_cond hc (fun h => ht (hp h)) (fun h => (hn h).elim)
theorem kF {c : Operand} {x y : Code} {t : Bool} {p : Prop} (hf : p → WC P n y Q M L) (hc : ev M c = some (.bool t) := by exact rfl) (hn : t = true → False := by (intro hc; (try simp only [nrB] at hc); first | omega | exact hc trivial | exact hc rfl)) (hp : t = false → p := by (intro hc; (try simp only [nrB] at hc); exact hc)) : WC P n (.cond c x y) Q M L :=
  WC_cond hc (fun h => (hn h).elim) (fun h => hf (hp h))
theorem kQ {c : Operand} {x y : Code} {t : Bool} {p q : Prop} (ht : p → WC P n x Q M L) (hf : q → WC P n y Q M L) (hc : ev M c = some (.bool t) := by exact rfl) (hp : t = true → p := by (intro hc; (try simp only [nrB] at hc); exact hc)) (hq : t = false → q := by (intro hc; (try simp only [nrB] at hc); exact hc)) : WC P n (.cond c x y) Q M L :=
  WC_cond hc (fun h => ht (hp h)) (fun h => hf (hq h))
theorem kU {A : Nat → Prop} {g : Prop} (h : ∀ b, A b) (s : Wr (∀ b, A b) → g := by (intro h9; (show OW _ _ _ _ _ _); first | exact jK h9.out | exact jL h9.out)) : g := s ⟨h⟩
theorem kV {p A g : Prop} (h : p → A) (s : Wr (p → A) → g := by (intro h9; first | ((show WC _ _ _ _ _ _); first | exact kT h9.out | exact kF h9.out) | ((show WL _ _ _ _ _ _ _); first | (refine jG (fun hc => ?_) (fun hc => ?_); (focus (rw [hc]; have h8 := hc; (try simp only [nrB] at h8); exact h9.out h8)); (exfalso; (try simp only [nrB] at hc); first | done | omega)) | (refine jG (fun hc => ?_) (fun hc => ?_); rotate_left; (focus (rw [hc]; have h8 := hc; (try simp only [nrB] at h8); exact h9.out h8)); (exfalso; (try simp only [nrB] at hc); first | done | omega))))) : g := s ⟨h⟩
theorem kZ {p q A B g : Prop} (ht : p → A) (hf : q → B) (s : Wr ((p → A) ∧ (q → B)) → g := by (intro h9; first | ((show WC _ _ _ _ _ _); exact kQ h9.out.1 h9.out.2) | ((show WL _ _ _ _ _ _ _); (refine jG (fun hc => ?_) (fun hc => ?_); (focus (rw [hc]; have h8 := hc; (try simp only [nrB] at h8); exact h9.out.1 h8)); (rw [hc]; have h8 := hc; (try simp only [nrB] at h8); exact h9.out.2 h8))))) : g := s ⟨ht, hf⟩
theorem iP {R : Exit → Act → World → Prop} (h : PO R := by exact (by repeat (first | with_reducible exact PO.body | with_reducible exact RP_po | with_reducible refine PO.then ?_ | with_reducible refine PO.block ?_))) : PO R := h
theorem iU {L' : List Chunk} {b : Nat} {o o' : Obj} (h : Upd L b o o' L' := by exact (by repeat (first | exact Upd.here | apply Upd.there))) : Upd L b o o' L' := h
theorem kR {q g : Prop} (h : q) (s : Wr q → g := by (intro h9; first | exact WQ_retI rfl rfl h9.out | exact WQ_endI rfl rfl h9.out)) : g := s ⟨h⟩
theorem kE {g : Prop} (s : g := by (first | refine WQ_retI rfl rfl ?_ | refine WQ_endI rfl rfl ?_); exact ⟨_, (by repeat (first | exact Inc.refl | exact Inc.nil | (show Inc (_ :: _) _; refine Inc.cons (by repeat (first | exact Take.here | apply Take.there)) ?_) | refine Inc.skip ?_)), rfl, rfl⟩) : g := s
end
end Go.Vx
namespace Go.Vx
open Go
set_option linter.all false
variable [W0]
omit [W0] in
/-- The word that an integer stands for. -/
class WI (i : Int) (a : outParam (BitVec 32)) : Prop where out : BitVec.ofInt 32 i = a
omit [W0] in
instance instWIv (a : BitVec 32) : WI (a.toNat : Int) a := ⟨by apply BitVec.eq_of_toNat_eq; rw [BitVec.toNat_ofInt]; have := a.isLt; omega⟩
omit [W0] in
instance instWIc (n : Nat) : WI (no_index (@OfNat.ofNat Int n _)) (BitVec.ofNat 32 (@OfNat.ofNat Nat n _)) := ⟨by apply BitVec.eq_of_toNat_eq; rw [BitVec.toNat_ofInt, BitVec.toNat_ofNat]; show ((n : Int) % _).toNat = n % _; omega⟩
omit [W0] in
/-- The number that an integer stands for. -/
class WN (i : Int) (s : outParam Nat) : Prop where out : i = (s : Int)
omit [W0] in
instance instWNv (n : Nat) : WN (n : Int) n := ⟨rfl⟩
omit [W0] in
instance instWNc (n : Nat) : WN (no_index (@OfNat.ofNat Int n _)) (@OfNat.ofNat Nat n _) := ⟨rfl⟩
theorem wrap_u32 (r : Int) : IntKind.u32.wrap r = ((BitVec.ofInt 32 r).toNat : Int) := by
  rw [BitVec.toNat_ofInt]
  simp [IntKind.wrap, IntKind.bits, IntKind.signed]
  omega
theorem wrap_u8 (r : Int) : IntKind.u8.wrap r = ((r % 256).toNat : Int) := by
  simp [IntKind.wrap, IntKind.bits, IntKind.signed]
  omega
omit [W0] in
def wop : BinOp → BitVec 32 → BitVec 32 → Option (BitVec 32)
  | .add, a, b => some (a + b) | .sub, a, b => some (a - b) | .mul, a, b => some (a * b)
  | .and, a, b => some (a &&& b) | .or, a, b => some (a ||| b) | .xor, a, b => some (a ^^^ b)
  | _, _, _ => none
omit [W0] in
/-- A byte as a word, and back. -/
def b2w (b : UInt8) : BitVec 32 := BitVec.ofNat 32 b.toNat
omit [W0] in
def w2b (w : BitVec 32) : UInt8 := UInt8.ofNat w.toNat
section
variable {P : Program} {n : Nat} {Q : Exit → Act → World → Prop} {M : List (Nat × Value)} {L : List Chunk} {K : List (Nat × Value) → List Chunk → Prop}
variable {d : Nat} {ty : TypeId} {ps : String} {af : Array Edge} {g : Option (Nat × Bool)} {x y : Operand} {v : Value}
theorem ofInt_nat (a : BitVec 32) : BitVec.ofInt 32 (a.toNat : Int) = a := (instWIv a).out
theorem EV_wop {op : BinOp} {t u : TypeId} {i j : Int} {a b r : BitVec 32} (hx : ev M x = some (.int .u32 i)) (hy : ev M y = some (.int .u32 j)) [ha' : WI i a] [hb' : WI j b] (hr : wop op a b = some r) :
    EV P n ⟨some d, .binOp op t x y u, ty, ps, af, g⟩ M L d (.int .u32 (r.toNat : Int)) := by
  have h1 := ha'.out
  have h2 := hb'.out
  subst h1 h2
  cases op <;> simp only [wop, Option.some.injEq, reduceCtorEq] at hr <;> subst hr
  · have := EV_ari (P := P) (n := n) (L := L) (d := d) (ty := ty) (ps := ps) (af := af) (g := g) (op := .add) (t := t) (u := u) hx hy rfl
    rw [wrap_u32, BitVec.ofInt_add] at this
    exact this
  · have := EV_ari (P := P) (n := n) (L := L) (d := d) (ty := ty) (ps := ps) (af := af) (g := g) (op := .sub) (t := t) (u := u) hx hy rfl
    rw [wrap_u32, Int.sub_eq_add_neg, BitVec.ofInt_add, BitVec.ofInt_neg, ← BitVec.sub_eq_add_neg] at this
    exact this
  · have := EV_ari (P := P) (n := n) (L := L) (d := d) (ty := ty) (ps := ps) (af := af) (g := g) (op := .mul) (t := t) (u := u) hx hy rfl
    rw [wrap_u32, BitVec.ofInt_mul] at this
    exact this
  · refine EV_bit (op := .and) hx hy ?_
    show some (IntKind.u32.wrap ((BitVec.ofInt 32 i &&& BitVec.ofInt 32 j).toNat : Int)) = _
    rw [wrap_u32, ofInt_nat]
  · refine EV_bit (op := .or) hx hy ?_
    show some (IntKind.u32.wrap ((BitVec.ofInt 32 i ||| BitVec.ofInt 32 j).toNat : Int)) = _
    rw [wrap_u32, ofInt_nat]
  · refine EV_bit (op := .xor) hx hy ?_
    show some (IntKind.u32.wrap ((BitVec.ofInt 32 i ^^^ BitVec.ofInt 32 j).toNat : Int)) = _
    rw [wrap_u32, ofInt_nat]
theorem EV_wnot {t : TypeId} {i : Int} {a : BitVec 32} (hx : ev M x = some (.int .u32 i)) [ha' : WI i a] :
    EV P n ⟨some d, .unOp .xor t x, ty, ps, af, g⟩ M L d (.int .u32 ((~~~ a).toNat : Int)) :=
  ⟨rfl, fun a' w ha _ => by
    have h1 := ha'.out
    subst h1
    have e : (Op.unary .xor (.int .u32 i)).run P w = .ok (.int .u32 ((~~~ BitVec.ofInt 32 i).toNat : Int)) w := by
      show (Sem.pure (Value.int .u32 (IntKind.u32.wrap ((BitVec.ofInt 32 4294967295 ^^^ BitVec.ofInt 32 i).toNat : Int)))).run P w = _
      rw [wrap_u32, ofInt_nat]
      have e3 : BitVec.ofInt 32 4294967295 ^^^ BitVec.ofInt 32 i = ~~~ BitVec.ofInt 32 i := by
        have : BitVec.ofInt 32 4294967295 = BitVec.allOnes 32 := by decide
        rw [this, BitVec.allOnes_xor]
      rw [e3]; rfl
    simp only [execOp, ha.eval hx, Sem.run_bind, e, Result.andThen_ok, Sem.run_pure]⟩
theorem EV_wshl {t u : TypeId} {k' : IntKind} {i j : Int} {a : BitVec 32} {s : Nat} (hx : ev M x = some (.int .u32 i)) (hy : ev M y = some (.int k' j)) [ha' : WI i a] [hj' : WN j s] (hs : s ≤ 32) :
    EV P n ⟨some d, .binOp .shl t x y u, ty, ps, af, g⟩ M L d (.int .u32 ((a <<< s).toNat : Int)) :=
  ⟨rfl, fun a' w ha _ => by
    have hj := hj'.out
    subst hj
    have h0 : ¬ ((s : Int) < 0) := by omega
    have hm : min (Int.toNat (s : Int)) IntKind.u32.bits = s := by simp [IntKind.bits]; omega
    have e : BitVec.ofInt 32 (i * 2 ^ s) = a <<< s := by
      rw [BitVec.ofInt_mul, ha'.out, BitVec.shiftLeft_eq_mul_twoPow]
      congr 1
      apply BitVec.eq_of_toNat_eq
      rw [BitVec.toNat_ofInt, BitVec.toNat_twoPow]
      have : ((2 : Int) ^ s) = ((2 ^ s : Nat) : Int) := by simp
      rw [this]
      omega
    simp [execOp, ha.eval hx, ha.eval hy, eqGuard, binOp, Op.shift, h0, hm, wrap_u32, e]⟩
theorem EV_wshr {t u : TypeId} {k' : IntKind} {j : Int} {a : BitVec 32} {s : Nat} (hx : ev M x = some (.int .u32 (a.toNat : Int))) (hy : ev M y = some (.int k' j)) [hj' : WN j s] (hs : s ≤ 32) :
    EV P n ⟨some d, .binOp .shr t x y u, ty, ps, af, g⟩ M L d (.int .u32 ((a >>> s).toNat : Int)) :=
  ⟨rfl, fun a' w ha _ => by
    have hj := hj'.out
    subst hj
    have h0 : ¬ ((s : Int) < 0) := by omega
    have hm : min (Int.toNat (s : Int)) IntKind.u32.bits = s := by simp [IntKind.bits]; omega
    have e : (a.toNat : Int).fdiv (2 ^ s) = ((a >>> s).toNat : Int) := by
      have : ((2 : Int) ^ s) = ((2 ^ s : Nat) : Int) := by simp
      rw [BitVec.toNat_ushiftRight, Nat.shiftRight_eq_div_pow, this, Int.fdiv_eq_ediv_of_nonneg _ (Int.natCast_nonneg _), ← Int.natCast_ediv]
    simp only [execOp, ha.eval hx, ha.eval hy, eqGuard, binOp, Op.shift, h0, hm, e, if_false, Sem.run_bind, Sem.run_pure, Result.andThen_ok]
    simp [e]⟩
theorem EV_wrem {t u : TypeId} {j : Int} {a b : BitVec 32} (hx : ev M x = some (.int .u32 (a.toNat : Int))) (hy : ev M y = some (.int .u32 j)) [hjb : WI j b] (hj : j = (b.toNat : Int)) (h0 : b.toNat ≠ 0) :
    EV P n ⟨some d, .binOp .rem t x y u, ty, ps, af, g⟩ M L d (.int .u32 ((a % b).toNat : Int)) := by
  subst hj
  have := EV_rem (P := P) (n := n) (L := L) (d := d) (ty := ty) (ps := ps) (af := af) (g := g) (t := t) (u := u) hx hy (by omega)
  have e : (a.toNat : Int).tmod (b.toNat : Int) = ((a % b).toNat : Int) := by
    rw [BitVec.toNat_umod, Int.tmod_eq_emod_of_nonneg (by omega), Int.natCast_emod]
  rwa [e] at this
theorem EV_w8to32 {s t : Nat} {b : UInt8} [h1 : IK P s .u8] [h2 : IK P t .u32] (hx : ev M x = some (.int .u8 (b.toNat : Int))) :
    EV P n ⟨some d, .convert s t x, ty, ps, af, g⟩ M L d (.int .u32 ((b2w b).toNat : Int)) :=
  EV_convII hx (by rw [wrap_u32]; congr 2)
theorem EV_w32to8 {s t : Nat} {a : BitVec 32} [h1 : IK P s .u32] [h2 : IK P t .u8] (hx : ev M x = some (.int .u32 (a.toNat : Int))) :
    EV P n ⟨some d, .convert s t x, ty, ps, af, g⟩ M L d (.int .u8 ((w2b a).toNat : Int)) :=
  EV_convII hx (by rw [wrap_u8]; simp only [w2b, UInt8.toNat_ofNat']; first | done | omega)
theorem EV_w64to32 {s t : Nat} {i : Int} [h1 : IK P s .u64] [h2 : IK P t .u32] (hx : ev M x = some (.int .u64 i)) :
    EV P n ⟨some d, .convert s t x, ty, ps, af, g⟩ M L d (.int .u32 ((BitVec.ofInt 32 i).toNat : Int)) :=
  EV_convII hx (wrap_u32 i)
omit [W0] in
def arrOf (P : Program) (T : Nat) : Option (Nat × Nat × Nat) := match P.underlying T with
  | some (.array len e) => match P.info? e with
    | some i => if Nat.blt 0 i.size then some (e, len, i.size) else none
    | none => none
  | _ => none
omit [W0] in
class AR (P : Program) (T : Nat) (e : outParam Nat) (len : outParam Nat) (k : outParam Nat) : Prop where out : arrOf P T = some (e, len, k)
theorem AR.parts {T e len k : Nat} (h : AR P T e len k) : P.underlying T = some (.array len e) ∧ ∃ i, P.info? e = some i ∧ i.size = k ∧ 0 < k := by
  have h := h.out
  unfold arrOf at h
  split at h
  · rename_i len' e' hu
    split at h
    · rename_i i hi
      split at h
      · rename_i hz
        simp at h
        obtain ⟨rfl, rfl, rfl⟩ := h
        rw [Nat.blt_eq] at hz
        exact ⟨hu, i, hi, rfl, hz⟩
      · simp at h
    · simp at h
  · simp at h
theorem EV_indexAddrA {T e len k : Nat} [hs : AR P T e len k] {b off j : Nat} {kk : IntKind} {i : Int} (hx : ev M x = some (.pointer (some ⟨b, off, none⟩))) (hy : ev M y = some (.int kk i))
    [hj' : WN i j] (hlt : j < len) : EV P n ⟨some d, .indexAddr T x y, ty, ps, af, g⟩ M L d (.pointer (some ⟨b, off + j * k, none⟩)) :=
  ⟨rfl, fun a w ha _ => by
    obtain ⟨hu, i', hi, hk, hk0⟩ := hs.parts
    have hj := hj'.out
    subst hj
    have h2 : (j : Int) < (len : Int) := by omega
    simp [execOp, ha.eval hx, ha.eval hy, Instr.indexAt, Instr.sureAddr, asIntOf, run_underlying hu, sizeOf, typeInfo, hi, hk, addr_add, h2, hlt]⟩
theorem EV_indexAddrW {T e k by_ : Nat} [hs : SL P T e k by_] {b off len cap j : Nat} {kk : IntKind} {i : Int} (hx : ev M x = some (.slice (some ⟨b, off, none⟩) len cap)) (hy : ev M y = some (.int kk i))
    [hj' : WN i j] (hlt : j < len) : EV P n ⟨some d, .indexAddr T x y, ty, ps, af, g⟩ M L d (.pointer (some ⟨b, off + j * k, none⟩)) := EV_indexAddr hx hy hj'.out hlt
theorem EV_indexAddrW0 {T e k by_ : Nat} [hs : SL P T e k by_] {b len cap j : Nat} {kk : IntKind} {i : Int} (hx : ev M x = some (.slice (some ⟨b, 0, none⟩) len cap)) (hy : ev M y = some (.int kk i))
    [hj' : WN i j] (hlt : j < len) : EV P n ⟨some d, .indexAddr T x y, ty, ps, af, g⟩ M L d (.pointer (some ⟨b, j * k, none⟩)) := EV_indexAddr0 hx hy hj'.out hlt
theorem EV_indexAddrA' {T e len k : Nat} [hs : AR P T e len k] {b off : Nat} (j : Nat) {kk : IntKind} {i : Int} (hx : ev M x = some (.pointer (some ⟨b, off, none⟩))) (hy : ev M y = some (.int kk i))
    (hj : i = (j : Int)) (hlt : j < len) : EV P n ⟨some d, .indexAddr T x y, ty, ps, af, g⟩ M L d (.pointer (some ⟨b, off + j * k, none⟩)) := by
  haveI : WN i j := ⟨hj⟩
  exact EV_indexAddrA hx hy hlt
theorem EV_indexAgg {T e len : Nat} [hs : AR P T e len 1] [hn : NA P e] {vs : List Value} {j : Nat} {kk : IntKind} {i : Int} (hx : ev M x = some (.agg vs.toArray)) (hy : ev M y = some (.int kk i))
    (hj : i = (j : Int)) (hv : vs[j]? = some v) (hlt : j < len) : EV P n ⟨some d, .index T x y, ty, ps, af, g⟩ M L d v :=
  ⟨rfl, fun a w ha _ => by
    obtain ⟨hu, i', hi, hk, hk0⟩ := hs.parts
    subst hj
    have h2 : (j : Int) < (len : Int) := by omega
    simp [execOp, ha.eval hx, ha.eval hy, Instr.index, asIntOf, run_underlying hu, sizeOf, typeInfo, hi, hk, h2, hlt, part, isAgg_false hn.out, hv]⟩
theorem fill_key {len k : Nat} : ∀ (ps : List (Nat × Value)) (c : Array Value), ps.all (fun x => Nat.blt x.1 len) = true → Instr.fill (((List.range len).map fun j => (j * k, k)).toArray[·]?) c ps = Instr.fill (fun j => some (j * k, k)) c ps := by
  intro ps
  induction ps with
  | nil => intro c _; simp [Instr.fill]
  | cons p r ih =>
    intro c hall
    obtain ⟨j, v⟩ := p
    simp only [List.all_cons, Bool.and_eq_true, Nat.blt_eq] at hall
    unfold Instr.fill
    simp only [List.getElem?_toArray, List.getElem?_map, List.getElem?_range hall.1, Option.map_some]
    split
    · rfl
    · have := ih (v.cells.zipIdx.foldl (fun cs (x : Value × Nat) => cs.setIfInBounds (j * k + x.2) x.1) c) hall.2
      simp only [List.getElem?_toArray, List.getElem?_map] at this
      exact this
theorem EV_buildArr {t e len k : Nat} {z : Value} [hb : AR P t e len k] [hz : ZV P t z] {parts : List (Nat × Operand)} {pvs : List (Nat × Value)} {cs : List Value} (hp : evp M parts = some pvs)
    (hf : fillL ((List.range len).map fun i => (i * k, k)) z.cells.toList pvs = some cs) (hpl : pvs.all (fun x => Nat.blt x.1 len) = true) : EV P n ⟨some d, .build t parts.toArray, ty, ps, af, g⟩ M L d (.agg cs.toArray) :=
  ⟨rfl, fun a w ha _ => by
    obtain ⟨hu, i', hi, hk, hk0⟩ := hb.parts
    have hfill := fill_eq _ pvs z.cells.toList cs hf
    rw [fill_key pvs _ hpl, Array.toArray_toList] at hfill
    have hpe := ha.evalp hp
    simp [execOp, Instr.build, zero_run hz.out, run_underlying hu, sizeOf, typeInfo, hi, hk, hpe, hfill]⟩
theorem OW_W {o : Oper} (h : K ((d, v) :: M) L) (he : EV P n o M L d v := by first | (show EV _ _ ⟨_, .binOp .., _, _, _, _⟩ _ _ _ _; first | exact EV_wop rfl rfl rfl | exact EV_wshl rfl rfl (by omega) | exact EV_wshr rfl rfl (by omega) | exact EV_wrem rfl rfl (by rfl) (by decide)) | (show EV _ _ ⟨_, .unOp .., _, _, _, _⟩ _ _ _ _; first | exact EV_wnot rfl) | (show EV _ _ ⟨_, .convert .., _, _, _, _⟩ _ _ _ _; first | exact EV_w8to32 rfl | exact EV_w32to8 rfl | exact EV_w64to32 rfl) | (show EV _ _ ⟨_, .indexAddr .., _, _, _, _⟩ _ _ _ _; first | exact EV_indexAddrA rfl rfl (by omega) | exact EV_indexAddrW0 rfl rfl (by omega) | exact EV_indexAddrW rfl rfl (by omega)) | (show EV _ _ ⟨_, .build .., _, _, _, _⟩ _ _ _ _; first | exact EV_buildArr rfl (by simp [fillL, patch, Value.cells]; rfl) (by rfl)) | (show EV _ _ ⟨_, .move _, _, _, _, _⟩ _ _ _ _; first | exact EV_move rfl) | (show EV _ _ ⟨_, .assign _, _, _, _, _⟩ _ _ _ _; first | exact EV_assign rfl) | (show EV _ _ ⟨_, .nilCheck _, _, _, _, _⟩ _ _ _ _; first | exact EV_nilCheck rfl) | (show EV _ _ ⟨_, .fieldAddr .., _, _, _, _⟩ _ _ _ _; first | exact EV_fieldAddr0 rfl | exact EV_fieldAddr rfl) | (show EV _ _ ⟨_, .load .., _, _, _, _⟩ _ _ _ _; first | exact EV_loadc rfl (by repeat (first | assumption | exact Fnd.here | refine Fnd.there ?_)) rfl | exact EV_loadAggC rfl (by repeat (first | assumption | exact Fnd.here | refine Fnd.there ?_)) rfl) | (show EV _ _ ⟨_, .binOp .., _, _, _, _⟩ _ _ _ _; first | exact EV_cmp rfl rfl rfl | exact EV_ari64 rfl rfl rfl (by omega) | exact EV_shr rfl rfl (by decide) (shr_lit (by omega) (by simp [IntKind.bits]; rfl)) | exact EV_strEq rfl rfl | exact EV_strNe rfl rfl | exact EV_strLt rfl rfl | exact EV_sliceEqNil rfl rfl | exact EV_sliceNeNil rfl rfl | exact EV_ptrEqNil rfl rfl | exact EV_ptrNeNil rfl rfl | exact EV_boolEq rfl rfl | exact EV_boolNe rfl rfl) | (show EV _ _ ⟨_, .convert .., _, _, _, _⟩ _ _ _ _; first | exact EV_convII rfl (wrap_i64 (by omega) (by omega)) | exact EV_convII rfl (wrap_u64 (by omega) (by omega)) | exact EV_convII rfl rfl) | (show EV _ _ ⟨_, .extract .., _, _, _, _⟩ _ _ _ _; first | exact EV_extract rfl rfl) | (show EV _ _ ⟨_, .unOp .., _, _, _, _⟩ _ _ _ _; first | exact EV_not rfl) | (show EV _ _ ⟨_, .pick .., _, _, _, _⟩ _ _ _ _; first | exact EV_pick rfl rfl) | (show EV _ _ ⟨_, .call ⟨.builtin .len, _, _⟩, _, _, _, _⟩ _ _ _ _; first | exact EV_lenSl rfl | exact EV_lenStr rfl) | (show EV _ _ ⟨_, .call ⟨.builtin .cap, _, _⟩, _, _, _, _⟩ _ _ _ _; first | exact EV_capSl rfl) | (show EV _ _ ⟨_, .call ⟨.builtin .min, _, _⟩, _, _, _, _⟩ _ _ _ _; first | exact EV_min rfl rfl) | (show EV _ _ ⟨_, .call ⟨.builtin .max, _, _⟩, _, _, _, _⟩ _ _ _ _; first | exact EV_max rfl rfl) | (show EV _ _ ⟨_, .makeInterface .., _, _, _, _⟩ _ _ _ _; first | exact EV_makeInterface rfl) | (show EV _ _ ⟨_, .makeFunc .., _, _, _, _⟩ _ _ _ _; first | exact EV_makeFunc rfl rfl) | (show EV _ _ ⟨_, .typeAssert .., _, _, _, _⟩ _ _ _ _; first | exact EV_assertYes rfl | exact EV_assertNo rfl rfl) | (show EV _ _ ⟨_, .build .., _, _, _, _⟩ _ _ _ _; first | exact EV_build rfl (by simp [fillL, patch, Value.cells]; rfl))) (hn : Nat.blt d n = true := by exact rfl) : OW P n o K M L := OW_EV he hn h
theorem kX {p q : Prop} (h : q) (s : Wr q → p := by (intro h9; (first | (show WL _ _ _ _ _ _ _; first | refine jA ?_ | refine jB ?_ | refine jC ?_ | refine jD ?_ | refine jE ?_ | refine jF ?_) | (show OW _ _ _ _ _ _; first | refine OW_W ?_ | refine jI ?_ | refine jJ ?_) | (show WC _ _ _ _ _ _; first | refine jM ?_ | refine jN ?_ | refine jO ?_ | refine jP ?_ | refine jR ?_ | refine jS ?_ | refine jT ?_ | refine jU ?_) | (show WQ _ _ _ _; with_reducible first | refine jV ?_ | refine jW ?_ | refine jX ?_ | refine jY ?_ | refine jZ ?_ | refine kA ?_ | refine kB ?_ | refine kC ?_)); (repeat (first | (show WL _ _ _ _ _ _ _; first | refine jA ?_ | refine jB ?_ | refine jC ?_ | refine jD ?_ | refine jE ?_ | refine jF ?_) | (show OW _ _ _ _ _ _; first | refine OW_W ?_ | refine jI ?_ | refine jJ ?_) | (show WC _ _ _ _ _ _; first | refine jM ?_ | refine jN ?_ | refine jO ?_ | refine jP ?_ | refine jR ?_ | refine jS ?_ | refine jT ?_ | refine jU ?_) | (show WQ _ _ _ _; with_reducible first | refine jV ?_ | refine jW ?_ | refine jX ?_ | refine jY ?_ | refine jZ ?_ | refine kA ?_ | refine kB ?_ | refine kC ?_))); exact h9.out)) : p := s ⟨h⟩
theorem WR_w {S : List Chunk} {ops : List Oper} {T : List Nat} {fuel : Nat} {listed : Array Bool} (i : Nat) {o : Oper} (h : WR P n ops Q S T fuel (listed.setIfInBounds i true) ((d, v) :: M) L)
    (hi : ops[i]? = some o := by exact rfl) (hg : o.guard = none := by exact rfl) (hb : takeB ops T listed i = true := by kernel_rfl) (hPO : PO Q := by exact iP) (hinc : Inc S L := by exact iC) (he : EV P n o M S d v := by exact (by first | (show EV _ _ ⟨_, .binOp .., _, _, _, _⟩ _ _ _ _; first | exact EV_wop rfl rfl rfl | exact EV_wshl rfl rfl (by omega) | exact EV_wshr rfl rfl (by omega) | exact EV_wrem rfl rfl (by rfl) (by decide)) | (show EV _ _ ⟨_, .unOp .., _, _, _, _⟩ _ _ _ _; first | exact EV_wnot rfl) | (show EV _ _ ⟨_, .convert .., _, _, _, _⟩ _ _ _ _; first | exact EV_w8to32 rfl | exact EV_w32to8 rfl | exact EV_w64to32 rfl) | (show EV _ _ ⟨_, .indexAddr .., _, _, _, _⟩ _ _ _ _; first | exact EV_indexAddrA rfl rfl (by omega) | exact EV_indexAddrW0 rfl rfl (by omega) | exact EV_indexAddrW rfl rfl (by omega)) | (show EV _ _ ⟨_, .build .., _, _, _, _⟩ _ _ _ _; first | exact EV_buildArr rfl (by simp [fillL, patch, Value.cells]; rfl) (by rfl)) | (show EV _ _ ⟨_, .move _, _, _, _, _⟩ _ _ _ _; first | exact EV_move rfl) | (show EV _ _ ⟨_, .assign _, _, _, _, _⟩ _ _ _ _; first | exact EV_assign rfl) | (show EV _ _ ⟨_, .nilCheck _, _, _, _, _⟩ _ _ _ _; first | exact EV_nilCheck rfl) | (show EV _ _ ⟨_, .fieldAddr .., _, _, _, _⟩ _ _ _ _; first | exact EV_fieldAddr0 rfl | exact EV_fieldAddr rfl) | (show EV _ _ ⟨_, .load .., _, _, _, _⟩ _ _ _ _; first | exact EV_loadc rfl (by repeat (first | assumption | exact Fnd.here | refine Fnd.there ?_)) rfl | exact EV_loadAggC rfl (by repeat (first | assumption | exact Fnd.here | refine Fnd.there ?_)) rfl) | (show EV _ _ ⟨_, .binOp .., _, _, _, _⟩ _ _ _ _; first | exact EV_cmp rfl rfl rfl | exact EV_ari64 rfl rfl rfl (by omega) | exact EV_shr rfl rfl (by decide) (shr_lit (by omega) (by simp [IntKind.bits]; rfl)) | exact EV_strEq rfl rfl | exact EV_strNe rfl rfl | exact EV_strLt rfl rfl | exact EV_sliceEqNil rfl rfl | exact EV_sliceNeNil rfl rfl | exact EV_ptrEqNil rfl rfl | exact EV_ptrNeNil rfl rfl | exact EV_boolEq rfl rfl | exact EV_boolNe rfl rfl) | (show EV _ _ ⟨_, .convert .., _, _, _, _⟩ _ _ _ _; first | exact EV_convII rfl (wrap_i64 (by omega) (by omega)) | exact EV_convII rfl (wrap_u64 (by omega) (by omega)) | exact EV_convII rfl rfl) | (show EV _ _ ⟨_, .extract .., _, _, _, _⟩ _ _ _ _; first | exact EV_extract rfl rfl) | (show EV _ _ ⟨_, .unOp .., _, _, _, _⟩ _ _ _ _; first | exact EV_not rfl) | (show EV _ _ ⟨_, .pick .., _, _, _, _⟩ _ _ _ _; first | exact EV_pick rfl rfl) | (show EV _ _ ⟨_, .call ⟨.builtin .len, _, _⟩, _, _, _, _⟩ _ _ _ _; first | exact EV_lenSl rfl | exact EV_lenStr rfl) | (show EV _ _ ⟨_, .call ⟨.builtin .cap, _, _⟩, _, _, _, _⟩ _ _ _ _; first | exact EV_capSl rfl) | (show EV _ _ ⟨_, .call ⟨.builtin .min, _, _⟩, _, _, _, _⟩ _ _ _ _; first | exact EV_min rfl rfl) | (show EV _ _ ⟨_, .call ⟨.builtin .max, _, _⟩, _, _, _, _⟩ _ _ _ _; first | exact EV_max rfl rfl) | (show EV _ _ ⟨_, .makeInterface .., _, _, _, _⟩ _ _ _ _; first | exact EV_makeInterface rfl) | (show EV _ _ ⟨_, .makeFunc .., _, _, _, _⟩ _ _ _ _; first | exact EV_makeFunc rfl rfl) | (show EV _ _ ⟨_, .typeAssert .., _, _, _, _⟩ _ _ _ _; first | exact EV_assertYes rfl | exact EV_assertNo rfl rfl) | (show EV _ _ ⟨_, .build .., _, _, _, _⟩ _ _ _ _; first | exact EV_build rfl (by simp [fillL, patch, Value.cells]; rfl)))) (hn : Nat.blt d n = true := by exact rfl) :
    WR P n ops Q S T (fuel + 1) listed M L := WR_take i hi hg hb hPO hinc he hn h
end
end Go.Vx
namespace Go.Proofs.Ytbdpjbmfhnbheaa
open Go Go.Vx
instance : SZ Try.prog 3 1 := ⟨by kernel_rfl⟩
instance : NA Try.prog 3 := ⟨by kernel_rfl⟩
instance : IK Try.prog 3 .i64 := ⟨by kernel_rfl⟩
instance : ZV Try.prog 3 (.int .i64 0) := ⟨by kernel_rfl⟩
instance : NA Try.prog 4 := ⟨by kernel_rfl⟩
instance : BB Try.prog 4 := ⟨by kernel_rfl⟩
instance : SL Try.prog 22 4 1 1 := ⟨by kernel_rfl⟩
instance : NA Try.prog 23 := ⟨by kernel_rfl⟩
instance : SL Try.prog 23 3 1 8 := ⟨by kernel_rfl⟩
instance : SL Try.prog 29 38 1 4 := ⟨by kernel_rfl⟩
instance : SZ Try.prog 38 1 := ⟨by kernel_rfl⟩
instance : NA Try.prog 38 := ⟨by kernel_rfl⟩
instance : IK Try.prog 38 .u32 := ⟨by kernel_rfl⟩
instance : ZV Try.prog 38 (.int .u32 0) := ⟨by kernel_rfl⟩
instance : NA Try.prog 60 := ⟨by kernel_rfl⟩
instance : SL Try.prog 60 63 2 16 := ⟨by kernel_rfl⟩
instance : AG Try.prog 63 2 := ⟨by kernel_rfl, by kernel_rfl⟩
instance : FO Try.prog 63 0 0 := ⟨by kernel_rfl⟩
instance : FO Try.prog 63 1 1 := ⟨by kernel_rfl⟩
instance : BL Try.prog 63 [(0, 1), (1, 1)] := ⟨by kernel_rfl⟩
instance : ZV Try.prog 63 (.agg #[.int .i64 0, .int .i64 0]) := ⟨by kernel_rfl⟩
instance : NA Try.prog 65 := ⟨by kernel_rfl⟩
instance : SL Try.prog 65 101 1 24 := ⟨by kernel_rfl⟩
instance : AG Try.prog 68 16 := ⟨by kernel_rfl, by kernel_rfl⟩
instance : AR Try.prog 68 3 16 1 := ⟨by kernel_rfl⟩
instance : ZV Try.prog 68 (.agg #[.int .i64 0, .int .i64 0, .int .i64 0, .int .i64 0, .int .i64 0, .int .i64 0, .int .i64 0, .int .i64 0, .int .i64 0, .int .i64 0, .int .i64 0, .int .i64 0, .int .i64 0, .int .i64 0, .int .i64 0, .int .i64 0]) := ⟨by kernel_rfl⟩
instance : AG Try.prog 71 16 := ⟨by kernel_rfl, by kernel_rfl⟩
instance : AR Try.prog 71 38 16 1 := ⟨by kernel_rfl⟩
instance : ZV Try.prog 71 (.agg #[.int .u32 0, .int .u32 0, .int .u32 0, .int .u32 0, .int .u32 0, .int .u32 0, .int .u32 0, .int .u32 0, .int .u32 0, .int .u32 0, .int .u32 0, .int .u32 0, .int .u32 0, .int .u32 0, .int .u32 0, .int .u32 0]) := ⟨by kernel_rfl⟩
instance : IK Try.prog 74 .u64 := ⟨by kernel_rfl⟩
instance : SZ Try.prog 101 1 := ⟨by kernel_rfl⟩
instance : NA Try.prog 101 := ⟨by kernel_rfl⟩
instance : SL Try.prog 101 109 2 16 := ⟨by kernel_rfl⟩
instance : ZV Try.prog 101 (.slice none 0 0) := ⟨by kernel_rfl⟩
instance : AG Try.prog 109 2 := ⟨by kernel_rfl, by kernel_rfl⟩
instance : FO Try.prog 109 0 0 := ⟨by kernel_rfl⟩
instance : FO Try.prog 109 1 1 := ⟨by kernel_rfl⟩
instance : BL Try.prog 109 [(0, 1), (1, 1)] := ⟨by kernel_rfl⟩
instance : ZV Try.prog 109 (.agg #[.int .i64 0, .bool false]) := ⟨by kernel_rfl⟩
theorem mixed : Try.prog.follows .mixedOrders = true := by kernel_rfl
instance : BD Try.prog 9 := ⟨by kernel_rfl⟩
instance : BD Try.prog 10 := ⟨by kernel_rfl⟩
instance : BD Try.prog 11 := ⟨by kernel_rfl⟩
instance : BD Try.prog 14 := ⟨by kernel_rfl⟩
instance : BD Try.prog 21 := ⟨by kernel_rfl⟩
instance : BD Try.prog 25 := ⟨by kernel_rfl⟩
instance : BD Try.prog 26 := ⟨by kernel_rfl⟩
instance : BD Try.prog 27 := ⟨by kernel_rfl⟩
instance : BD Try.prog 28 := ⟨by kernel_rfl⟩
instance : BD Try.prog 29 := ⟨by kernel_rfl⟩
instance : BD Try.prog 30 := ⟨by kernel_rfl⟩
instance : BD Try.prog 32 := ⟨by kernel_rfl⟩
instance : BD Try.prog 33 := ⟨by kernel_rfl⟩
instance : BD Try.prog 43 := ⟨by kernel_rfl⟩
instance : BD Try.prog 44 := ⟨by kernel_rfl⟩
instance : BD Try.prog 45 := ⟨by kernel_rfl⟩
instance : BD Try.prog 46 := ⟨by kernel_rfl⟩
instance : BD Try.prog 47 := ⟨by kernel_rfl⟩
instance : BD Try.prog 48 := ⟨by kernel_rfl⟩
instance : BD Try.prog 49 := ⟨by kernel_rfl⟩
instance : BD Try.prog 50 := ⟨by kernel_rfl⟩
instance : BD Try.prog 53 := ⟨by kernel_rfl⟩
instance : BD Try.prog 54 := ⟨by kernel_rfl⟩
instance : BD Try.prog 55 := ⟨by kernel_rfl⟩
instance : BD Try.prog 56 := ⟨by kernel_rfl⟩
instance : BD Try.prog 57 := ⟨by kernel_rfl⟩
instance : BD Try.prog 60 := ⟨by kernel_rfl⟩
instance : BD Try.prog 61 := ⟨by kernel_rfl⟩
instance : BD Try.prog 62 := ⟨by kernel_rfl⟩
instance : BD Try.prog 63 := ⟨by kernel_rfl⟩
instance : BD Try.prog 64 := ⟨by kernel_rfl⟩
instance : BD Try.prog 65 := ⟨by kernel_rfl⟩
end Go.Proofs.Ytbdpjbmfhnbheaa
namespace Go.Vx
open Go
set_option linter.all false
variable [W0]
theorem wrap_nat {k : IntKind} (hs : k.signed = false) {m : Nat} (h : m < 2 ^ k.bits) : k.wrap (m : Int) = (m : Int) := by
  unfold IntKind.wrap
  simp only [hs, Bool.false_and, Bool.false_eq_true, if_false]
  have c1 : ((2 : Int) ^ k.bits) = ((2 ^ k.bits : Nat) : Int) := by simp
  rw [c1]
  have h2 : ((m : Nat) : Int) < ((2 ^ k.bits : Nat) : Int) := by exact_mod_cast h
  exact Int.emod_eq_of_lt (Int.natCast_nonneg m) h2
section
variable {P : Program} {n : Nat} {Q : Exit → Act → World → Prop} {M : List (Nat × Value)} {L : List Chunk} {K : List (Nat × Value) → List Chunk → Prop}
variable {d : Nat} {ty : TypeId} {ps : String} {af : Array Edge} {g : Option (Nat × Bool)} {x y : Operand} {v : Value}
theorem EV_nconv {s t : Nat} {k k' : IntKind} [h1 : IK P s k] [h2 : IK P t k'] {i : Int} (a : Nat) (hx : ev M x = some (.int k i)) (hi : i = (a : Int)) (hs : k'.signed = false) (ha : a < 2 ^ k'.bits) :
    EV P n ⟨some d, .convert s t x, ty, ps, af, g⟩ M L d (.int k' (a : Int)) := by
  subst hi
  exact EV_convII hx (wrap_nat hs ha)
end
end Go.Vx
namespace Go.Vx
open Go
set_option linter.all false
variable [W0]
theorem Holds.gap {w : World} {D : Chunk} {L : List Chunk} : Holds w (D :: [] :: L) ↔ Holds w (D :: L) := by simp [Holds]
theorem sl_at {L : List Chunk} {v : Value} {m : Nat} {xs : List Value} (h : Sl L 1 v m xs) {k : Nat} {u : Value} (hk : xs[k]? = some u) :
    ∃ b off cap c T fr, v = .slice (some ⟨b, off, none⟩) m cap ∧ Fnd L b (.cells c T fr) ∧ c[off + k * 1]? = some u := by
  rcases h with ⟨c, rfl, rfl, rfl⟩ | ⟨a, cap, rfl, hr, hl⟩
  · simp at hk
  · rcases hr with h0 | ⟨b, off, c, T, fr, rfl, h1, h2⟩
    · subst h0; simp at hk
    · exact ⟨b, off, cap, c, T, fr, rfl, h1, by rw [Nat.mul_one]; exact h2 _ _ hk⟩
end Go.Vx
namespace Go.Vx
open Go
set_option linter.all false
variable [W0]
section
variable {P : Program} {ops : Array Oper} {Q : Exit → Act → World → Prop} {md : Region.Mode} {S : World → Prop} {T : List Nat}
theorem wpAnyT_first2 {i : Nat} {oi : Oper} {v : Value} (hi : ops[i]? = some oi) (hsel : ∀ (j : Nat) (o : Oper) cs b, ops[j]? = some o → o.op ≠ .select cs b)
    (hQ : ∀ c a w, Q (.panic c) (a.put oi.dst v) w → Q (.panic c) a w) :
    ∀ (fuel : Nat) (listed : Array Bool) (a : Act) (w : World), (∀ j ∈ T, j ≠ i → listed.getD j false = true ∨ ∃ f, ancB md ops i f j = true) →
      (∀ j oj, ops[j]? = some oj → j ≠ i → listed.getD j true = false → (∀ e ∈ oj.after, Region.binds md e = true → e.on ≠ i) → oi.apart ops oj = true) → DC md ops listed →
      i ∈ Region.ready md ops listed → YieldsIf P ops S oi v a → S w →
      wpAnyT P md ops Q S T fuel (listed.setIfInBounds i true) (a.put oi.dst v) w → wpAnyT P md ops Q S T (fuel + 1) listed a w := by
  intro fuel
  induction fuel with
  | zero =>
    intro listed a w _ _ _ hr hy hS H
    refine ⟨fun h => (by rw [h] at hr; cases hr), fun j hj => ?_⟩
    by_cases hji : j = i
    · subst hji; exact hy.wpOp hi hS ⟨fun _ => hS, H⟩
    · have := ready_mono hj hji
      rw [H.1] at this
      cases this
  | succ fuel ih =>
    intro listed a w hT hfree hdc hr hy hS H
    refine ⟨fun h => (by rw [h] at hr; cases hr), fun j hj => ?_⟩
    by_cases hji : j = i
    · subst hji; exact hy.wpOp hi hS ⟨fun _ => hS, H⟩
    · have h1 := H.2 j (ready_mono hj hji)
      obtain ⟨hjun, oj, hoj, hall⟩ := mem_ready.1 hj
      have hun := (mem_ready.1 hr).1
      have hnot : ∀ e ∈ oj.after, Region.binds md e = true → e.on ≠ i := fun e he hb heq => by
        have h1 := hall e he hb
        rw [heq] at h1
        exact listed_both hun h1
      have hnT : j ∉ T := fun hm => by
        rcases hT j hm hji with hl | ⟨f, hf⟩
        · exact listed_both hjun hl
        · exact listed_both hun (ancB_spec hdc f j oj hf hoj hall)
      have h2 := wpOp_putIf hoj (hfree j oj hoj hji hjun hnot) (fun cs b => hsel i oi cs b hi) (fun cs b => hsel j oj cs b hoj) hQ hy h1
      have hfree' : ∀ k ok, ops[k]? = some ok → k ≠ i → (listed.setIfInBounds j true).getD k true = false →
          (∀ e ∈ ok.after, Region.binds md e = true → e.on ≠ i) → oi.apart ops ok = true := fun k ok hk hki hun hno => by
        refine hfree k ok hk hki ?_ hno
        by_cases hjk : j = k
        · subst hjk; exact hjun
        · rw [getD_set_ne true hjk] at hun; exact hun
      have hT' : ∀ k ∈ T, k ≠ i → (listed.setIfInBounds j true).getD k false = true ∨ ∃ f, ancB md ops i f k = true := fun k hk hki => (hT k hk hki).imp getD_set_true id
      refine wpOp_mono (fun a' w' h3 => ⟨fun _ => h3.2.1 hnT, ih (listed.setIfInBounds j true) a' w' hT' hfree' (hdc.set hj) (ready_mono hr (Ne.symm hji)) h3.1 (h3.2.1 hnT) ?_⟩) h2
      rw [Array.setIfInBounds_comm _ _ hji]
      exact h3.2.2
theorem wpAnyT_float {i : Nat} {oi : Oper} {v : Value} (hi : ops[i]? = some oi) (hsel : ∀ (j : Nat) (o : Oper) cs b, ops[j]? = some o → o.op ≠ .select cs b)
    (hQ : ∀ c a w, Q (.panic c) (a.put oi.dst v) w → Q (.panic c) a w) (hiT : i ∈ T) :
    ∀ (fuel : Nat) (listed : Array Bool) (a : Act) (w : World),
      (∀ j oj, ops[j]? = some oj → j ≠ i → listed.getD j true = false → (∀ e ∈ oj.after, Region.binds md e = true → e.on ≠ i) → oi.apart ops oj = true) → DC md ops listed →
      i ∈ Region.ready md ops listed → YieldsIf P ops (fun _ => True) oi v a →
      wpAnyT P md ops Q S T fuel (listed.setIfInBounds i true) (a.put oi.dst v) w → wpAnyT P md ops Q S T (fuel + 1) listed a w := by
  intro fuel
  induction fuel with
  | zero =>
    intro listed a w _ _ hr hy H
    refine ⟨fun h => (by rw [h] at hr; cases hr), fun j hj => ?_⟩
    by_cases hji : j = i
    · subst hji; exact hy.wpOp hi trivial ⟨fun hn => absurd hiT hn, H⟩
    · have := ready_mono hj hji
      rw [H.1] at this
      cases this
  | succ fuel ih =>
    intro listed a w hfree hdc hr hy H
    refine ⟨fun h => (by rw [h] at hr; cases hr), fun j hj => ?_⟩
    by_cases hji : j = i
    · subst hji; exact hy.wpOp hi trivial ⟨fun hn => absurd hiT hn, H⟩
    · have h1 := H.2 j (ready_mono hj hji)
      obtain ⟨hjun, oj, hoj, hall⟩ := mem_ready.1 hj
      have hun := (mem_ready.1 hr).1
      have hnot : ∀ e ∈ oj.after, Region.binds md e = true → e.on ≠ i := fun e he hb heq => by
        have h1 := hall e he hb
        rw [heq] at h1
        exact listed_both hun h1
      have h2 := wpOp_putIf hoj (hfree j oj hoj hji hjun hnot) (fun cs b => hsel i oi cs b hi) (fun cs b => hsel j oj cs b hoj) hQ hy h1
      have hfree' : ∀ k ok, ops[k]? = some ok → k ≠ i → (listed.setIfInBounds j true).getD k true = false →
          (∀ e ∈ ok.after, Region.binds md e = true → e.on ≠ i) → oi.apart ops ok = true := fun k ok hk hki hun hno => by
        refine hfree k ok hk hki ?_ hno
        by_cases hjk : j = k
        · subst hjk; exact hjun
        · rw [getD_set_ne true hjk] at hun; exact hun
      refine wpOp_mono (fun a' w' h3 => ⟨h3.2.1, ih (listed.setIfInBounds j true) a' w' hfree' (hdc.set hj) (ready_mono hr (Ne.symm hji)) h3.1 ?_⟩) h2
      rw [Array.setIfInBounds_comm _ _ hji]
      exact h3.2.2
end
omit [W0] in
/-- The ground for taking number i first. -/
def takeB2 (ops : List Oper) (T : List Nat) (listed : Array Bool) (i : Nat) : Bool :=
  Region.noSelect ops.toArray && Region.free .any ops.toArray listed i && (Region.ready .any ops.toArray listed).contains i && dcB .any ops.toArray listed
    && T.all fun j => j == i || listed.getD j false || ancB .any ops.toArray i ops.length j
omit [W0] in
def takeB3 (ops : List Oper) (T : List Nat) (listed : Array Bool) (i : Nat) : Bool :=
  Region.noSelect ops.toArray && Region.free .any ops.toArray listed i && (Region.ready .any ops.toArray listed).contains i && dcB .any ops.toArray listed && T.contains i
section
variable {P : Program} {n : Nat} {Q : Exit → Act → World → Prop} {M : List (Nat × Value)} {L S : List Chunk} {ops : List Oper} {T : List Nat} {fuel : Nat} {listed : Array Bool} {d : Nat} {v : Value}
theorem WR_take2 (i : Nat) {o : Oper} (hi : ops[i]? = some o) (hg : o.guard = none) (hb : takeB2 ops T listed i = true) (hPO : PO Q) (hinc : Inc S L) (he : EV P n o M S d v) (hn : Nat.blt d n = true)
    (h : WR P n ops Q S T fuel (listed.setIfInBounds i true) ((d, v) :: M) L) : WR P n ops Q S T (fuel + 1) listed M L := ⟨fun a w ha hw => by
  simp only [takeB2, Bool.and_eq_true, List.all_eq_true, Bool.or_eq_true, beq_iff_eq] at hb
  obtain ⟨⟨⟨⟨h1, h2⟩, h3⟩, h4⟩, h5⟩ := hb
  have hi' : ops.toArray[i]? = some o := by simpa using hi
  refine wpAnyT_first2 hi' (Region.noSelect_spec h1) (fun c a w hq => hPO.out c a _ _ w hq) fuel listed a w (fun j hj hne => ?_) (Region.free_spec hi' h2) (DC.of h4) (by simpa using h3) (.inl ⟨by simp [Region.wanted, hg], fun w hw => he.run a w ha hw⟩) (hinc.holds hw) ?_
  · rcases h5 j hj with (h | h) | h
    · exact absurd h hne
    · exact .inl h
    · exact .inr ⟨_, h⟩
  · rw [he.dst]
    exact h.out _ w (ha.put v hn) hw⟩
structure EF (P : Program) (n : Nat) (o : Oper) (M : List (Nat × Value)) (d : Nat) (v : Value) : Prop where
  dst : o.dst = some d
  run : ∀ a w, St n M a → (execOp a.eval o).run P w = .ok (.value v) w
theorem WR_float (i : Nat) {o : Oper} (hi : ops[i]? = some o) (hg : o.guard = none) (hb : takeB3 ops T listed i = true) (hPO : PO Q) (he : EF P n o M d v) (hn : Nat.blt d n = true)
    (h : WR P n ops Q S T fuel (listed.setIfInBounds i true) ((d, v) :: M) L) : WR P n ops Q S T (fuel + 1) listed M L := ⟨fun a w ha hw => by
  simp only [takeB3, Bool.and_eq_true] at hb
  obtain ⟨⟨⟨⟨h1, h2⟩, h3⟩, h4⟩, h5⟩ := hb
  have hi' : ops.toArray[i]? = some o := by simpa using hi
  refine wpAnyT_float hi' (Region.noSelect_spec h1) (fun c a w hq => hPO.out c a _ _ w hq) (by simpa using h5) fuel listed a w (Region.free_spec hi' h2) (DC.of h4) (by simpa using h3) (.inl ⟨by simp [Region.wanted, hg], fun w _ => he.run a w ha⟩) ?_
  rw [he.dst]
  exact h.out _ w (ha.put v hn) hw⟩
variable {ty : TypeId} {ps : String} {af : Array Edge} {g : Option (Nat × Bool)} {x y : Operand}
theorem EF_move (hx : ev M x = some v) : EF P n ⟨some d, .move x, ty, ps, af, g⟩ M d v := ⟨rfl, fun a w ha => by simp [execOp, ha.eval hx]⟩
theorem EF_ari64 {op : BinOp} {t u : TypeId} {i j r : Int} (hx : ev M x = some (.int .i64 i)) (hy : ev M y = some (.int .i64 j)) (hb : ariI op i j = some r) (h1 : -9223372036854775808 ≤ r ∧ r ≤ 9223372036854775807) :
    EF P n ⟨some d, .binOp op t x y u, ty, ps, af, g⟩ M d (.int .i64 r) := ⟨rfl, fun a w ha => by
  have hw := wrap_i64 h1.1 h1.2
  cases op <;> simp [ariI] at hb <;> subst hb <;> simp [execOp, ha.eval hx, ha.eval hy, eqGuard, binOp, Op.intArith, hw]⟩
theorem WC_cut {X : Type} {x y : Code} (MI : X → List (Nat × Value)) (LI : X → List Chunk) (J : X → Prop) (h1 : WC P n x (Exit.then (fun a' w' => ∃ z, J z ∧ St n (MI z) a' ∧ Holds w' (LI z)) Q) M L) (h2 : ∀ z, J z → WC P n y Q (MI z) (LI z)) : WC P n (.seq x y) Q M L := ⟨fun a w ha hw => by
  refine wp_seq (wp_mono (h1.out a w ha hw) ?_)
  intro e a' w' hq
  cases e with
  | normal =>
    obtain ⟨z, hz, hs, hw'⟩ := hq
    exact (h2 z hz).out a' w' hs hw'
  | exit id => exact hq
  | goto l => exact hq
  | ret => exact hq
  | panic c => exact hq
  | outgrown => exact hq⟩
theorem WQ_cut {X : Type} {MI : X → List (Nat × Value)} {LI : X → List Chunk} {J : X → Prop} (z : X) (hJ : J z) (hM : Sub (MI z) M) (hL : ∀ w, Holds w L → Holds w (LI z)) : WQ n (fun a' w' => ∃ z, J z ∧ St n (MI z) a' ∧ Holds w' (LI z)) M L := ⟨fun _ w ha hw => ⟨z, hJ, ha.sub hM, hL w hw⟩⟩
theorem WR_t2 (i : Nat) {o : Oper} (h : WR P n ops Q S T fuel (listed.setIfInBounds i true) ((d, v) :: M) L)
    (hi : ops[i]? = some o := by exact rfl) (hg : o.guard = none := by exact rfl) (hb : takeB2 ops T listed i = true := by kernel_rfl) (hPO : PO Q := by exact iP) (hinc : Inc S L := by exact iC) (he : EV P n o M S d v := by exact (by first | (show EV _ _ ⟨_, .move _, _, _, _, _⟩ _ _ _ _; first | exact EV_move rfl) | (show EV _ _ ⟨_, .assign _, _, _, _, _⟩ _ _ _ _; first | exact EV_assign rfl) | (show EV _ _ ⟨_, .nilCheck _, _, _, _, _⟩ _ _ _ _; first | exact EV_nilCheck rfl) | (show EV _ _ ⟨_, .fieldAddr .., _, _, _, _⟩ _ _ _ _; first | exact EV_fieldAddr0 rfl | exact EV_fieldAddr rfl) | (show EV _ _ ⟨_, .load .., _, _, _, _⟩ _ _ _ _; first | exact EV_loadc rfl (by repeat (first | assumption | exact Fnd.here | refine Fnd.there ?_)) rfl | exact EV_loadAggC rfl (by repeat (first | assumption | exact Fnd.here | refine Fnd.there ?_)) rfl) | (show EV _ _ ⟨_, .binOp .., _, _, _, _⟩ _ _ _ _; first | exact EV_cmp rfl rfl rfl | exact EV_ari64 rfl rfl rfl (by omega) | exact EV_shr rfl rfl (by decide) (shr_lit (by omega) (by simp [IntKind.bits]; rfl)) | exact EV_strEq rfl rfl | exact EV_strNe rfl rfl | exact EV_strLt rfl rfl | exact EV_sliceEqNil rfl rfl | exact EV_sliceNeNil rfl rfl | exact EV_ptrEqNil rfl rfl | exact EV_ptrNeNil rfl rfl | exact EV_boolEq rfl rfl | exact EV_boolNe rfl rfl) | (show EV _ _ ⟨_, .convert .., _, _, _, _⟩ _ _ _ _; first | exact EV_convII rfl (wrap_i64 (by omega) (by omega)) | exact EV_convII rfl (wrap_u64 (by omega) (by omega)) | exact EV_convII rfl rfl) | (show EV _ _ ⟨_, .extract .., _, _, _, _⟩ _ _ _ _; first | exact EV_extract rfl rfl) | (show EV _ _ ⟨_, .unOp .., _, _, _, _⟩ _ _ _ _; first | exact EV_not rfl) | (show EV _ _ ⟨_, .pick .., _, _, _, _⟩ _ _ _ _; first | exact EV_pick rfl rfl) | (show EV _ _ ⟨_, .call ⟨.builtin .len, _, _⟩, _, _, _, _⟩ _ _ _ _; first | exact EV_lenSl rfl | exact EV_lenStr rfl) | (show EV _ _ ⟨_, .call ⟨.builtin .cap, _, _⟩, _, _, _, _⟩ _ _ _ _; first | exact EV_capSl rfl) | (show EV _ _ ⟨_, .call ⟨.builtin .min, _, _⟩, _, _, _, _⟩ _ _ _ _; first | exact EV_min rfl rfl) | (show EV _ _ ⟨_, .call ⟨.builtin .max, _, _⟩, _, _, _, _⟩ _ _ _ _; first | exact EV_max rfl rfl) | (show EV _ _ ⟨_, .makeInterface .., _, _, _, _⟩ _ _ _ _; first | exact EV_makeInterface rfl) | (show EV _ _ ⟨_, .makeFunc .., _, _, _, _⟩ _ _ _ _; first | exact EV_makeFunc rfl rfl) | (show EV _ _ ⟨_, .typeAssert .., _, _, _, _⟩ _ _ _ _; first | exact EV_assertYes rfl | exact EV_assertNo rfl rfl) | (show EV _ _ ⟨_, .build .., _, _, _, _⟩ _ _ _ _; first | exact EV_build rfl (by simp [fillL, patch, Value.cells]; rfl)))) (hn : Nat.blt d n = true := by exact rfl) :
    WR P n ops Q S T (fuel + 1) listed M L := WR_take2 i hi hg hb hPO hinc he hn h
theorem WR_f (i : Nat) {o : Oper} (h : WR P n ops Q S T fuel (listed.setIfInBounds i true) ((d, v) :: M) L)
    (hi : ops[i]? = some o := by exact rfl) (hg : o.guard = none := by exact rfl) (hb : takeB3 ops T listed i = true := by kernel_rfl) (hPO : PO Q := by exact iP) (he : EF P n o M d v := by first | exact EF_move rfl | exact EF_ari64 rfl rfl rfl (by omega)) (hn : Nat.blt d n = true := by exact rfl) :
    WR P n ops Q S T (fuel + 1) listed M L := WR_float i hi hg hb hPO he hn h
end
end Go.Vx
namespace Go.Vx
open Go Go.So
set_option linter.all false
variable [W0]
omit [W0] in
/-- A pair's cells; the cells of a row of pairs. -/
def cv (x : Nat × Nat) : List Value := [.int .i64 (x.1 : Int), .int .i64 (x.2 : Int)]
omit [W0] in
def cvs (f : Nat → Nat × Nat) : Nat → List Value
  | 0 => []
  | n + 1 => cvs f n ++ cv (f n)
theorem cvs_length (f : Nat → Nat × Nat) : ∀ n, (cvs f n).length = n * 2
  | 0 => rfl
  | n + 1 => by rw [cvs, List.length_append, cvs_length f n]; simp [cv]; omega
theorem cvs_congr {f g : Nat → Nat × Nat} : ∀ {n : Nat}, (∀ k, k < n → f k = g k) → cvs f n = cvs g n
  | 0, _ => rfl
  | n + 1, h => by rw [cvs, cvs, cvs_congr (fun k hk => h k (by omega)), h n (by omega)]
theorem cvs_split (f : Nat → Nat × Nat) : ∀ {n j : Nat}, j < n → ∃ A B, cvs f n = A ++ (cv (f j) ++ B) ∧ A.length = j * 2 ∧ ∀ y, cvs (upd f j y) n = A ++ (cv y ++ B)
  | 0, j, h => by omega
  | n + 1, j, h => by
    by_cases he : j = n
    · subst he
      refine ⟨cvs f j, [], by simp [cvs], cvs_length f j, fun y => ?_⟩
      rw [cvs, cvs_congr (g := f) (fun k hk => by simp only [upd]; rw [if_neg (by omega)])]
      simp [upd]
    · obtain ⟨A, B, h1, h2, h3⟩ := cvs_split f (n := n) (j := j) (by omega)
      refine ⟨A, B ++ cv (f n), by rw [cvs, h1]; simp, h2, fun y => ?_⟩
      rw [cvs, h3]
      simp only [upd]
      rw [if_neg (by omega)]
      simp
theorem cv_rd {f : Nat → Nat × Nat} {n j b : Nat} {rest : List Value} {T : TypeId} {L : List Chunk} (hj : j < n) (hf : Fnd L b (cl (cvs f n ++ rest) T)) : RdAt L ⟨b, j * 2, none⟩ (cv (f j)) := by
  obtain ⟨A, B, h1, h2, _⟩ := cvs_split f hj
  refine RdAt.cl' hf ?_
  have hl : (cv (f j)).length = 2 := rfl
  rw [h1, cut, List.append_assoc, ← h2, List.drop_left, List.append_assoc, List.take_left' rfl]
theorem cv_patch {f : Nat → Nat × Nat} {n j : Nat} {rest : List Value} {y : Nat × Nat} (hj : j < n) : patch (cvs f n ++ rest) (j * 2) (cv y) = cvs (upd f j y) n ++ rest := by
  obtain ⟨A, B, h1, h2, h3⟩ := cvs_split f hj
  rw [h1, h3, patch, ← h2]
  have hl : A.length + (cv y).length = (A ++ cv (f j)).length := by simp [cv]
  have e1 : A ++ (cv (f j) ++ B) ++ rest = A ++ (cv (f j) ++ (B ++ rest)) := by simp
  have e2 : A ++ (cv (f j) ++ B) ++ rest = (A ++ cv (f j)) ++ (B ++ rest) := by simp
  have t1 : (A ++ (cv (f j) ++ B) ++ rest).take A.length = A := by rw [e1, List.take_left]
  have t2 : (A ++ (cv (f j) ++ B) ++ rest).drop (A.length + (cv y).length) = B ++ rest := by rw [hl, e2, List.drop_left]
  rw [t1, t2]
  simp
end Go.Vx
namespace Go.Proofs.Ytbdpjbmfhnbheaa
open Go Go.Vx Go.So
variable [W0]
set_option maxRecDepth 4000
set_option linter.all false
theorem isnan_n (x : Int) (L : List Chunk) : GvP Try.prog 55 [.int .i64 x].toArray L (.bool false) := by
  refine Gv.of_body Try.func55 rfl rfl ?_
  (repeat' first|refine kW ?_|refine kU fun bk=>?_|refine kV fun hc=>?_|refine kZ (fun hc=>?_) fun hc=>?_|fail)
  refine kR ?_
  refine ⟨L, iC, ?_, rfl⟩
  simp [tupled]
omit [W0] in
def cmpZ (x y : Int) : Int := if x < y then -1 else if x > y then 1 else 0
theorem compare_n (x y : Int) (L : List Chunk) : GvP Try.prog 47 [.int .i64 x, .int .i64 y].toArray L (.int .i64 (cmpZ x y)) := by
  refine Gv.of_body Try.func47 rfl rfl ?_
  (repeat' first|refine kW ?_|refine kU fun bk=>?_|refine kV fun hc=>?_|refine kZ (fun hc=>?_) fun hc=>?_|fail)
  refine OW_callP rfl rfl rfl (isnan_n x L) rfl ?_
  (repeat' first|refine kW ?_|refine kU fun bk=>?_|refine kV fun hc=>?_|refine kZ (fun hc=>?_) fun hc=>?_|fail)
  refine OW_callP rfl rfl rfl (isnan_n y L) rfl ?_
  (repeat' first|refine kW ?_|refine kU fun bk=>?_|refine kV fun hc=>?_|refine kZ (fun hc=>?_) fun hc=>?_|fail)
  · refine kR ?_
    exact ⟨L, iC, by unfold cmpZ; rw [if_pos (by assumption)]; rfl, rfl⟩
  · refine kR ?_
    exact ⟨L, iC, by unfold cmpZ; rw [if_neg (by assumption), if_pos (by assumption)]; rfl, rfl⟩
  · refine kR ?_
    exact ⟨L, iC, by unfold cmpZ; rw [if_neg (by assumption), if_neg (by assumption)]; rfl, rfl⟩
theorem ccmp_n (x y : Nat × Nat) (L : List Chunk) : GvP Try.prog 46 [.agg (cv x).toArray, .agg (cv y).toArray].toArray L (.int .i64 (cmpZ (x.2 : Int) (y.2 : Int))) := by
  refine Gv.of_body Try.func46 rfl rfl ?_
  (repeat' first|refine kW ?_|refine kU fun bk=>?_|refine kV fun hc=>?_|refine kZ (fun hc=>?_) fun hc=>?_|fail)
  refine OW_callP rfl rfl rfl (compare_n _ _ _) rfl ?_
  (repeat' first|refine kW ?_|refine kU fun bk=>?_|refine kV fun hc=>?_|refine kZ (fun hc=>?_) fun hc=>?_|fail)
  refine kR ?_
  exact ⟨L, iC, rfl, rfl⟩
omit [W0] in
/-- The comparison that is handed on. -/
def cmpV : Value := .func (.func 46) #[] #[]
set_option maxHeartbeats 2000000 in
theorem swapr_n (f : Nat → Nat × Nat) (N b0 cap a b n : Nat) (rest : List Value) (L : List Chunk) (hN : N ≤ 1000) (h1 : a + n ≤ N) (h2 : b + n ≤ N) :
    Gv Try.prog 65 [.slice (some ⟨b0, 0, none⟩) N cap, .int .i64 (a : Int), .int .i64 (b : Int), .int .i64 (n : Int), cmpV].toArray ([(b0, cl (cvs f N ++ rest) 63)] :: L)
      (fun r L' => r = .tuple #[] ∧ L' = [(b0, cl (cvs (swr f a b n) N ++ rest) 63)] :: L) := by
  refine Gv.of_body Try.func65 rfl rfl ?_
  (repeat' first|refine kW ?_|refine kU fun bk=>?_|refine kV fun hc=>?_|refine kZ (fun hc=>?_) fun hc=>?_|fail)
  refine WC_loop (X := Nat) (fun i => [(0, .slice (some ⟨b0, 0, none⟩) N cap), (1, .int .i64 (a : Int)), (2, .int .i64 (b : Int)), (3, .int .i64 (n : Int)), (10, .int .i64 (i : Int))])
    (fun i => [(b0, cl (cvs (swr f a b i) N ++ rest) 63)] :: L) (fun i => i ≤ n) (fun i => n - i) 0 (Nat.zero_le _) iS (fun w h => h) ?_
  intro i hi
  obtain ⟨g, hg⟩ : ∃ g, g = swr f a b i := ⟨_, rfl⟩
  have hst : swr f a b (i + 1) = swp g (a + i) (b + i) := by rw [hg]; rfl
  rw [← hg]
  (repeat' first|refine kW ?_|refine kU fun bk=>?_|refine kV fun hc=>?_|refine kZ (fun hc=>?_) fun hc=>?_|fail)
  · have hlt : i < n := by omega
    refine WC_drawAll [4, 5, 6, 7, 21, 22, 23] mixed ?_
    (refine WR_f 4 ?_; refine WR_f 5 ?_; refine WR_f 6 ?_; refine WR_f 7 ?_)
    (refine WR_t2 0 ?_; refine WR_t2 1 ?_; refine WR_t2 2 ?_; refine WR_t2 3 ?_; refine WR_t2 8 ?_; refine WR_t2 9 ?_; refine WR_t2 10 ?_; refine WR_t2 11 ?_)
    (refine WR_take2 12 rfl rfl (by kernel_rfl) iP iC (EV_indexAddr0 (j := b + i) rfl rfl (by omega) (by omega)) (by rfl) ?_)
    (refine WR_take2 13 rfl rfl (by kernel_rfl) iP iC (EV_loadAgg rfl (cv_rd (f := g) (n := N) (j := b + i) (rest := rest) (by omega) (by repeat (first | assumption | exact Fnd.here | refine Fnd.there ?_))) rfl) (by rfl) ?_)
    (refine WR_t2 14 ?_; refine WR_t2 15 ?_; refine WR_t2 16 ?_; refine WR_t2 17 ?_)
    (refine WR_take2 18 rfl rfl (by kernel_rfl) iP iC (EV_indexAddr0 (j := a + i) rfl rfl (by omega) (by omega)) (by rfl) ?_)
    (refine WR_take2 19 rfl rfl (by kernel_rfl) iP iC (EV_loadAgg rfl (cv_rd (f := g) (n := N) (j := a + i) (rest := rest) (by omega) (by repeat (first | assumption | exact Fnd.here | refine Fnd.there ?_))) rfl) (by rfl) ?_)
    (refine WR_take2 20 rfl rfl (by kernel_rfl) iP iC (EV_indexAddr0 (j := a + i) rfl rfl (by omega) (by omega)) (by rfl) ?_)
    (refine WR_last 21 (by kernel_rfl) rfl rfl rfl ?_)
    refine OW_storeAggTo (vs := cv (g (b + i))) (cvs (upd g (a + i) (g (b + i))) N ++ rest) rfl rfl rfl rfl (cv_patch (by omega)) iU (by rw [List.length_append, cvs_length]; simp [cv]; omega) ?_
    (refine WR_last 22 (by kernel_rfl) rfl rfl rfl ?_)
    refine OW_EV (EV_indexAddr0 (j := b + i) rfl rfl (by omega) (by omega)) rfl ?_
    (refine WR_last 23 (by kernel_rfl) rfl rfl rfl ?_)
    refine OW_storeAggTo (l := cvs (upd g (a + i) (g (b + i))) N ++ rest) (vs := cv (g (a + i))) (cvs (swp g (a + i) (b + i)) N ++ rest) rfl rfl rfl rfl (by rw [cv_patch (n := N) (rest := rest) (j := b + i) (by omega), upd_swp]) iU (by rw [List.length_append, cvs_length]; simp [cv]; omega) ?_
    (refine WR_done (by kernel_rfl) ?_)
    rw [← hst]
    (repeat' first|refine kW ?_|refine kU fun bk=>?_|refine kV fun hc=>?_|refine kZ (fun hc=>?_) fun hc=>?_|fail)
    refine WQ_round (X := Nat) (μ := fun i => n - i) (x := i) (i + 1) (by omega) (by omega) iS (fun w h => h)
  · have hin : i = n := by omega
    rw [hg, hin]
    refine kR ?_
    exact ⟨_, iC, rfl, rfl⟩
end Go.Proofs.Ytbdpjbmfhnbheaa
namespace Go.Proofs.Ytbdpjbmfhnbheaa
open Go Go.Vx Go.So
variable [W0]
set_option maxRecDepth 4000
set_option linter.all false
set_option maxHeartbeats 2000000 in
theorem rotate_c (f : Nat → Nat × Nat) (N b0 cap a m b : Nat) (rest : List Value) (L : List Chunk) (hN : N ≤ 1000) (h1 : a < m) (h2 : m < b) (h3 : b ≤ N) :
    Gv Try.prog 63 [.slice (some ⟨b0, 0, none⟩) N cap, .int .i64 (a : Int), .int .i64 (m : Int), .int .i64 (b : Int), cmpV].toArray ([(b0, cl (cvs f N ++ rest) 63)] :: L)
      (fun r L' => r = .tuple #[] ∧ ∃ g, Mv a b f g ∧ g = rot f a m b ∧ L' = [(b0, cl (cvs g N ++ rest) 63)] :: L) := by
  refine Gv.of_body Try.func63 rfl rfl ?_
  (repeat' first|refine kW ?_|refine kU fun bk=>?_|refine kV fun hc=>?_|refine kZ (fun hc=>?_) fun hc=>?_|fail)
  refine WC_loop (X := Nat × Nat × (Nat → Nat × Nat)) (fun x => [(0, .slice (some ⟨b0, 0, none⟩) N cap), (2, .int .i64 (m : Int)), (4, cmpV), (10, .int .i64 (x.1 : Int)), (11, .int .i64 (x.2.1 : Int))])
    (fun x => [(b0, cl (cvs x.2.2 N ++ rest) 63)] :: L) (fun x => 0 < x.1 ∧ 0 < x.2.1 ∧ x.1 ≤ m - a ∧ m + x.2.1 ≤ b ∧ Mv a b f x.2.2 ∧ rot x.2.2 (m - x.1) m (m + x.2.1) = rot f a m b) (fun x => x.1 + x.2.1) (m - a, b - m, f)
    ⟨by simp only; omega, by simp only; omega, by simp only; omega, by simp only; omega, .refl f, by simp only; rw [show m - (m - a) = a from by omega, show m + (b - m) = b from by omega]⟩ iS (fun w h => h) ?_
  rintro ⟨i, j, g⟩ ⟨q1, q2, q3, q4, q5, q6⟩
  simp only at q1 q2 q3 q4 q5 q6 ⊢
  have hmv : ∀ c d n, a ≤ c → a ≤ d → c + n ≤ b → d + n ≤ b → Mv a b f (swr g c d n) := fun c d n p1 p2 p3 p4 => q5.trans (swr_mv g n p1 p2 p3 p4)
  (repeat' first|refine kW ?_|refine kU fun bk=>?_|refine kV fun hc=>?_|refine kZ (fun hc=>?_) fun hc=>?_|fail)
  · rw [show (m : Int) - (i : Int) = ((m - i : Nat) : Int) from by omega]
    refine OW_call rfl rfl rfl (swapr_n g N b0 cap (m - i) m j rest L hN (by omega) (by omega)) rfl (fun r L' hp => ?_)
    obtain ⟨rfl, rfl⟩ := hp
    (repeat' first|refine kW ?_|refine kU fun bk=>?_|refine kV fun hc=>?_|refine kZ (fun hc=>?_) fun hc=>?_|fail)
    refine WQ_round (X := Nat × Nat × (Nat → Nat × Nat)) (μ := fun x => x.1 + x.2.1) (x := (i, j, g)) (i - j, j, swr g (m - i) m j) (by simp only; omega) ⟨by simp only; omega, q2, by simp only; omega, q4, hmv _ _ _ (by omega) (by omega) (by omega) (by omega), ?_⟩ iS (fun w h => h)
    simp only
    rw [rot_more g (by omega) (by omega) q2]
    exact q6
  · rw [show (m : Int) - (i : Int) = ((m - i : Nat) : Int) from by omega, show (m : Int) + (j : Int) - (i : Int) = ((m + j - i : Nat) : Int) from by omega]
    refine OW_call rfl rfl rfl (swapr_n g N b0 cap (m - i) (m + j - i) i rest L hN (by omega) (by omega)) rfl (fun r L' hp => ?_)
    obtain ⟨rfl, rfl⟩ := hp
    (repeat' first|refine kW ?_|refine kU fun bk=>?_|refine kV fun hc=>?_|refine kZ (fun hc=>?_) fun hc=>?_|fail)
    refine WQ_round (X := Nat × Nat × (Nat → Nat × Nat)) (μ := fun x => x.1 + x.2.1) (x := (i, j, g)) (i, j - i, swr g (m - i) (m + j - i) i) (by simp only; omega) ⟨q1, by simp only; omega, q3, by simp only; omega, hmv _ _ _ (by omega) (by omega) (by omega) (by omega), ?_⟩ iS (fun w h => h)
    simp only
    rw [rot_less g (by omega) (by omega) q1]
    exact q6
  · have hij : i = j := by omega
    rw [show (m : Int) - (i : Int) = ((m - i : Nat) : Int) from by omega]
    refine OW_call rfl rfl rfl (swapr_n g N b0 cap (m - i) m i rest L hN (by omega) (by omega)) rfl (fun r L' hp => ?_)
    obtain ⟨rfl, rfl⟩ := hp
    (repeat' first|refine kW ?_|refine kU fun bk=>?_|refine kV fun hc=>?_|refine kZ (fun hc=>?_) fun hc=>?_|fail)
    refine kR ?_
    refine ⟨_, iC, rfl, swr g (m - i) m i, hmv _ _ _ (by omega) (by omega) (by omega) (by omega), ?_, rfl⟩
    rw [rot_same g (by omega)]
    rw [← hij] at q6
    exact q6
theorem cmpZ_lt (x y : Nat) : decide (cmpZ (x : Int) (y : Int) < 0) = decide (x < y) := by
  apply decide_eq_decide.2
  unfold cmpZ
  split
  · omega
  · split <;> omega
omit [W0] in
/-- By what coins are put in order. -/
def ky : Nat × Nat → Nat := fun x => x.2
set_option maxHeartbeats 4000000 in
theorem insert_c (f : Nat → Nat × Nat) (N b0 cap a b : Nat) (rest : List Value) (L : List Chunk) (hN : N ≤ 1000) (h1 : a ≤ b) (h3 : b ≤ N) :
    Gv Try.prog 60 [.slice (some ⟨b0, 0, none⟩) N cap, .int .i64 (a : Int), .int .i64 (b : Int), cmpV].toArray ([(b0, cl (cvs f N ++ rest) 63)] :: L)
      (fun r L' => r = .tuple #[] ∧ ∃ g, Mv a b f g ∧ Srt ky a b g ∧ L' = [(b0, cl (cvs g N ++ rest) 63)] :: L) := by
  refine Gv.of_body Try.func60 rfl rfl ?_
  (repeat' first|refine kW ?_|refine kU fun bk=>?_|refine kV fun hc=>?_|refine kZ (fun hc=>?_) fun hc=>?_|fail)
  refine WC_loop (X := Nat × (Nat → Nat × Nat)) (fun x => [(0, .slice (some ⟨b0, 0, none⟩) N cap), (1, .int .i64 (a : Int)), (2, .int .i64 (b : Int)), (3, cmpV), (8, .int .i64 (x.1 : Int))])
    (fun x => [(b0, cl (cvs x.2 N ++ rest) 63)] :: L) (fun x => a < x.1 ∧ x.1 ≤ b + 1 ∧ Mv a b f x.2 ∧ Srt ky a x.1 x.2) (fun x => b + 1 - x.1) (a + 1, f)
    ⟨by simp only; omega, by simp only; omega, .refl f, fun i j p q r => by simp only at r; rw [show i = j from by omega]; exact Nat.le_refl _⟩ iS (fun w h => h) ?_
  rintro ⟨i, g⟩ ⟨q1, q2, q3, q4⟩
  simp only at q1 q2 q3 q4 ⊢
  (repeat' first|refine kW ?_|refine kU fun bk=>?_|refine kV fun hc=>?_|refine kZ (fun hc=>?_) fun hc=>?_|fail)
  · have hib : i < b := by omega
    refine WC_loop (X := Nat × (Nat → Nat × Nat)) (fun x => [(0, .slice (some ⟨b0, 0, none⟩) N cap), (1, .int .i64 (a : Int)), (2, .int .i64 (b : Int)), (3, cmpV), (8, .int .i64 (i : Int)), (9, .int .i64 (x.1 : Int))])
      (fun x => [(b0, cl (cvs x.2 N ++ rest) 63)] :: L) (fun x => a ≤ x.1 ∧ x.1 ≤ i ∧ Mv a b f x.2 ∧ (∀ p q, a ≤ p → p ≤ q → q ≤ i → p ≠ x.1 → q ≠ x.1 → ky (x.2 p) ≤ ky (x.2 q)) ∧ ∀ q, x.1 < q → q ≤ i → ky (x.2 x.1) ≤ ky (x.2 q)) (fun x => x.1) (i, g)
      ⟨by simp only; omega, Nat.le_refl _, q3, fun p q hp hpq hq hpi hqi => q4 p q hp hpq (by simp only at hqi; omega), fun q h4 h5 => by simp only at h4; omega⟩ iS (fun w h => h) ?_
    clear q3 q4 g
    rintro ⟨j, g⟩ ⟨r1, r2, r3, r4, r5⟩
    simp only at r1 r2 r3 r4 r5 ⊢
    have hsrt : (j = a ∨ ¬ ky (g j) < ky (g (j - 1))) → Srt ky a (i + 1) g := by
      intro hend p q hp hpq hq
      by_cases e1 : p = j
      · subst e1
        by_cases e2 : p = q
        · rw [e2]; exact Nat.le_refl _
        · exact r5 q (by omega) (by omega)
      · by_cases e2 : q = j
        · subst e2
          rcases hend with h | h
          · omega
          · have := r4 p (q - 1) hp (by omega) (by omega) e1 (by omega)
            omega
        · exact r4 p q hp hpq (by omega) e1 e2
    (repeat' first|refine kW ?_|refine kU fun bk=>?_|refine kV fun hc=>?_|refine kZ (fun hc=>?_) fun hc=>?_|fail)
    by_cases hja : a < j
    · refine WC_drawAll [] mixed ?_
      (refine WR_t 0 ?_; refine WR_t 1 ?_; refine WR_t 2 ?_; refine WR_t 3 ?_)
      rw [show decide ((j : Int) > (a : Int)) = true from by simp; omega]
      (refine WR_u 4 ?_; refine WR_u 5 ?_; refine WR_u 6 ?_)
      (refine WR_takeOn 7 rfl rfl rfl (by kernel_rfl) iP iC (EV_indexAddr0 (j := j) (len := N) rfl rfl rfl (by omega)) (by rfl) ?_)
      (refine WR_takeOn 8 rfl rfl rfl (by kernel_rfl) iP iC (EV_loadAgg rfl (cv_rd (f := g) (n := N) (j := j) (rest := rest) (by omega) (by repeat (first | assumption | exact Fnd.here | refine Fnd.there ?_))) rfl) (by rfl) ?_)
      (refine WR_u 9 ?_; refine WR_u 10 ?_; refine WR_u 11 ?_)
      (refine WR_takeOn 12 rfl rfl rfl (by kernel_rfl) iP iC (EV_indexAddr0 (j := j - 1) (len := N) rfl rfl (by omega) (by omega)) (by rfl) ?_)
      (refine WR_takeOn 13 rfl rfl rfl (by kernel_rfl) iP iC (EV_loadAgg rfl (cv_rd (f := g) (n := N) (j := j - 1) (rest := rest) (by omega) (by repeat (first | assumption | exact Fnd.here | refine Fnd.there ?_))) rfl) (by rfl) ?_)
      (refine WR_oneOn 14 (by kernel_rfl) rfl rfl rfl ?_)
      refine OW_callP rfl rfl rfl (ccmp_n (g j) (g (j - 1)) _) rfl ?_
      refine ⟨iC, ?_⟩
      (refine WR_u 15 ?_)
      rw [cmpZ_lt]
      (refine WR_t 16 ?_)
      (refine WR_done (by kernel_rfl) ?_)
      (repeat' first|refine kW ?_|refine kU fun bk=>?_|refine kV fun hc=>?_|refine kZ (fun hc=>?_) fun hc=>?_|fail)
      · have hky : ky (g j) < ky (g (j - 1)) := by assumption
        refine WC_drawAll [2, 3, 4, 15, 16, 17] mixed ?_
        (refine WR_f 2 ?_; refine WR_f 3 ?_; refine WR_f 4 ?_)
        (refine WR_t2 0 ?_; refine WR_t2 1 ?_; refine WR_t2 5 ?_; refine WR_t2 6 ?_; refine WR_t2 7 ?_)
        (refine WR_take2 8 rfl rfl (by kernel_rfl) iP iC (EV_indexAddr0 (j := j - 1) (len := N) rfl rfl (by omega) (by omega)) (by rfl) ?_)
        (refine WR_take2 9 rfl rfl (by kernel_rfl) iP iC (EV_loadAgg rfl (cv_rd (f := g) (n := N) (j := j - 1) (rest := rest) (by omega) (by repeat (first | assumption | exact Fnd.here | refine Fnd.there ?_))) rfl) (by rfl) ?_)
        (refine WR_t2 10 ?_; refine WR_t2 11 ?_)
        (refine WR_take2 12 rfl rfl (by kernel_rfl) iP iC (EV_indexAddr0 (j := j) (len := N) rfl rfl rfl (by omega)) (by rfl) ?_)
        (refine WR_take2 13 rfl rfl (by kernel_rfl) iP iC (EV_loadAgg rfl (cv_rd (f := g) (n := N) (j := j) (rest := rest) (by omega) (by repeat (first | assumption | exact Fnd.here | refine Fnd.there ?_))) rfl) (by rfl) ?_)
        (refine WR_take2 14 rfl rfl (by kernel_rfl) iP iC (EV_indexAddr0 (j := j) (len := N) rfl rfl rfl (by omega)) (by rfl) ?_)
        (refine WR_last 15 (by kernel_rfl) rfl rfl rfl ?_)
        refine OW_storeAggTo (vs := cv (g (j - 1))) (cvs (upd g j (g (j - 1))) N ++ rest) rfl rfl rfl rfl (cv_patch (by omega)) iU (by rw [List.length_append, cvs_length]; simp [cv]; omega) ?_
        (refine WR_last 16 (by kernel_rfl) rfl rfl rfl ?_)
        refine OW_EV (EV_indexAddr0 (j := j - 1) (len := N) rfl rfl (by omega) (by omega)) rfl ?_
        (refine WR_last 17 (by kernel_rfl) rfl rfl rfl ?_)
        refine OW_storeAggTo (l := cvs (upd g j (g (j - 1))) N ++ rest) (vs := cv (g j)) (cvs (swp g j (j - 1)) N ++ rest) rfl rfl rfl rfl (by rw [cv_patch (n := N) (rest := rest) (j := j - 1) (by omega), upd_swp]) iU (by rw [List.length_append, cvs_length]; simp [cv]; omega) ?_
        (refine WR_done (by kernel_rfl) ?_)
        (repeat' first|refine kW ?_|refine kU fun bk=>?_|refine kV fun hc=>?_|refine kZ (fun hc=>?_) fun hc=>?_|fail)
        have ea : swp g j (j - 1) j = g (j - 1) := by simp [swp]
        have eb : swp g j (j - 1) (j - 1) = g j := by unfold swp; rw [if_neg (by omega), if_pos rfl]
        have ec : ∀ k, k ≠ j → k ≠ j - 1 → swp g j (j - 1) k = g k := fun k k1 k2 => by simp only [swp]; rw [if_neg k1, if_neg k2]
        refine WQ_round (X := Nat × (Nat → Nat × Nat)) (μ := fun x => x.1) (x := (j, g)) (j - 1, swp g j (j - 1)) (by simp only; omega) ⟨by simp only; omega, by simp only; omega, r3.step (by omega) (by omega) (by omega) (by omega), ?_, ?_⟩ iS (fun w h => h)
        · intro p q hp hpq hq hpj hqj
          simp only at hpj hqj ⊢
          by_cases e1 : p = j
          · subst e1
            by_cases e2 : q = p
            · rw [e2]; exact Nat.le_refl _
            · rw [ea, ec q e2 hqj]; exact r4 (p - 1) q (by omega) (by omega) hq (by omega) e2
          · rw [ec p e1 hpj]
            by_cases e2 : q = j
            · subst e2
              rw [ea]
              exact r4 p (q - 1) hp (by omega) (by omega) e1 (by omega)
            · rw [ec q e2 hqj]; exact r4 p q hp hpq hq e1 e2
        · intro q hq1 hq2
          simp only at hq1 ⊢
          rw [eb]
          by_cases e2 : q = j
          · subst e2; rw [ea]; exact Nat.le_of_lt hky
          · rw [ec q e2 (by omega)]; exact r5 q (by omega) hq2
      · have hky : ¬ ky (g j) < ky (g (j - 1)) := by assumption
        refine WQ_round (X := Nat × (Nat → Nat × Nat)) (μ := fun x => b + 1 - x.1) (x := (i, g)) (i + 1, g) (by simp only; omega) ⟨by simp only; omega, by simp only; omega, r3, hsrt (.inr hky)⟩ iS (fun w h => h)
    · refine WC_drawAll [] mixed ?_
      (refine WR_t 0 ?_; refine WR_t 1 ?_; refine WR_t 2 ?_; refine WR_t 3 ?_)
      rw [show decide ((j : Int) > (a : Int)) = false from by simp; omega]
      (refine WR_v 4 ?_; refine WR_v 5 ?_; refine WR_v 6 ?_; refine WR_v 7 ?_; refine WR_v 8 ?_; refine WR_v 9 ?_; refine WR_v 10 ?_; refine WR_v 11 ?_; refine WR_v 12 ?_; refine WR_v 13 ?_; refine WR_v 14 ?_; refine WR_v 15 ?_)
      (refine WR_t 16 ?_)
      (refine WR_done (by kernel_rfl) ?_)
      (repeat' first|refine kW ?_|refine kU fun bk=>?_|refine kV fun hc=>?_|refine kZ (fun hc=>?_) fun hc=>?_|fail)
      refine WQ_round (X := Nat × (Nat → Nat × Nat)) (μ := fun x => b + 1 - x.1) (x := (i, g)) (i + 1, g) (by simp only; omega) ⟨by simp only; omega, by simp only; omega, r3, hsrt (.inl (by omega))⟩ iS (fun w h => h)
  · refine kR ?_
    exact ⟨_, iC, rfl, g, q3, q4.sub (Nat.le_refl _) (by omega), rfl⟩
end Go.Proofs.Ytbdpjbmfhnbheaa
namespace Go.So
set_option linter.all false
variable {α : Type}
theorem rot_id (f : Nat → α) {s m e : Nat} (h1 : s ≤ m) (h2 : m ≤ e) (h : ¬ (s < m ∧ m < e)) : rot f s m e = f := by
  funext k
  simp only [rot]
  repeat' split
  all_goals first
    | rfl
    | (exfalso; omega)
    | (congr 1; omega)
theorem merge_end {key : α → Nat} {a mid b : Nat} {g1 g2 g3 : Nat → α} (ha : a ≤ mid) (hc : ∀ i j, a ≤ i → i < mid → mid ≤ j → j < b → key (g1 i) ≤ key (g1 j)) (m2 : Mv a mid g1 g2) (m3 : Mv mid b g2 g3) (s2 : Srt key a mid g2) (s3 : Srt key mid b g3) : Srt key a b g3 := by
  refine Srt.join (m := mid) (s2.congr fun k hk1 hk2 => m3.out (.inl hk2)) s3 ?_
  intro i j hi hi2 hj hj2
  rw [m3.out (.inl hi2)]
  refine m3.all (p := fun x => key (g2 i) ≤ key x) (fun j hj hj2 => ?_) j hj hj2
  rw [m2.out (.inr hj)]
  exact m2.all (p := fun x => key x ≤ key (g1 j)) (fun i hi hi2 => hc i j hi hi2 hj hj2) i hi hi2
theorem merge_mid {key : α → Nat} {a s m mid e b : Nat} {f : Nat → α} (h1 : a ≤ s) (h2 : s ≤ m) (h3 : m ≤ e) (h4 : e ≤ b) (hm : s + (e - m) = mid) (sl : Srt key a m f) (sr : Srt key m b f)
    (hab : a < s → e < b → key (f (s - 1)) ≤ key (f e)) (hba : m < e → s < m → key (f (e - 1)) ≤ key (f s)) :
    (∀ i j, a ≤ i → i < mid → mid ≤ j → j < b → key (rot f s m e i) ≤ key (rot f s m e j)) ∧ Srt key a s (rot f s m e) ∧ Srt key s mid (rot f s m e) ∧ Srt key mid e (rot f s m e) ∧ Srt key e b (rot f s m e) := by
  have v1 : ∀ k, k < s → rot f s m e k = f k := fun k hk => by simp only [rot]; rw [if_neg (by omega), if_neg (by omega)]
  have v2 : ∀ k, s ≤ k → k < mid → rot f s m e k = f (k - s + m) := fun k hk hk2 => by simp only [rot]; rw [if_pos (by omega)]
  have v3 : ∀ k, mid ≤ k → k < e → rot f s m e k = f (k - (e - m)) := fun k hk hk2 => by simp only [rot]; rw [if_neg (by omega), if_pos (by omega)]
  have v4 : ∀ k, e ≤ k → rot f s m e k = f k := fun k hk => by simp only [rot]; rw [if_neg (by omega), if_neg (by omega)]
  refine ⟨fun i j hi hi2 hj hj2 => ?_, fun i j p q r => ?_, fun i j p q r => ?_, fun i j p q r => ?_, fun i j p q r => ?_⟩
  · by_cases ci : i < s
    · rw [v1 i ci]
      by_cases cj : j < e
      · rw [v3 j hj cj]
        exact sl i _ hi (by omega) (by omega)
      · rw [v4 j (by omega)]
        exact Nat.le_trans (sl i (s - 1) hi (by omega) (by omega)) (Nat.le_trans (hab (by omega) (by omega)) (sr e j (by omega) (by omega) hj2))
    · rw [v2 i (by omega) hi2]
      by_cases cj : j < e
      · rw [v3 j hj cj]
        exact Nat.le_trans (sr _ (e - 1) (by omega) (by omega) (by omega)) (Nat.le_trans (hba (by omega) (by omega)) (sl s _ (by omega) (by omega) (by omega)))
      · rw [v4 j (by omega)]
        exact sr _ _ (by omega) (by omega) hj2
  · rw [v1 i (by omega), v1 j r]; exact sl i j p q (by omega)
  · rw [v2 i (by omega) (by omega), v2 j (by omega) r]; exact sr _ _ (by omega) (by omega) (by omega)
  · rw [v3 i (by omega) (by omega), v3 j (by omega) r]; exact sl _ _ (by omega) (by omega) (by omega)
  · rw [v4 i (by omega), v4 j (by omega)]; exact sr _ _ (by omega) (by omega) (by omega)
end Go.So
namespace Go.Proofs.Ytbdpjbmfhnbheaa
open Go Go.Vx Go.So
variable [W0]
set_option maxRecDepth 4000
set_option linter.all false
def MergeC (N k : Nat) : Prop := ∀ (f : Nat → Nat × Nat) (b0 cap a m b : Nat) (rest : List Value) (L : List Chunk), b - a ≤ k → a < m → m < b → b ≤ N → Srt ky a m f → Srt ky m b f →
    Gv Try.prog 61 [.slice (some ⟨b0, 0, none⟩) N cap, .int .i64 (a : Int), .int .i64 (m : Int), .int .i64 (b : Int), cmpV].toArray ([(b0, cl (cvs f N ++ rest) 63)] :: L)
      (fun r L' => r = .tuple #[] ∧ ∃ g, Mv a b f g ∧ Srt ky a b g ∧ L' = [(b0, cl (cvs g N ++ rest) 63)] :: L)
set_option maxHeartbeats 8000000 in
theorem merge_c (N : Nat) (hN : N ≤ 1000) : ∀ k, MergeC N k := by
  intro k
  induction k with
  | zero => intro f b0 cap a m b rest L h; omega
  | succ k ih =>
    intro f b0 cap a m b rest L hk h1 h2 h3 sl sr
    refine Gv.of_body Try.func61 rfl rfl ?_
    (repeat' first|refine kW ?_|refine kU fun bk=>?_|refine kV fun hc=>?_|refine kZ (fun hc=>?_) fun hc=>?_|fail)
    · have hma : m = a + 1 := by omega
      refine WC_loop (X := Nat × Nat) (fun x => [(0, .slice (some ⟨b0, 0, none⟩) N cap), (1, .int .i64 (a : Int)), (2, .int .i64 (m : Int)), (3, .int .i64 (b : Int)), (4, cmpV), (10, .int .i64 (x.1 : Int)), (11, .int .i64 (x.2 : Int))])
        (fun x => [(b0, cl (cvs f N ++ rest) 63)] :: L) (fun x => m ≤ x.1 ∧ x.1 ≤ x.2 ∧ x.2 ≤ b ∧ (∀ t, m ≤ t → t < x.1 → ky (f t) < ky (f a)) ∧ ∀ t, x.2 ≤ t → t < b → ky (f a) ≤ ky (f t)) (fun x => x.2 - x.1) (m, b)
        ⟨Nat.le_refl _, by simp only; omega, Nat.le_refl _, fun t p q => by simp only at q; omega, fun t p q => by simp only at p; omega⟩ iS (fun w h => h) ?_
      rintro ⟨i, j⟩ ⟨q1, q2, q3, q4, q5⟩
      simp only at q1 q2 q3 q4 q5 ⊢
      (repeat' first|refine kW ?_|refine kU fun bk=>?_|refine kV fun hc=>?_|refine kZ (fun hc=>?_) fun hc=>?_|fail)
      · rw [show ((i : Int) + (j : Int)) / 2 = (((i + j) / 2 : Nat) : Int) from by omega]
        obtain ⟨h, hh⟩ : ∃ h, h = (i + j) / 2 := ⟨_, rfl⟩
        rw [← hh]
        refine WC_drawAll [] mixed ?_
        (refine WR_t 0 ?_; refine WR_t 1 ?_; refine WR_t 2 ?_)
        (refine WR_take 3 rfl rfl (by kernel_rfl) iP iC (EV_indexAddr0 (j := h) (len := N) rfl rfl rfl (by omega)) (by rfl) ?_)
        (refine WR_take 4 rfl rfl (by kernel_rfl) iP iC (EV_loadAgg rfl (cv_rd (f := f) (n := N) (j := h) (rest := rest) (by omega) (by repeat (first | assumption | exact Fnd.here | refine Fnd.there ?_))) rfl) (by rfl) ?_)
        (refine WR_t 5 ?_; refine WR_t 6 ?_)
        (refine WR_take 7 rfl rfl (by kernel_rfl) iP iC (EV_indexAddr0 (j := a) (len := N) rfl rfl rfl (by omega)) (by rfl) ?_)
        (refine WR_take 8 rfl rfl (by kernel_rfl) iP iC (EV_loadAgg rfl (cv_rd (f := f) (n := N) (j := a) (rest := rest) (by omega) (by repeat (first | assumption | exact Fnd.here | refine Fnd.there ?_))) rfl) (by rfl) ?_)
        (refine WR_one 9 (by kernel_rfl) rfl rfl ?_)
        refine OW_callP rfl rfl rfl (ccmp_n (f h) (f a) _) rfl ?_
        refine ⟨iC, ?_⟩
        (refine WR_t 10 ?_)
        rw [cmpZ_lt]
        (refine WR_done (by kernel_rfl) ?_)
        (repeat' first|refine kW ?_|refine kU fun bk=>?_|refine kV fun hc=>?_|refine kZ (fun hc=>?_) fun hc=>?_|fail)
        · have hky : ky (f h) < ky (f a) := by assumption
          refine WQ_round (X := Nat × Nat) (μ := fun x => x.2 - x.1) (x := (i, j)) (h + 1, j) (by simp only; omega) ⟨by simp only; omega, by simp only; omega, q3, fun t p q => ?_, q5⟩ iS (fun w h => h)
          simp only at q
          exact Nat.lt_of_le_of_lt (sr t h p (by omega) (by omega)) hky
        · have hky : ¬ ky (f h) < ky (f a) := by assumption
          refine WQ_round (X := Nat × Nat) (μ := fun x => x.2 - x.1) (x := (i, j)) (i, h) (by simp only; omega) ⟨q1, by simp only; omega, by simp only; omega, q4, fun t p q => ?_⟩ iS (fun w h => h)
          simp only at p
          exact Nat.le_trans (by omega) (sr h t (by omega) p q)
      · have hij : i = j := by omega
        refine WC_loop (X := Nat × (Nat → Nat × Nat)) (fun x => [(0, .slice (some ⟨b0, 0, none⟩) N cap), (10, .int .i64 (i : Int)), (13, .int .i64 (x.1 : Int))])
          (fun x => [(b0, cl (cvs x.2 N ++ rest) 63)] :: L) (fun x => a ≤ x.1 ∧ x.1 ≤ i - 1 ∧ Mv a b f x.2 ∧ x.2 x.1 = f a ∧ (∀ t, a ≤ t → t < x.1 → x.2 t = f (t + 1)) ∧ ∀ t, x.1 < t → x.2 t = f t) (fun x => i - x.1) (a, f)
          ⟨Nat.le_refl _, by simp only; omega, .refl f, rfl, fun t p q => by simp only at q; omega, fun t p => rfl⟩ iS (fun w h => h) ?_
        rintro ⟨k, g⟩ ⟨r1, r2, r3, r4, r5, r6⟩
        simp only at r1 r2 r3 r4 r5 r6 ⊢
        (repeat' first|refine kW ?_|refine kU fun bk=>?_|refine kV fun hc=>?_|refine kZ (fun hc=>?_) fun hc=>?_|fail)
        · refine WC_drawAll [2, 3, 4, 15, 16, 17] mixed ?_
          (refine WR_f 2 ?_; refine WR_f 3 ?_; refine WR_f 4 ?_)
          (refine WR_t2 0 ?_; refine WR_t2 1 ?_; refine WR_t2 5 ?_; refine WR_t2 6 ?_; refine WR_t2 7 ?_)
          (refine WR_take2 8 rfl rfl (by kernel_rfl) iP iC (EV_indexAddr0 (j := k + 1) (len := N) rfl rfl (by omega) (by omega)) (by rfl) ?_)
          (refine WR_take2 9 rfl rfl (by kernel_rfl) iP iC (EV_loadAgg rfl (cv_rd (f := g) (n := N) (j := k + 1) (rest := rest) (by omega) (by repeat (first | assumption | exact Fnd.here | refine Fnd.there ?_))) rfl) (by rfl) ?_)
          (refine WR_t2 10 ?_; refine WR_t2 11 ?_)
          (refine WR_take2 12 rfl rfl (by kernel_rfl) iP iC (EV_indexAddr0 (j := k) (len := N) rfl rfl rfl (by omega)) (by rfl) ?_)
          (refine WR_take2 13 rfl rfl (by kernel_rfl) iP iC (EV_loadAgg rfl (cv_rd (f := g) (n := N) (j := k) (rest := rest) (by omega) (by repeat (first | assumption | exact Fnd.here | refine Fnd.there ?_))) rfl) (by rfl) ?_)
          (refine WR_take2 14 rfl rfl (by kernel_rfl) iP iC (EV_indexAddr0 (j := k) (len := N) rfl rfl rfl (by omega)) (by rfl) ?_)
          (refine WR_last 15 (by kernel_rfl) rfl rfl rfl ?_)
          refine OW_storeAggTo (vs := cv (g (k + 1))) (cvs (upd g (k) (g (k + 1))) N ++ rest) rfl rfl rfl rfl (cv_patch (by omega)) iU (by rw [List.length_append, cvs_length]; simp [cv]; omega) ?_
          (refine WR_last 16 (by kernel_rfl) rfl rfl rfl ?_)
          refine OW_EV (EV_indexAddr0 (j := k + 1) (len := N) rfl rfl (by omega) (by omega)) rfl ?_
          (refine WR_last 17 (by kernel_rfl) rfl rfl rfl ?_)
          refine OW_storeAggTo (l := cvs (upd g (k) (g (k + 1))) N ++ rest) (vs := cv (g (k))) (cvs (swp g (k) (k + 1)) N ++ rest) rfl rfl rfl rfl (by rw [cv_patch (n := N) (rest := rest) (j := k + 1) (by omega), upd_swp]) iU (by rw [List.length_append, cvs_length]; simp [cv]; omega) ?_
          (refine WR_done (by kernel_rfl) ?_)
          (repeat' first|refine kW ?_|refine kU fun bk=>?_|refine kV fun hc=>?_|refine kZ (fun hc=>?_) fun hc=>?_|fail)
          refine WQ_round (X := Nat × (Nat → Nat × Nat)) (μ := fun x => i - x.1) (x := (k, g)) (k + 1, swp g k (k + 1)) (by simp only; omega) ⟨by simp only; omega, by simp only; omega, r3.step (by omega) (by omega) (by omega) (by omega), ?_, fun t p q => ?_, fun t p => ?_⟩ iS (fun w h => h)
          · show swp g k (k + 1) (k + 1) = f a
            unfold swp
            rw [if_neg (by omega), if_pos rfl]
            exact r4
          · show swp g k (k + 1) t = f (t + 1)
            unfold swp
            simp only at q
            by_cases e : t = k
            · rw [if_pos e, r6 (k + 1) (by omega), e]
            · rw [if_neg e, if_neg (by omega)]
              exact r5 t p (by omega)
          · show swp g k (k + 1) t = f t
            unfold swp
            simp only at p
            rw [if_neg (by omega), if_neg (by omega)]
            exact r6 t (by omega)
        · have hki : k = i - 1 := by omega
          refine kR ?_
          refine ⟨_, iC, rfl, g, r3, fun p q hp hpq hq => ?_, rfl⟩
          by_cases e1 : p < k
          · rw [r5 p hp e1]
            by_cases e2 : q < k
            · rw [r5 q (by omega) e2]; exact sr _ _ (by omega) (by omega) (by omega)
            · by_cases e3 : q = k
              · rw [e3, r4]; exact Nat.le_of_lt (q4 _ (by omega) (by omega))
              · rw [r6 q (by omega)]; exact sr _ _ (by omega) (by omega) hq
          · by_cases e2 : p = k
            · rw [e2, r4]
              by_cases e3 : q = k
              · rw [e3, r4]; exact Nat.le_refl _
              · rw [r6 q (by omega)]; exact q5 q (by omega) hq
            · rw [r6 p (by omega), r6 q (by omega)]; exact sr _ _ (by omega) hpq hq
    · have hmb : b = m + 1 := by omega
      refine WC_loop (X := Nat × Nat) (fun x => [(0, .slice (some ⟨b0, 0, none⟩) N cap), (1, .int .i64 (a : Int)), (2, .int .i64 (m : Int)), (3, .int .i64 (b : Int)), (4, cmpV), (14, .int .i64 (x.1 : Int)), (15, .int .i64 (x.2 : Int))])
        (fun x => [(b0, cl (cvs f N ++ rest) 63)] :: L) (fun x => a ≤ x.1 ∧ x.1 ≤ x.2 ∧ x.2 ≤ m ∧ (∀ t, a ≤ t → t < x.1 → ky (f t) ≤ ky (f m)) ∧ ∀ t, x.2 ≤ t → t < m → ky (f m) ≤ ky (f t)) (fun x => x.2 - x.1) (a, m)
        ⟨Nat.le_refl _, by simp only; omega, Nat.le_refl _, fun t p q => by simp only at q; omega, fun t p q => by simp only at p; omega⟩ iS (fun w h => h) ?_
      rintro ⟨i, j⟩ ⟨q1, q2, q3, q4, q5⟩
      simp only at q1 q2 q3 q4 q5 ⊢
      (repeat' first|refine kW ?_|refine kU fun bk=>?_|refine kV fun hc=>?_|refine kZ (fun hc=>?_) fun hc=>?_|fail)
      · rw [show ((i : Int) + (j : Int)) / 2 = (((i + j) / 2 : Nat) : Int) from by omega]
        obtain ⟨h, hh⟩ : ∃ h, h = (i + j) / 2 := ⟨_, rfl⟩
        rw [← hh]
        refine WC_drawAll [] mixed ?_
        (refine WR_t 0 ?_; refine WR_t 1 ?_; refine WR_t 2 ?_)
        (refine WR_take 3 rfl rfl (by kernel_rfl) iP iC (EV_indexAddr0 (j := m) (len := N) rfl rfl rfl (by omega)) (by rfl) ?_)
        (refine WR_take 4 rfl rfl (by kernel_rfl) iP iC (EV_loadAgg rfl (cv_rd (f := f) (n := N) (j := m) (rest := rest) (by omega) (by repeat (first | assumption | exact Fnd.here | refine Fnd.there ?_))) rfl) (by rfl) ?_)
        (refine WR_t 5 ?_; refine WR_t 6 ?_)
        (refine WR_take 7 rfl rfl (by kernel_rfl) iP iC (EV_indexAddr0 (j := h) (len := N) rfl rfl rfl (by omega)) (by rfl) ?_)
        (refine WR_take 8 rfl rfl (by kernel_rfl) iP iC (EV_loadAgg rfl (cv_rd (f := f) (n := N) (j := h) (rest := rest) (by omega) (by repeat (first | assumption | exact Fnd.here | refine Fnd.there ?_))) rfl) (by rfl) ?_)
        (refine WR_one 9 (by kernel_rfl) rfl rfl ?_)
        refine OW_callP rfl rfl rfl (ccmp_n (f m) (f h) _) rfl ?_
        refine ⟨iC, ?_⟩
        (refine WR_t 10 ?_)
        rw [cmpZ_lt]
        (refine WR_t 11 ?_)
        (refine WR_done (by kernel_rfl) ?_)
        (repeat' first|refine kW ?_|refine kU fun bk=>?_|refine kV fun hc=>?_|refine kZ (fun hc=>?_) fun hc=>?_|fail)
        · have hky : ¬ ky (f m) < ky (f h) := by assumption
          refine WQ_round (X := Nat × Nat) (μ := fun x => x.2 - x.1) (x := (i, j)) (h + 1, j) (by simp only; omega) ⟨by simp only; omega, by simp only; omega, q3, fun t p q => ?_, q5⟩ iS (fun w h => h)
          simp only at q
          exact Nat.le_trans (sl t h p (by omega) (by omega)) (by omega)
        · have hky : ky (f m) < ky (f h) := by assumption
          refine WQ_round (X := Nat × Nat) (μ := fun x => x.2 - x.1) (x := (i, j)) (i, h) (by simp only; omega) ⟨q1, by simp only; omega, by simp only; omega, q4, fun t p q => ?_⟩ iS (fun w h => h)
          simp only at p
          exact Nat.le_trans (Nat.le_of_lt hky) (sl h t (by omega) p q)
      · have hij : i = j := by omega
        refine WC_loop (X := Nat × (Nat → Nat × Nat)) (fun x => [(0, .slice (some ⟨b0, 0, none⟩) N cap), (14, .int .i64 (i : Int)), (17, .int .i64 (x.1 : Int))])
          (fun x => [(b0, cl (cvs x.2 N ++ rest) 63)] :: L) (fun x => i ≤ x.1 ∧ x.1 ≤ m ∧ Mv a b f x.2 ∧ x.2 x.1 = f m ∧ (∀ t, x.1 < t → t ≤ m → x.2 t = f (t - 1)) ∧ ∀ t, t < x.1 → x.2 t = f t) (fun x => x.1) (m, f)
          ⟨by simp only; omega, Nat.le_refl _, .refl f, rfl, fun t p q => by simp only at p; omega, fun t p => rfl⟩ iS (fun w h => h) ?_
        rintro ⟨k, g⟩ ⟨r1, r2, r3, r4, r5, r6⟩
        simp only at r1 r2 r3 r4 r5 r6 ⊢
        (repeat' first|refine kW ?_|refine kU fun bk=>?_|refine kV fun hc=>?_|refine kZ (fun hc=>?_) fun hc=>?_|fail)
        · refine WC_drawAll [2, 3, 4, 15, 16, 17] mixed ?_
          (refine WR_f 2 ?_; refine WR_f 3 ?_; refine WR_f 4 ?_)
          (refine WR_t2 0 ?_; refine WR_t2 1 ?_; refine WR_t2 5 ?_; refine WR_t2 6 ?_; refine WR_t2 7 ?_)
          (refine WR_take2 8 rfl rfl (by kernel_rfl) iP iC (EV_indexAddr0 (j := k - 1) (len := N) rfl rfl (by omega) (by omega)) (by rfl) ?_)
          (refine WR_take2 9 rfl rfl (by kernel_rfl) iP iC (EV_loadAgg rfl (cv_rd (f := g) (n := N) (j := k - 1) (rest := rest) (by omega) (by repeat (first | assumption | exact Fnd.here | refine Fnd.there ?_))) rfl) (by rfl) ?_)
          (refine WR_t2 10 ?_; refine WR_t2 11 ?_)
          (refine WR_take2 12 rfl rfl (by kernel_rfl) iP iC (EV_indexAddr0 (j := k) (len := N) rfl rfl rfl (by omega)) (by rfl) ?_)
          (refine WR_take2 13 rfl rfl (by kernel_rfl) iP iC (EV_loadAgg rfl (cv_rd (f := g) (n := N) (j := k) (rest := rest) (by omega) (by repeat (first | assumption | exact Fnd.here | refine Fnd.there ?_))) rfl) (by rfl) ?_)
          (refine WR_take2 14 rfl rfl (by kernel_rfl) iP iC (EV_indexAddr0 (j := k) (len := N) rfl rfl rfl (by omega)) (by rfl) ?_)
          (refine WR_last 15 (by kernel_rfl) rfl rfl rfl ?_)
          refine OW_storeAggTo (vs := cv (g (k - 1))) (cvs (upd g (k) (g (k - 1))) N ++ rest) rfl rfl rfl rfl (cv_patch (by omega)) iU (by rw [List.length_append, cvs_length]; simp [cv]; omega) ?_
          (refine WR_last 16 (by kernel_rfl) rfl rfl rfl ?_)
          refine OW_EV (EV_indexAddr0 (j := k - 1) (len := N) rfl rfl (by omega) (by omega)) rfl ?_
          (refine WR_last 17 (by kernel_rfl) rfl rfl rfl ?_)
          refine OW_storeAggTo (l := cvs (upd g (k) (g (k - 1))) N ++ rest) (vs := cv (g (k))) (cvs (swp g (k) (k - 1)) N ++ rest) rfl rfl rfl rfl (by rw [cv_patch (n := N) (rest := rest) (j := k - 1) (by omega), upd_swp]) iU (by rw [List.length_append, cvs_length]; simp [cv]; omega) ?_
          (refine WR_done (by kernel_rfl) ?_)
          (repeat' first|refine kW ?_|refine kU fun bk=>?_|refine kV fun hc=>?_|refine kZ (fun hc=>?_) fun hc=>?_|fail)
          refine WQ_round (X := Nat × (Nat → Nat × Nat)) (μ := fun x => x.1) (x := (k, g)) (k - 1, swp g k (k - 1)) (by simp only; omega) ⟨by simp only; omega, by simp only; omega, r3.step (by omega) (by omega) (by omega) (by omega), ?_, fun t p q => ?_, fun t p => ?_⟩ iS (fun w h => h)
          · show swp g k (k - 1) (k - 1) = f m
            unfold swp
            rw [if_neg (by omega), if_pos rfl]
            exact r4
          · show swp g k (k - 1) t = f (t - 1)
            unfold swp
            simp only at p
            by_cases e : t = k
            · rw [if_pos e, r6 (k - 1) (by omega), e]
            · rw [if_neg e, if_neg (by omega)]
              exact r5 t (by omega) q
          · show swp g k (k - 1) t = f t
            unfold swp
            simp only at p
            rw [if_neg (by omega), if_neg (by omega)]
            exact r6 t (by omega)
        · have hki : k = i := by omega
          refine kR ?_
          refine ⟨_, iC, rfl, g, r3, fun p q hp hpq hq => ?_, rfl⟩
          by_cases e1 : p < k
          · rw [r6 p e1]
            by_cases e2 : q < k
            · rw [r6 q e2]; exact sl _ _ hp hpq (by omega)
            · by_cases e3 : q = k
              · rw [e3, r4]; exact q4 _ hp (by omega)
              · rw [r5 q (by omega) (by omega)]; exact sl _ _ hp (by omega) (by omega)
          · by_cases e2 : p = k
            · rw [e2, r4]
              by_cases e3 : q = k
              · rw [e3, r4]; exact Nat.le_refl _
              · rw [r5 q (by omega) (by omega)]; exact q5 _ (by omega) (by omega)
            · rw [r5 p (by omega) (by omega), r5 q (by omega) (by omega)]; exact sl _ _ (by omega) (by omega) (by omega)
    · obtain ⟨mid, hmid⟩ : ∃ mid, mid = (a + b) / 2 := ⟨_, rfl⟩
      obtain ⟨s0, hs0⟩ : ∃ s0, s0 = mid + m - b := ⟨_, rfl⟩
      obtain ⟨r0, hr0⟩ : ∃ r0, r0 = mid := ⟨_, rfl⟩
      have hsr : s0 ≤ r0 := by omega
      refine WC_loop (X := Nat × Nat) (fun x => [(0, .slice (some ⟨b0, 0, none⟩) N cap), (1, .int .i64 (a : Int)), (2, .int .i64 (m : Int)), (3, .int .i64 (b : Int)), (4, cmpV), (18, .int .i64 (mid : Int)), (19, .int .i64 ((mid + m : Nat) : Int)), (20, .int .i64 (x.1 : Int)), (21, .int .i64 (x.2 : Int)), (22, .int .i64 ((mid + m - 1 : Nat) : Int))])
        (fun x => [(b0, cl (cvs f N ++ rest) 63)] :: L) (fun x => s0 ≤ x.1 ∧ x.1 ≤ x.2 ∧ x.2 ≤ r0 ∧ (∀ t, s0 ≤ t → t < x.1 → ky (f t) ≤ ky (f (mid + m - 1 - t))) ∧ ∀ t, x.2 ≤ t → t < r0 → ky (f (mid + m - 1 - t)) < ky (f t)) (fun x => x.2 - x.1) (s0, r0)
        ⟨Nat.le_refl _, hsr, Nat.le_refl _, fun t p q => by simp only at q; omega, fun t p q => by simp only at p; omega⟩ iS (fun w h => h) ?_
      rintro ⟨s, r⟩ ⟨q1, q2, q3, q4, q5⟩
      simp only at q1 q2 q3 q4 q5 ⊢
      refine WC_seq ?_
      (repeat' first|refine kY ?_|refine kU fun bk=>?_|refine kV fun hc=>?_|refine kZ (fun hc=>?_) fun hc=>?_|fail)
      refine WC_seq ?_
      (repeat' first|refine kY ?_|refine kU fun bk=>?_|refine kV fun hc=>?_|refine kZ (fun hc=>?_) fun hc=>?_|fail)
      · (repeat' first|refine kW ?_|refine kU fun bk=>?_|refine kV fun hc=>?_|refine kZ (fun hc=>?_) fun hc=>?_|fail)
        rw [show ((s : Int) + (r : Int)) / 2 = (((s + r) / 2 : Nat) : Int) from by omega]
        obtain ⟨h, hh⟩ : ∃ h, h = (s + r) / 2 := ⟨_, rfl⟩
        rw [← hh]
        refine WC_drawAll [] mixed ?_
        (refine WR_t 0 ?_; refine WR_t 1 ?_; refine WR_t 2 ?_; refine WR_t 3 ?_; refine WR_t 4 ?_)
        (refine WR_take 5 rfl rfl (by kernel_rfl) iP iC (EV_indexAddr0 (j := mid + m - 1 - h) (len := N) rfl rfl (by omega) (by omega)) (by rfl) ?_)
        (refine WR_take 6 rfl rfl (by kernel_rfl) iP iC (EV_loadAgg rfl (cv_rd (f := f) (n := N) (j := mid + m - 1 - h) (rest := rest) (by omega) (by repeat (first | assumption | exact Fnd.here | refine Fnd.there ?_))) rfl) (by rfl) ?_)
        (refine WR_t 7 ?_; refine WR_t 8 ?_)
        (refine WR_take 9 rfl rfl (by kernel_rfl) iP iC (EV_indexAddr0 (j := h) (len := N) rfl rfl rfl (by omega)) (by rfl) ?_)
        (refine WR_take 10 rfl rfl (by kernel_rfl) iP iC (EV_loadAgg rfl (cv_rd (f := f) (n := N) (j := h) (rest := rest) (by omega) (by repeat (first | assumption | exact Fnd.here | refine Fnd.there ?_))) rfl) (by rfl) ?_)
        (refine WR_one 11 (by kernel_rfl) rfl rfl ?_)
        refine OW_callP rfl rfl rfl (ccmp_n (f (mid + m - 1 - h)) (f h) _) rfl ?_
        refine ⟨iC, ?_⟩
        (refine WR_t 12 ?_)
        rw [cmpZ_lt]
        (refine WR_t 13 ?_)
        (refine WR_done (by kernel_rfl) ?_)
        (repeat' first|refine kW ?_|refine kU fun bk=>?_|refine kV fun hc=>?_|refine kZ (fun hc=>?_) fun hc=>?_|fail)
        · have hky : ¬ ky (f (mid + m - 1 - h)) < ky (f h) := by assumption
          refine WQ_round (X := Nat × Nat) (μ := fun x => x.2 - x.1) (x := (s, r)) (h + 1, r) (by simp only; omega) ⟨by simp only; omega, by simp only; omega, q3, fun t p q => ?_, q5⟩ iS (fun w h => h)
          simp only at q
          have e1 := sl t h (by omega) (by omega) (by omega)
          have e2 := sr (mid + m - 1 - h) (mid + m - 1 - t) (by omega) (by omega) (by omega)
          omega
        · have hky : ky (f (mid + m - 1 - h)) < ky (f h) := by assumption
          refine WQ_round (X := Nat × Nat) (μ := fun x => x.2 - x.1) (x := (s, r)) (s, h) (by simp only; omega) ⟨q1, by simp only; omega, by simp only; omega, q4, fun t p q => ?_⟩ iS (fun w h => h)
          simp only at p
          have e1 := sl h t (by omega) (by omega) (by omega)
          have e2 := sr (mid + m - 1 - t) (mid + m - 1 - h) (by omega) (by omega) (by omega)
          omega
      · have hsr2 : s = r := by omega
        obtain ⟨e, he⟩ : ∃ e, e = mid + m - s := ⟨_, rfl⟩
        have hem : m ≤ e := by omega
        have heb : e ≤ b := by omega
        have hsm : s ≤ m := by omega
        obtain ⟨hc1, k1, k2, k3, k4⟩ := merge_mid (key := ky) (f := f) (a := a) (s := s) (m := m) (mid := mid) (e := e) (b := b) (by omega) hsm hem heb (by omega) sl sr
          (fun p q => by
            have := q4 (s - 1) (by omega) (by omega)
            rw [show mid + m - 1 - (s - 1) = e from by omega] at this
            exact this)
          (fun p q => by
            have := q5 s (by omega) (by omega)
            rw [show mid + m - 1 - s = e - 1 from by omega] at this
            exact Nat.le_of_lt this)
        refine WC_seq ?_
        (repeat' first|refine kY ?_|refine kU fun bk=>?_|refine kV fun hc=>?_|refine kZ (fun hc=>?_) fun hc=>?_|fail)
        refine WC_cut (X := Nat → Nat × Nat) (fun g => [(0, .slice (some ⟨b0, 0, none⟩) N cap), (1, .int .i64 (a : Int)), (2, .int .i64 (m : Int)), (3, .int .i64 (b : Int)), (4, cmpV), (18, .int .i64 (mid : Int)), (20, .int .i64 (s : Int)), (24, .int .i64 (e : Int))])
          (fun g => [(b0, cl (cvs g N ++ rest) 63)] :: L) (fun g => Mv a b f g ∧ g = rot f s m e) ?_ ?_
        · have hid : ¬ (s < m ∧ m < e) → f = rot f s m e := fun h => (rot_id f hsm hem h).symm
          refine WC_holds' (fun w h => h) (WC.sub (M' := [(0, .slice (some ⟨b0, 0, none⟩) N cap), (1, .int .i64 (a : Int)), (2, .int .i64 (m : Int)), (3, .int .i64 (b : Int)), (4, cmpV), (18, .int .i64 (mid : Int)), (20, .int .i64 (s : Int)), (24, .int .i64 (e : Int))]) ?_ iS)
          (repeat' first|refine kW ?_|refine kU fun bk=>?_|refine kV fun hc=>?_|refine kZ (fun hc=>?_) fun hc=>?_|fail)
          all_goals first
            | exact WQ_cut f ⟨.refl f, hid (by omega)⟩ iS (fun w h => h)
            | skip
          refine OW_call rfl rfl rfl (rotate_c f N b0 cap s m e rest L hN (by omega) (by omega) (by omega)) rfl (fun r L' hp => ?_)
          obtain ⟨rfl, g, hg1, hg2, rfl⟩ := hp
          (repeat' first|refine kW ?_|refine kU fun bk=>?_|refine kV fun hc=>?_|refine kZ (fun hc=>?_) fun hc=>?_|fail)
          exact WQ_cut g ⟨hg1.mono (by omega) heb, hg2⟩ iS (fun w h => h)
        rintro g1 ⟨hg1, hg2⟩
        rw [← hg2] at hc1 k1 k2 k3 k4
        refine WC_cut (X := Nat → Nat × Nat) (fun g => [(0, .slice (some ⟨b0, 0, none⟩) N cap), (1, .int .i64 (a : Int)), (2, .int .i64 (m : Int)), (3, .int .i64 (b : Int)), (4, cmpV), (18, .int .i64 (mid : Int)), (20, .int .i64 (s : Int)), (24, .int .i64 (e : Int))])
          (fun g => [(b0, cl (cvs g N ++ rest) 63)] :: L) (fun g => Mv a mid g1 g ∧ Srt ky a mid g) ?_ ?_
        · have hid : ¬ (a < s ∧ s < mid) → Srt ky a mid g1 := fun h => by
            by_cases e1 : s = a
            · rw [e1] at k2; exact k2
            · rw [show mid = s from by omega]; exact k1
          (repeat' first|refine kW ?_|refine kU fun bk=>?_|refine kV fun hc=>?_|refine kZ (fun hc=>?_) fun hc=>?_|fail)
          all_goals first
            | exact WQ_cut g1 ⟨.refl g1, hid (by omega)⟩ iS (fun w h => h)
            | skip
          refine OW_call rfl rfl rfl (ih g1 b0 cap a s mid rest L (by omega) (by omega) (by omega) (by omega) k1 k2) rfl (fun r L' hp => ?_)
          obtain ⟨rfl, g, hg3, hg4, rfl⟩ := hp
          (repeat' first|refine kW ?_|refine kU fun bk=>?_|refine kV fun hc=>?_|refine kZ (fun hc=>?_) fun hc=>?_|fail)
          exact WQ_cut g ⟨hg3, hg4⟩ iS (fun w h => h)
        rintro g2 ⟨hg3, hg4⟩
        have k3' : Srt ky mid e g2 := k3.congr fun k p q => hg3.out (.inr p)
        have k4' : Srt ky e b g2 := k4.congr fun k p q => hg3.out (.inr (by omega))
        have hmv : Mv a b f g2 := hg1.trans (hg3.mono (Nat.le_refl _) (by omega))
        have hid : ¬ (mid < e ∧ e < b) → Srt ky mid b g2 := fun h => by
          by_cases e1 : e = mid
          · rw [e1] at k4'; exact k4'
          · rw [show b = e from by omega]; exact k3'
        (repeat' first|refine kW ?_|refine kU fun bk=>?_|refine kV fun hc=>?_|refine kZ (fun hc=>?_) fun hc=>?_|fail)
        all_goals first
          | (refine kR ?_
             exact ⟨_, iC, rfl, g2, hmv, merge_end (by omega) hc1 hg3 (.refl g2) hg4 (hid (by omega)), rfl⟩)
          | skip
        refine OW_call rfl rfl rfl (ih g2 b0 cap mid e b rest L (by omega) (by omega) (by omega) (by omega) k3' k4') rfl (fun r L' hp => ?_)
        obtain ⟨rfl, g, hg5, hg6, rfl⟩ := hp
        (repeat' first|refine kW ?_|refine kU fun bk=>?_|refine kV fun hc=>?_|refine kZ (fun hc=>?_) fun hc=>?_|fail)
        refine kR ?_
        exact ⟨_, iC, rfl, g, hmv.trans (hg5.mono (by omega) (Nat.le_refl _)), merge_end (by omega) hc1 hg3 hg5 hg4 hg6, rfl⟩
    · obtain ⟨mid, hmid⟩ : ∃ mid, mid = (a + b) / 2 := ⟨_, rfl⟩
      obtain ⟨s0, hs0⟩ : ∃ s0, s0 = a := ⟨_, rfl⟩
      obtain ⟨r0, hr0⟩ : ∃ r0, r0 = m := ⟨_, rfl⟩
      have hsr : s0 ≤ r0 := by omega
      refine WC_loop (X := Nat × Nat) (fun x => [(0, .slice (some ⟨b0, 0, none⟩) N cap), (1, .int .i64 (a : Int)), (2, .int .i64 (m : Int)), (3, .int .i64 (b : Int)), (4, cmpV), (18, .int .i64 (mid : Int)), (19, .int .i64 ((mid + m : Nat) : Int)), (20, .int .i64 (x.1 : Int)), (21, .int .i64 (x.2 : Int)), (22, .int .i64 ((mid + m - 1 : Nat) : Int))])
        (fun x => [(b0, cl (cvs f N ++ rest) 63)] :: L) (fun x => s0 ≤ x.1 ∧ x.1 ≤ x.2 ∧ x.2 ≤ r0 ∧ (∀ t, s0 ≤ t → t < x.1 → ky (f t) ≤ ky (f (mid + m - 1 - t))) ∧ ∀ t, x.2 ≤ t → t < r0 → ky (f (mid + m - 1 - t)) < ky (f t)) (fun x => x.2 - x.1) (s0, r0)
        ⟨Nat.le_refl _, hsr, Nat.le_refl _, fun t p q => by simp only at q; omega, fun t p q => by simp only at p; omega⟩ iS (fun w h => h) ?_
      rintro ⟨s, r⟩ ⟨q1, q2, q3, q4, q5⟩
      simp only at q1 q2 q3 q4 q5 ⊢
      refine WC_seq ?_
      (repeat' first|refine kY ?_|refine kU fun bk=>?_|refine kV fun hc=>?_|refine kZ (fun hc=>?_) fun hc=>?_|fail)
      refine WC_seq ?_
      (repeat' first|refine kY ?_|refine kU fun bk=>?_|refine kV fun hc=>?_|refine kZ (fun hc=>?_) fun hc=>?_|fail)
      · (repeat' first|refine kW ?_|refine kU fun bk=>?_|refine kV fun hc=>?_|refine kZ (fun hc=>?_) fun hc=>?_|fail)
        rw [show ((s : Int) + (r : Int)) / 2 = (((s + r) / 2 : Nat) : Int) from by omega]
        obtain ⟨h, hh⟩ : ∃ h, h = (s + r) / 2 := ⟨_, rfl⟩
        rw [← hh]
        refine WC_drawAll [] mixed ?_
        (refine WR_t 0 ?_; refine WR_t 1 ?_; refine WR_t 2 ?_; refine WR_t 3 ?_; refine WR_t 4 ?_)
        (refine WR_take 5 rfl rfl (by kernel_rfl) iP iC (EV_indexAddr0 (j := mid + m - 1 - h) (len := N) rfl rfl (by omega) (by omega)) (by rfl) ?_)
        (refine WR_take 6 rfl rfl (by kernel_rfl) iP iC (EV_loadAgg rfl (cv_rd (f := f) (n := N) (j := mid + m - 1 - h) (rest := rest) (by omega) (by repeat (first | assumption | exact Fnd.here | refine Fnd.there ?_))) rfl) (by rfl) ?_)
        (refine WR_t 7 ?_; refine WR_t 8 ?_)
        (refine WR_take 9 rfl rfl (by kernel_rfl) iP iC (EV_indexAddr0 (j := h) (len := N) rfl rfl rfl (by omega)) (by rfl) ?_)
        (refine WR_take 10 rfl rfl (by kernel_rfl) iP iC (EV_loadAgg rfl (cv_rd (f := f) (n := N) (j := h) (rest := rest) (by omega) (by repeat (first | assumption | exact Fnd.here | refine Fnd.there ?_))) rfl) (by rfl) ?_)
        (refine WR_one 11 (by kernel_rfl) rfl rfl ?_)
        refine OW_callP rfl rfl rfl (ccmp_n (f (mid + m - 1 - h)) (f h) _) rfl ?_
        refine ⟨iC, ?_⟩
        (refine WR_t 12 ?_)
        rw [cmpZ_lt]
        (refine WR_t 13 ?_)
        (refine WR_done (by kernel_rfl) ?_)
        (repeat' first|refine kW ?_|refine kU fun bk=>?_|refine kV fun hc=>?_|refine kZ (fun hc=>?_) fun hc=>?_|fail)
        · have hky : ¬ ky (f (mid + m - 1 - h)) < ky (f h) := by assumption
          refine WQ_round (X := Nat × Nat) (μ := fun x => x.2 - x.1) (x := (s, r)) (h + 1, r) (by simp only; omega) ⟨by simp only; omega, by simp only; omega, q3, fun t p q => ?_, q5⟩ iS (fun w h => h)
          simp only at q
          have e1 := sl t h (by omega) (by omega) (by omega)
          have e2 := sr (mid + m - 1 - h) (mid + m - 1 - t) (by omega) (by omega) (by omega)
          omega
        · have hky : ky (f (mid + m - 1 - h)) < ky (f h) := by assumption
          refine WQ_round (X := Nat × Nat) (μ := fun x => x.2 - x.1) (x := (s, r)) (s, h) (by simp only; omega) ⟨q1, by simp only; omega, by simp only; omega, q4, fun t p q => ?_⟩ iS (fun w h => h)
          simp only at p
          have e1 := sl h t (by omega) (by omega) (by omega)
          have e2 := sr (mid + m - 1 - t) (mid + m - 1 - h) (by omega) (by omega) (by omega)
          omega
      · have hsr2 : s = r := by omega
        obtain ⟨e, he⟩ : ∃ e, e = mid + m - s := ⟨_, rfl⟩
        have hem : m ≤ e := by omega
        have heb : e ≤ b := by omega
        have hsm : s ≤ m := by omega
        obtain ⟨hc1, k1, k2, k3, k4⟩ := merge_mid (key := ky) (f := f) (a := a) (s := s) (m := m) (mid := mid) (e := e) (b := b) (by omega) hsm hem heb (by omega) sl sr
          (fun p q => by
            have := q4 (s - 1) (by omega) (by omega)
            rw [show mid + m - 1 - (s - 1) = e from by omega] at this
            exact this)
          (fun p q => by
            have := q5 s (by omega) (by omega)
            rw [show mid + m - 1 - s = e - 1 from by omega] at this
            exact Nat.le_of_lt this)
        refine WC_seq ?_
        (repeat' first|refine kY ?_|refine kU fun bk=>?_|refine kV fun hc=>?_|refine kZ (fun hc=>?_) fun hc=>?_|fail)
        refine WC_cut (X := Nat → Nat × Nat) (fun g => [(0, .slice (some ⟨b0, 0, none⟩) N cap), (1, .int .i64 (a : Int)), (2, .int .i64 (m : Int)), (3, .int .i64 (b : Int)), (4, cmpV), (18, .int .i64 (mid : Int)), (20, .int .i64 (s : Int)), (24, .int .i64 (e : Int))])
          (fun g => [(b0, cl (cvs g N ++ rest) 63)] :: L) (fun g => Mv a b f g ∧ g = rot f s m e) ?_ ?_
        · have hid : ¬ (s < m ∧ m < e) → f = rot f s m e := fun h => (rot_id f hsm hem h).symm
          refine WC_holds' (fun w h => h) (WC.sub (M' := [(0, .slice (some ⟨b0, 0, none⟩) N cap), (1, .int .i64 (a : Int)), (2, .int .i64 (m : Int)), (3, .int .i64 (b : Int)), (4, cmpV), (18, .int .i64 (mid : Int)), (20, .int .i64 (s : Int)), (24, .int .i64 (e : Int))]) ?_ iS)
          (repeat' first|refine kW ?_|refine kU fun bk=>?_|refine kV fun hc=>?_|refine kZ (fun hc=>?_) fun hc=>?_|fail)
          all_goals first
            | exact WQ_cut f ⟨.refl f, hid (by omega)⟩ iS (fun w h => h)
            | skip
          refine OW_call rfl rfl rfl (rotate_c f N b0 cap s m e rest L hN (by omega) (by omega) (by omega)) rfl (fun r L' hp => ?_)
          obtain ⟨rfl, g, hg1, hg2, rfl⟩ := hp
          (repeat' first|refine kW ?_|refine kU fun bk=>?_|refine kV fun hc=>?_|refine kZ (fun hc=>?_) fun hc=>?_|fail)
          exact WQ_cut g ⟨hg1.mono (by omega) heb, hg2⟩ iS (fun w h => h)
        rintro g1 ⟨hg1, hg2⟩
        rw [← hg2] at hc1 k1 k2 k3 k4
        refine WC_cut (X := Nat → Nat × Nat) (fun g => [(0, .slice (some ⟨b0, 0, none⟩) N cap), (1, .int .i64 (a : Int)), (2, .int .i64 (m : Int)), (3, .int .i64 (b : Int)), (4, cmpV), (18, .int .i64 (mid : Int)), (20, .int .i64 (s : Int)), (24, .int .i64 (e : Int))])
          (fun g => [(b0, cl (cvs g N ++ rest) 63)] :: L) (fun g => Mv a mid g1 g ∧ Srt ky a mid g) ?_ ?_
        · have hid : ¬ (a < s ∧ s < mid) → Srt ky a mid g1 := fun h => by
            by_cases e1 : s = a
            · rw [e1] at k2; exact k2
            · rw [show mid = s from by omega]; exact k1
          (repeat' first|refine kW ?_|refine kU fun bk=>?_|refine kV fun hc=>?_|refine kZ (fun hc=>?_) fun hc=>?_|fail)
          all_goals first
            | exact WQ_cut g1 ⟨.refl g1, hid (by omega)⟩ iS (fun w h => h)
            | skip
          refine OW_call rfl rfl rfl (ih g1 b0 cap a s mid rest L (by omega) (by omega) (by omega) (by omega) k1 k2) rfl (fun r L' hp => ?_)
          obtain ⟨rfl, g, hg3, hg4, rfl⟩ := hp
          (repeat' first|refine kW ?_|refine kU fun bk=>?_|refine kV fun hc=>?_|refine kZ (fun hc=>?_) fun hc=>?_|fail)
          exact WQ_cut g ⟨hg3, hg4⟩ iS (fun w h => h)
        rintro g2 ⟨hg3, hg4⟩
        have k3' : Srt ky mid e g2 := k3.congr fun k p q => hg3.out (.inr p)
        have k4' : Srt ky e b g2 := k4.congr fun k p q => hg3.out (.inr (by omega))
        have hmv : Mv a b f g2 := hg1.trans (hg3.mono (Nat.le_refl _) (by omega))
        have hid : ¬ (mid < e ∧ e < b) → Srt ky mid b g2 := fun h => by
          by_cases e1 : e = mid
          · rw [e1] at k4'; exact k4'
          · rw [show b = e from by omega]; exact k3'
        (repeat' first|refine kW ?_|refine kU fun bk=>?_|refine kV fun hc=>?_|refine kZ (fun hc=>?_) fun hc=>?_|fail)
        all_goals first
          | (refine kR ?_
             exact ⟨_, iC, rfl, g2, hmv, merge_end (by omega) hc1 hg3 (.refl g2) hg4 (hid (by omega)), rfl⟩)
          | skip
        refine OW_call rfl rfl rfl (ih g2 b0 cap mid e b rest L (by omega) (by omega) (by omega) (by omega) k3' k4') rfl (fun r L' hp => ?_)
        obtain ⟨rfl, g, hg5, hg6, rfl⟩ := hp
        (repeat' first|refine kW ?_|refine kU fun bk=>?_|refine kV fun hc=>?_|refine kZ (fun hc=>?_) fun hc=>?_|fail)
        refine kR ?_
        exact ⟨_, iC, rfl, g, hmv.trans (hg5.mono (by omega) (Nat.le_refl _)), merge_end (by omega) hc1 hg3 hg5 hg4 hg6, rfl⟩
end Go.Proofs.Ytbdpjbmfhnbheaa
