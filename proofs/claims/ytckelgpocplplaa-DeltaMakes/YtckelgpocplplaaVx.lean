/- A small layer over the guide's walk: slots as a list of what is known, memory as a list of chunks of blocks; one rule for each operation. It proves no statement by itself. No conditions. -/
import Derived.WalkKit
import Derived.KernelRfl
import Derived.StillTail
namespace Go.Vx
open Go
set_option linter.all false

/-- A chunk: some blocks, each with what it holds. -/
abbrev Chunk := List (Nat × Obj)

/-- The world outside, which stays as it is. -/
class W0 where
  os : Os
  output : Array (Nat × ByteArray)
variable [W0]

/-- The blocks of all chunks are unlike, and hold what is said. -/
def Holds (w : World) (L : List Chunk) : Prop :=
  (L.flatten.map Prod.fst).Nodup ∧ (∀ x ∈ L.flatten, w.heap[x.1]? = some x.2) ∧ w.os = W0.os ∧ w.output = W0.output

omit [W0] in
/-- A block of cells that may be written. -/
def cl (l : List Value) (T : TypeId) : Obj := .cells l.toArray T (0, 0)

theorem Holds.lt {w : World} {L : List Chunk} (h : Holds w L) {x : Nat × Obj} (hx : x ∈ L.flatten) : x.1 < w.heap.size := by
  have := h.2.1 x hx
  rcases Nat.lt_or_ge x.1 w.heap.size with h' | h'
  · exact h'
  · simp [Array.getElem?_eq_none h'] at this

theorem Holds.same {w w' : World} {L : List Chunk} (h : Holds w L) (hh : w'.heap = w.heap) (ho : w'.os = w.os) (hq : w'.output = w.output) : Holds w' L :=
  ⟨h.1, fun x hx => by rw [hh]; exact h.2.1 x hx, ho.trans h.2.2.1, hq.trans h.2.2.2⟩

theorem Holds.perm {w : World} {L L' : List Chunk} (h : Holds w L) (hp : L.Perm L') : Holds w L' := by
  have hf : L.flatten.Perm L'.flatten := hp.flatten
  exact ⟨(hf.map Prod.fst).nodup_iff.1 h.1, fun x hx => h.2.1 x (hf.mem_iff.2 hx), h.2.2⟩

theorem Holds.alloc {w : World} {L : List Chunk} (h : Holds w L) (o : Obj) : Holds (w.alloc o) ([(w.heap.size, o)] :: L) := by
  refine ⟨?_, ?_, h.2.2⟩
  · simp only [List.flatten_cons, List.map_cons, List.singleton_append, List.nodup_cons]
    refine ⟨?_, h.1⟩
    intro hm
    obtain ⟨x, hx, he⟩ := List.mem_map.1 hm
    have := h.lt hx
    omega
  · intro x hx
    simp only [List.flatten_cons, List.mem_append, List.mem_singleton] at hx
    rcases hx with rfl | hx
    · show (w.heap.push o)[w.heap.size]? = some o
      simp
    · have := h.lt hx
      show (w.heap.push o)[x.1]? = some x.2
      rw [Array.getElem?_push, if_neg (by omega)]
      exact h.2.1 x hx

omit [W0] in
/-- Some chunk holds the block. -/
def Fnd (L : List Chunk) (b : Nat) (o : Obj) : Prop := (b, o) ∈ L.flatten

theorem Fnd.here {L : List Chunk} {b : Nat} {o : Obj} : Fnd ([(b, o)] :: L) b o := by simp [Fnd]
theorem Fnd.there {L : List Chunk} {C : Chunk} {b : Nat} {o : Obj} (h : Fnd L b o) : Fnd (C :: L) b o := by
  simp only [Fnd, List.flatten_cons, List.mem_append] at *; exact .inr h
theorem Fnd.mem {L : List Chunk} {C : Chunk} {b : Nat} {o : Obj} (h : (b, o) ∈ C) : Fnd (C :: L) b o := by
  simp only [Fnd, List.flatten_cons, List.mem_append]; exact .inl h
theorem Fnd.get {w : World} {L : List Chunk} {b : Nat} {o : Obj} (h : Fnd L b o) (hH : Holds w L) : w.heap[b]? = some o := hH.2.1 _ h

omit [W0] in
/-- A chunk of one block is turned. -/
inductive Upd : List Chunk → Nat → Obj → Obj → List Chunk → Prop
  | here {L b o o'} : Upd ([(b, o)] :: L) b o o' ([(b, o')] :: L)
  | there {C L L' b o o'} : Upd L b o o' L' → Upd (C :: L) b o o' (C :: L')

theorem Upd.fnd {L L' : List Chunk} {b : Nat} {o o' : Obj} (h : Upd L b o o' L') : Fnd L b o := by
  induction h with
  | here => exact .here
  | there _ ih => exact .there ih

theorem Upd.keys {L L' : List Chunk} {b : Nat} {o o' : Obj} (h : Upd L b o o' L') : L'.flatten.map Prod.fst = L.flatten.map Prod.fst := by
  induction h with
  | here => simp
  | there _ ih => simp [ih]

theorem Upd.mem {L L' : List Chunk} {b : Nat} {o o' : Obj} (h : Upd L b o o' L') (hn : (L.flatten.map Prod.fst).Nodup) :
    ∀ x ∈ L'.flatten, x = (b, o') ∨ (x.1 ≠ b ∧ x ∈ L.flatten) := by
  induction h with
  | @here L b o o' =>
    intro x hx
    simp only [List.flatten_cons, List.singleton_append, List.mem_cons, List.map_cons, List.nodup_cons] at *
    rcases hx with rfl | hx
    · exact .inl rfl
    · refine .inr ⟨fun he => hn.1 ?_, .inr hx⟩
      rw [← he]; exact List.mem_map_of_mem hx
  | @there C L L' b o o' hu ih =>
    intro x hx
    simp only [List.flatten_cons, List.mem_append, List.map_append] at *
    rw [List.nodup_append] at hn
    rcases hx with hx | hx
    · refine .inr ⟨fun he => ?_, .inl hx⟩
      have := hu.fnd
      exact hn.2.2 x.1 (List.mem_map_of_mem hx) b (List.mem_map_of_mem (f := Prod.fst) this) he
    · rcases ih hn.2.1 x hx with h | h
      · exact .inl h
      · exact .inr ⟨h.1, .inr h.2⟩

theorem Holds.upd {w w' : World} {L L' : List Chunk} {b : Nat} {o o' : Obj} (h : Holds w L) (hu : Upd L b o o' L')
    (hb : w'.heap[b]? = some o') (ho : ∀ c, c ≠ b → w'.heap[c]? = w.heap[c]?) (hos : w'.os = w.os) (hq : w'.output = w.output) : Holds w' L' := by
  refine ⟨by rw [hu.keys]; exact h.1, fun x hx => ?_, hos.trans h.2.2.1, hq.trans h.2.2.2⟩
  rcases hu.mem h.1 x hx with rfl | ⟨hne, hm⟩
  · exact hb
  · rw [ho _ hne]; exact h.2.1 x hm

omit [W0] in
/-- A chunk is taken out. -/
inductive Take : Chunk → List Chunk → List Chunk → Prop
  | here {C L} : Take C (C :: L) L
  | there {C D L L'} : Take C L L' → Take C (D :: L) (D :: L')

theorem Take.perm {C : Chunk} {L L' : List Chunk} (h : Take C L L') : L.Perm (C :: L') := by
  induction h with
  | here => exact .refl _
  | there _ ih => exact (ih.cons _).trans (.swap _ _ _)

theorem Holds.take {w : World} {C : Chunk} {L L' : List Chunk} (h : Holds w L) (ht : Take C L L') : Holds w (C :: L') := h.perm ht.perm

theorem Holds.split {w : World} {C D : Chunk} {L : List Chunk} : Holds w ((C ++ D) :: L) ↔ Holds w (C :: D :: L) := by
  simp [Holds, List.append_assoc]

theorem Holds.nil {w : World} {L : List Chunk} : Holds w ([] :: L) ↔ Holds w L := by simp [Holds]

theorem Holds.drop {w : World} {C : Chunk} {L : List Chunk} (h : Holds w (C :: L)) : Holds w L := by
  refine ⟨?_, fun x hx => h.2.1 x (by simp only [List.flatten_cons, List.mem_append]; exact .inr hx), h.2.2⟩
  have := h.1
  simp only [List.flatten_cons, List.map_append, List.nodup_append] at this
  exact this.2.1

omit [W0] in
def aggB (P : Program) (t : TypeId) : Bool := match P.underlying t with | some (.struct _) | some (.array _ _) | none => true | _ => false
omit [W0] in
def aggT (P : Program) (t : TypeId) : Bool := match P.underlying t with | some (.struct _) | some (.array _ _) => true | _ => false
omit [W0] in
/-- The function has a body that is run. -/
def bodyB (P : Program) (f : FuncId) : Bool := match P.funcs[f]? with
  | some fn => fn.name != "runtime.NumGoroutine" && fn.body.isSome
  | none => false

/- closed facts on types, found by their numbers -/
omit [W0] in
class NA (P : Program) (t : Nat) : Prop where out : aggB P t = false
omit [W0] in
class AG (P : Program) (t : Nat) (k : outParam Nat) : Prop where out : aggT P t = true ∧ (P.info? t).map (·.size) = some k
omit [W0] in
class SZ (P : Program) (t : Nat) (k : outParam Nat) : Prop where out : (P.info? t).map (·.size) = some k
omit [W0] in
def fldOff (P : Program) (s f : Nat) : Option Nat := match P.underlying s with
  | some (.struct fs) => match fs[f]? with
    | some fd => match P.info? fd.type with
      | some i => if Nat.blt 0 i.size then some fd.offset else none
      | none => none
    | none => none
  | _ => none
omit [W0] in
class FO (P : Program) (s f : Nat) (k : outParam Nat) : Prop where out : fldOff P s f = some k
omit [W0] in
def slcOf (P : Program) (T : Nat) : Option (Nat × Nat × Nat) := match P.underlying T with
  | some (.slice e) => match P.info? e with
    | some i => if Nat.blt 0 i.size then some (e, i.size, i.bytes) else none
    | none => none
  | _ => none
omit [W0] in
class SL (P : Program) (T : Nat) (e : outParam Nat) (k : outParam Nat) (by_ : outParam Nat) : Prop where out : slcOf P T = some (e, k, by_)
omit [W0] in
class ST (P : Program) (T : Nat) : Prop where out : P.underlying T = some .string
omit [W0] in
class ZV (P : Program) (t : Nat) (z : outParam Value) : Prop where out : (P.info? t).map (·.zero) = some (some z)
omit [W0] in
class IK (P : Program) (t : Nat) (k : outParam IntKind) : Prop where out : P.underlying t = some (.int k)
omit [W0] in
class BD (P : Program) (f : Nat) : Prop where out : bodyB P f = true
omit [W0] in
def notIface (P : Program) (t : Nat) : Bool := match P.underlying t with | some (.interface _) | none => false | _ => true
omit [W0] in
class NI (P : Program) (t : Nat) : Prop where out : notIface P t = true

omit [W0] in
/-- The cell of a list. -/
def nth : List Value → Nat → Option Value
  | [], _ => none
  | v :: _, 0 => some v
  | _ :: r, i + 1 => nth r i
theorem nth_eq : ∀ (l : List Value) (i : Nat), nth l i = l[i]?
  | [], i => by simp [nth]
  | v :: r, 0 => by simp [nth]
  | v :: r, i + 1 => by simp [nth, nth_eq r i]

/- slots -/

omit [W0] in
def lk : List (Nat × Value) → Nat → Option Value
  | [], _ => none
  | (t, v) :: r, n => bif Nat.beq t n then some v else lk r n

omit [W0] in
def ev (M : List (Nat × Value)) : Operand → Option Value
  | .tmp t => lk M t
  | .const v => some v
  | .global g => some (.pointer (some ⟨g, 0, none⟩))
  | .func f => some (.func (.func f) #[] #[])

omit [W0] in
structure St (n : Nat) (M : List (Nat × Value)) (a : Act) : Prop where
  defers : a.defers = []
  size : a.tmps.size = n
  get : ∀ t v, lk M t = some v → a.tmps[t]? = some v

theorem St.eval {n : Nat} {M : List (Nat × Value)} {a : Act} (h : St n M a) {x : Operand} {v : Value} (hx : ev M x = some v) : a.eval x = v := by
  cases x with
  | tmp t => have := h.get t v hx; simp [Act.eval, Array.getD_eq_getD_getElem?, this]
  | const u => exact Option.some.inj hx
  | global g => exact Option.some.inj hx
  | func f => exact Option.some.inj hx

theorem St.put {n : Nat} {M : List (Nat × Value)} {a : Act} (h : St n M a) {d : Nat} (v : Value) (hd : Nat.blt d n = true) : St n ((d, v) :: M) (a.put (some d) v) := by
  have hd' : d < n := by simpa [Nat.blt_eq] using hd
  refine ⟨h.defers, by simp [Act.put, h.size], fun t u ht => ?_⟩
  simp only [Act.put]
  unfold lk at ht
  by_cases e : d = t
  · subst e
    simp at ht
    subst ht
    rw [Array.getElem?_setIfInBounds_self]
    simp [h.size, hd']
  · have : Nat.beq d t = false := by
      cases hb : Nat.beq d t with
      | false => rfl
      | true => exact absurd (Nat.eq_of_beq_eq_true hb) e
    rw [this] at ht
    rw [Array.getElem?_setIfInBounds_ne e]
    exact h.get t u ht

theorem St.put_none {n : Nat} {M : List (Nat × Value)} {a : Act} (h : St n M a) (v : Value) : St n M (a.put none v) := h

omit [W0] in
/-- All that the smaller list knows the larger one knows. -/
def Sub (M' M : List (Nat × Value)) : Prop := ∀ t v, lk M' t = some v → lk M t = some v
theorem Sub.nil {M : List (Nat × Value)} : Sub [] M := fun t v h => by simp [lk] at h
theorem Sub.cons {M M' : List (Nat × Value)} {t : Nat} {v : Value} (h : lk M t = some v) (hs : Sub M' M) : Sub ((t, v) :: M') M := by
  intro u x hu
  unfold lk at hu
  cases hb : Nat.beq t u with
  | true => rw [hb] at hu; simp at hu; subst hu; rw [← Nat.eq_of_beq_eq_true hb]; exact h
  | false => rw [hb] at hu; exact hs u x hu
theorem St.sub {n : Nat} {M M' : List (Nat × Value)} {a : Act} (h : St n M a) (hs : Sub M' M) : St n M' a := ⟨h.defers, h.size, fun t v ht => h.get t v (hs t v ht)⟩

/- what a piece of code owes, from what is known -/

structure WQ (n : Nat) (q : Act → World → Prop) (M : List (Nat × Value)) (L : List Chunk) : Prop where
  out : ∀ a w, St n M a → Holds w L → q a w
structure WC (P : Program) (n : Nat) (c : Code) (Q : Exit → Act → World → Prop) (M : List (Nat × Value)) (L : List Chunk) : Prop where
  out : ∀ a w, St n M a → Holds w L → c.wp P Q a w
structure WL (P : Program) (n : Nat) (ops : Array Oper) (Q : Exit → Act → World → Prop) (rest : List Oper) (M : List (Nat × Value)) (L : List Chunk) : Prop where
  out : ∀ a w, St n M a → Holds w L → wpList P ops Q rest a w
/-- One operation. -/
structure OW (P : Program) (n : Nat) (o : Oper) (K : List (Nat × Value) → List Chunk → Prop) (M : List (Nat × Value)) (L : List Chunk) : Prop where
  out : ∀ a w (next : Act → World → Prop) Q, St n M a → Holds w L → (∀ M' L', K M' L' → WQ n next M' L') → o.wp P a w next Q

section
variable {P : Program} {n : Nat} {Q : Exit → Act → World → Prop} {M : List (Nat × Value)} {L : List Chunk} {K : List (Nat × Value) → List Chunk → Prop}

theorem WC.holds {L' : List Chunk} {c : Code} (h : WC P n c Q M L') (hl : ∀ w, Holds w L → Holds w L') : WC P n c Q M L := ⟨fun a w ha hw => h.out a w ha (hl w hw)⟩
theorem WC.sub {M' : List (Nat × Value)} {c : Code} (h : WC P n c Q M' L) (hs : Sub M' M) : WC P n c Q M L := ⟨fun a w ha hw => h.out a w (ha.sub hs) hw⟩

theorem WC_seq {x y : Code} (h : WC P n x (Exit.then (y.wp P Q) Q) M L) : WC P n (.seq x y) Q M L := ⟨fun a w ha hw => wp_seq (h.out a w ha hw)⟩
theorem WC_skip (h : WQ n (Q .normal) M L) : WC P n .skip Q M L := ⟨fun a w ha hw => wp_skip (h.out a w ha hw)⟩
theorem WC_exit {id : Nat} (h : WQ n (Q (.exit id)) M L) : WC P n (.exit id) Q M L := ⟨fun a w ha hw => wp_exit (h.out a w ha hw)⟩
theorem WC_goto {l : Nat} (h : WQ n (Q (.goto l)) M L) : WC P n (.goto l) Q M L := ⟨fun a w ha hw => wp_goto (h.out a w ha hw)⟩
theorem WC_label {l : Nat} (h : WQ n (Q .normal) M L) : WC P n (.label l) Q M L := ⟨fun a w ha hw => wp_label (h.out a w ha hw)⟩
theorem WC_ret (h : WQ n (Q .ret) M L) : WC P n .ret Q M L := ⟨fun a w ha hw => wp_ret (h.out a w ha hw)⟩
theorem WC_block {id : Nat} {c : Code} (h : WC P n c (Exit.inBlock id Q) M L) : WC P n (.block id c) Q M L := ⟨fun a w ha hw => wp_block (h.out a w ha hw)⟩
theorem WC_cond {c : Operand} {x y : Code} {t : Bool} (hc : ev M c = some (.bool t)) (ht : t = true → WC P n x Q M L) (hf : t = false → WC P n y Q M L) :
    WC P n (.cond c x y) Q M L := ⟨fun a w ha hw => wp_cond_split (ha.eval hc) (fun h => (ht h).out a w ha hw) (fun h => (hf h).out a w ha hw)⟩
theorem WC_true {c : Operand} {x y : Code} (hc : ev M c = some (.bool true)) (ht : WC P n x Q M L) : WC P n (.cond c x y) Q M L := ⟨fun a w ha hw => wp_cond_true (ha.eval hc) (ht.out a w ha hw)⟩
theorem WC_false {c : Operand} {x y : Code} (hc : ev M c = some (.bool false)) (ht : WC P n y Q M L) : WC P n (.cond c x y) Q M L := ⟨fun a w ha hw => wp_cond_false (ha.eval hc) (ht.out a w ha hw)⟩
theorem WC_region {id : Nat} {l : List Oper} (h : WL P n l.toArray Q l M L) : WC P n (.region id l.toArray false) Q M L := ⟨fun a w ha hw => wp_region_lit (h.out a w ha hw)⟩
theorem WL_nil {ops : Array Oper} (h : WQ n (Q .normal) M L) : WL P n ops Q [] M L := ⟨fun a w ha hw => wpList_nil (h.out a w ha hw)⟩
theorem WQ_then_normal {K : Act → World → Prop} (h : WQ n K M L) : WQ n (Exit.then K Q .normal) M L := ⟨h.out⟩
theorem WQ_then_ret {K : Act → World → Prop} (h : WQ n (Q .ret) M L) : WQ n (Exit.then K Q .ret) M L := ⟨h.out⟩
theorem WQ_then_exit {K : Act → World → Prop} {id : Nat} (h : WQ n (Q (.exit id)) M L) : WQ n (Exit.then K Q (.exit id)) M L := ⟨h.out⟩
theorem WQ_then_goto {K : Act → World → Prop} {id : Nat} (h : WQ n (Q (.goto id)) M L) : WQ n (Exit.then K Q (.goto id)) M L := ⟨h.out⟩
theorem WQ_block_ret {i : Nat} (h : WQ n (Q .ret) M L) : WQ n (Exit.inBlock i Q .ret) M L := ⟨h.out⟩
theorem WQ_block_normal {i : Nat} (h : WQ n (Q .normal) M L) : WQ n (Exit.inBlock i Q .normal) M L := ⟨h.out⟩
theorem WQ_block_hit {i : Nat} (h : WQ n (Q .normal) M L) : WQ n (Exit.inBlock i Q (.exit i)) M L := ⟨fun a w ha hw => by
  show if i = i then Q .normal a w else Q (.exit i) a w
  rw [if_pos rfl]; exact h.out a w ha hw⟩
theorem WQ_block_miss {i j : Nat} (hne : Nat.beq j i = false) (h : WQ n (Q (.exit j)) M L) : WQ n (Exit.inBlock i Q (.exit j)) M L := ⟨fun a w ha hw => by
  show if j = i then Q .normal a w else Q (.exit j) a w
  rw [if_neg (by intro e; subst e; simp at hne)]; exact h.out a w ha hw⟩
/-- What follows is a piece of code. -/
theorem WQ_code {c : Code} (h : WC P n c Q M L) : WQ n (c.wp P Q) M L := ⟨h.out⟩

theorem WL_plain {ops : Array Oper} {rest : List Oper} {o : Oper} (hg : o.guard = none) (h : OW P n o (WL P n ops Q rest) M L) : WL P n ops Q (o :: rest) M L := ⟨fun a w ha hw => by
  unfold wpList
  rw [if_pos (by simp [Region.wanted, hg])]
  exact .inl (h.out a w _ Q ha hw fun M' L' hk => ⟨hk.out⟩)⟩

omit [W0] in
/-- What the guarding operation of a region has yielded. -/
def yl (ops : List Oper) (M : List (Nat × Value)) (j : Nat) : Option Value := ((ops[j]?).bind (·.dst)).bind (lk M)

theorem yielded_of {ops : List Oper} {a : Act} (ha : St n M a) {j : Nat} {v : Value} (h : yl ops M j = some v) :
    yielded ops.toArray a.tmps j = match v with | .bool b => some b | _ => none := by
  unfold yl at h
  unfold yielded
  simp only [List.getElem?_toArray]
  cases hj : ops[j]? with
  | none => simp [hj] at h
  | some o =>
    simp only [hj, Option.bind_some] at h ⊢
    cases hd : o.dst with
    | none => simp [hd] at h
    | some d =>
      simp only [hd, Option.bind_some] at h ⊢
      rw [ha.get d v h]
      cases v <;> rfl

theorem WL_on {ops : List Oper} {rest : List Oper} {o : Oper} {j : Nat} {b : Bool} (hg : o.guard = some (j, b)) (hy : yl ops M j = some (.bool b))
    (h : OW P n o (WL P n ops.toArray Q rest) M L) : WL P n ops.toArray Q (o :: rest) M L := ⟨fun a w ha hw => by
  unfold wpList
  rw [if_pos (by simp [Region.wanted, hg, yielded_of ha hy])]
  exact .inl (h.out a w _ Q ha hw fun M' L' hk => ⟨hk.out⟩)⟩

theorem WL_off {ops : List Oper} {rest : List Oper} {o : Oper} {j d : Nat} {b : Bool} (hg : o.guard = some (j, b)) (hd : o.dst = some d) (hy : yl ops M j = some (.bool (!b)))
    (hn : Nat.blt d n = true) (h : WL P n ops.toArray Q rest ((d, undef) :: M) L) : WL P n ops.toArray Q (o :: rest) M L := ⟨fun a w ha hw => by
  unfold wpList
  rw [if_neg (by simp [Region.wanted, hg, yielded_of ha hy])]
  rw [hd]
  exact h.out _ w (ha.put undef hn) hw⟩
theorem WL_off' {ops : List Oper} {rest : List Oper} {o : Oper} {j : Nat} {b : Bool} (hg : o.guard = some (j, b)) (hd : o.dst = none) (hy : yl ops M j = some (.bool (!b)))
    (h : WL P n ops.toArray Q rest M L) : WL P n ops.toArray Q (o :: rest) M L := ⟨fun a w ha hw => by
  unfold wpList
  rw [if_neg (by simp [Region.wanted, hg, yielded_of ha hy])]
  rw [hd]
  exact h.out _ w ha hw⟩
theorem WL_offu {ops : List Oper} {rest : List Oper} {o : Oper} {j d : Nat} {b : Bool} (hg : o.guard = some (j, b)) (hd : o.dst = some d) (hy : yl ops M j = some undef)
    (hn : Nat.blt d n = true) (h : WL P n ops.toArray Q rest ((d, undef) :: M) L) : WL P n ops.toArray Q (o :: rest) M L := ⟨fun a w ha hw => by
  unfold wpList
  rw [if_neg (by simp [Region.wanted, hg, yielded_of ha hy, undef])]
  rw [hd]
  exact h.out _ w (ha.put undef hn) hw⟩

/-- A guard that is not known yet. -/
theorem WL_split {ops : List Oper} {rest : List Oper} {o : Oper} {j : Nat} {b c : Bool} (hg : o.guard = some (j, b)) (hy : yl ops M j = some (.bool c))
    (ht : c = true → WL P n ops.toArray Q (o :: rest) M L) (hf : c = false → WL P n ops.toArray Q (o :: rest) M L) : WL P n ops.toArray Q (o :: rest) M L := by
  cases c
  · exact hf rfl
  · exact ht rfl

/- operations that compute: one lemma, given what the operation comes to -/
theorem OW_val {o : Oper} {d : Nat} {v : Value} (hd : o.dst = some d) (hn : Nat.blt d n = true) (hr : ∀ a w, St n M a → Holds w L → (execOp a.eval o).run P w = .ok (.value v) w)
    (h : K ((d, v) :: M) L) : OW P n o K M L := ⟨fun a w next Q ha hw hk => by
  unfold Oper.wp
  rw [hr a w ha hw, Oper.upon_value, hd]
  exact (hk _ _ h).out _ _ (ha.put v hn) hw⟩

/-- An operation that only computes or reads: what it comes to. -/
structure EV (P : Program) (n : Nat) (o : Oper) (M : List (Nat × Value)) (L : List Chunk) (d : Nat) (v : Value) : Prop where
  dst : o.dst = some d
  run : ∀ a w, St n M a → Holds w L → (execOp a.eval o).run P w = .ok (.value v) w
theorem OW_EV {o : Oper} {d : Nat} {v : Value} (he : EV P n o M L d v) (hn : Nat.blt d n = true) (h : K ((d, v) :: M) L) : OW P n o K M L := OW_val he.dst hn he.run h

variable {d : Nat} {ty : TypeId} {ps : String} {af : Array Edge} {g : Option (Nat × Bool)} {x y : Operand} {v : Value}

theorem EV_move (hx : ev M x = some v) : EV P n ⟨some d, .move x, ty, ps, af, g⟩ M L d (v) :=
  ⟨rfl, fun a w ha _ => by simp [execOp, ha.eval hx]⟩
theorem EV_assign (hx : ev M x = some v) : EV P n ⟨some d, .assign x, ty, ps, af, g⟩ M L d (v) :=
  ⟨rfl, fun a w ha _ => by simp [execOp, ha.eval hx]⟩
theorem EV_pick {c : Operand} {b : Bool} (hc : ev M c = some (.bool b)) (hv : (if b then ev M x else ev M y) = some v) :
    EV P n ⟨some d, .pick c x y, ty, ps, af, g⟩ M L d (v) :=
  ⟨rfl, fun a w ha _ => by
    cases b
    · simp [execOp, ha.eval hc, asBool, ha.eval (x := y) (by simpa using hv)]
    · simp [execOp, ha.eval hc, asBool, ha.eval (x := x) (by simpa using hv)]⟩
theorem EV_nilCheck {ad : Addr} (hx : ev M x = some (.pointer (some ad))) :
    EV P n ⟨some d, .nilCheck x, ty, ps, af, g⟩ M L d (.pointer (some ad)) :=
  ⟨rfl, fun a w ha _ => by simp [execOp, ha.eval hx]⟩
theorem EV_extract {i : Nat} {vs : List Value} (hx : ev M x = some (.tuple vs.toArray)) (hv : nth vs i = some v) :
    EV P n ⟨some d, .extract x i, ty, ps, af, g⟩ M L d v :=
  ⟨rfl, fun a w ha _ => by rw [nth_eq] at hv; simp [execOp, ha.eval hx, Instr.extract, hv]⟩
theorem EV_not {b : Bool} {ty' : TypeId} (hx : ev M x = some (.bool b)) : EV P n ⟨some d, .unOp .not ty' x, ty, ps, af, g⟩ M L d (.bool (!b)) :=
  ⟨rfl, fun a w ha _ => by simp [execOp, ha.eval hx, Op.unary]⟩

omit [W0] in
/-- Comparisons of integers. -/
def cmpI : BinOp → Int → Int → Option Bool
  | .eql, x, y => some (x == y) | .neq, x, y => some (x != y) | .lss, x, y => some (x < y) | .leq, x, y => some (x ≤ y) | .gtr, x, y => some (x > y) | .geq, x, y => some (x ≥ y)
  | _, _, _ => none
theorem EV_cmp {op : BinOp} {t u : TypeId} {k : IntKind} {i j : Int} {b : Bool} (hx : ev M x = some (.int k i)) (hy : ev M y = some (.int k j)) (hb : cmpI op i j = some b)
    : EV P n ⟨some d, .binOp op t x y u, ty, ps, af, g⟩ M L d (.bool b) :=
  ⟨rfl, fun a w ha _ => by
    cases op <;> simp [cmpI] at hb <;> subst hb <;> simp [execOp, ha.eval hx, ha.eval hy, eqGuard, binOp, Op.intCmp]⟩
omit [W0] in
def ariI : BinOp → Int → Int → Option Int
  | .add, x, y => some (x + y) | .sub, x, y => some (x - y) | .mul, x, y => some (x * y)
  | _, _, _ => none
theorem EV_ari {op : BinOp} {t u : TypeId} {k : IntKind} {i j r : Int} (hx : ev M x = some (.int k i)) (hy : ev M y = some (.int k j)) (hb : ariI op i j = some r)
    : EV P n ⟨some d, .binOp op t x y u, ty, ps, af, g⟩ M L d (.int k (k.wrap r)) :=
  ⟨rfl, fun a w ha _ => by
    cases op <;> simp [ariI] at hb <;> subst hb <;> simp [execOp, ha.eval hx, ha.eval hy, eqGuard, binOp, Op.intArith]⟩
theorem wrap_i64 {r : Int} (h1 : -9223372036854775808 ≤ r) (h2 : r ≤ 9223372036854775807) : IntKind.i64.wrap r = r := by
  simp [IntKind.wrap, IntKind.bits, IntKind.signed]
  split <;> omega
/-- Sums of ints that fit. -/
theorem EV_ari64 {op : BinOp} {t u : TypeId} {i j r : Int} (hx : ev M x = some (.int .i64 i)) (hy : ev M y = some (.int .i64 j)) (hb : ariI op i j = some r)
    (h1 : -9223372036854775808 ≤ r ∧ r ≤ 9223372036854775807) : EV P n ⟨some d, .binOp op t x y u, ty, ps, af, g⟩ M L d (.int .i64 r) := by
  have := EV_ari (P := P) (n := n) (L := L) (d := d) (ty := ty) (ps := ps) (af := af) (g := g) (op := op) (t := t) (u := u) hx hy hb
  rwa [wrap_i64 h1.1 h1.2] at this

/- memory -/
theorem isAgg_false {t : TypeId} (h : aggB P t = false) (w : World) : (isAgg t).run P w = .ok false w := by
  unfold aggB at h
  cases hu : P.underlying t with
  | none => simp [hu] at h
  | some D => cases D <;> simp [hu] at h <;> simp [isAgg, underlying, hu]
theorem isAgg_true {t : TypeId} (h : aggT P t = true) (w : World) : (isAgg t).run P w = .ok true w := by
  unfold aggT at h
  cases hu : P.underlying t with
  | none => simp [hu] at h
  | some D => cases D <;> simp [hu] at h <;> simp [isAgg, underlying, hu]

theorem cell_of {w : World} {b off : Nat} {c : Array Value} {T : TypeId} {fr : Nat × Nat} (hb : w.heap[b]? = some (.cells c T fr)) : w.cell? ⟨b, off, none⟩ = c[off]? := by
  simp [World.cell?, hb]

theorem EV_load {t : TypeId} [hag : NA P t] {b off : Nat} {c : Array Value} {T : TypeId} {fr : Nat × Nat} (hx : ev M x = some (.pointer (some ⟨b, off, none⟩))) (hf : Fnd L b (.cells c T fr))
    (hc : c[off]? = some v) : EV P n ⟨some d, .load t x, ty, ps, af, g⟩ M L d (v) :=
  ⟨rfl, fun a w ha hw => by
    have hcell : w.cell? ⟨b, off, none⟩ = some v := by rw [cell_of (hf.get hw), hc]
    simp [execOp, ha.eval hx, Instr.loadAt, Instr.sureAddr, loadVar, isAgg_false hag.out, hcell]⟩

theorem EV_loadc {t : TypeId} [hag : NA P t] {b off : Nat} {l : List Value} {T : TypeId} (hx : ev M x = some (.pointer (some ⟨b, off, none⟩))) (hf : Fnd L b (cl l T))
    (hc : nth l off = some v) : EV P n ⟨some d, .load t x, ty, ps, af, g⟩ M L d v :=
  EV_load hx hf (by simpa [nth_eq] using hc)

theorem setCell_at {w : World} {b off : Nat} {c : Array Value} {T : TypeId} {fr : Nat × Nat} {v : Value} (hb : w.heap[b]? = some (.cells c T fr)) :
    (w.setCell ⟨b, off, none⟩ v).heap[b]? = some (.cells (c.setIfInBounds off v) T fr) := by
  simp [World.setCell, Array.getElem?_modify, hb]
theorem setCell_ne {w : World} {b off e : Nat} {v : Value} (hne : e ≠ b) : (w.setCell ⟨b, off, none⟩ v).heap[e]? = w.heap[e]? := by
  simp only [World.setCell, Array.getElem?_modify]
  rw [if_neg (by intro h; exact hne h.symm)]

omit [W0] in
def sz1 (P : Program) (t : TypeId) : Bool := P.cellsOf t == 1 && (P.info? t).isSome
theorem sizeOf_run {t : TypeId} {k : Nat} (h : (P.info? t).map (·.size) = some k) (w : World) : (sizeOf t).run P w = .ok k w := by
  cases hi : P.info? t with
  | none => simp [hi] at h
  | some i => simp [hi] at h; simp [sizeOf, typeInfo, hi, h]

theorem OW_store {t : TypeId} [hs : SZ P t 1] {b off : Nat} {l : List Value} {T : TypeId} {L' : List Chunk} (hx : ev M x = some (.pointer (some ⟨b, off, none⟩))) (hy : ev M y = some v) (hv : v.oneCell' = true)
    (hu : Upd L b (cl l T) (cl (l.set off v) T) L') (hlt : off < l.length) (h : K M L') :
    OW P n ⟨none, .store t x y, ty, ps, af, g⟩ K M L := ⟨fun a w next Q ha hw hk => by
  have hb := hu.fnd.get hw
  have hcell : w.cell? ⟨b, off, none⟩ = some l[off] := by rw [cell_of hb]; simp [hlt]
  have hfz : w.frozen? ⟨b, off, none⟩ = false := by simp [World.frozen?, hb, cl]
  have hcs : v.cells = #[v] := by cases v <;> simp [Value.oneCell'] at hv <;> rfl
  have hrun : (execOp a.eval ⟨none, .store t x y, ty, ps, af, g⟩).run P w = .ok .skip (w.setCell ⟨b, off, none⟩ v) := by
    simp [execOp, ha.eval hx, ha.eval hy, Instr.storeAt, Instr.sureAddr, storeVar, sizeOf_run hs.out, hcs, storeCells, run_store _ _ _ _ _ hv, Addr.add, hcell, hfz]
  unfold Oper.wp
  rw [hrun, Oper.upon_skip]
  refine (hk _ _ h).out _ _ ha (hw.upd hu ?_ ?_ rfl rfl)
  · rw [setCell_at hb]; simp [cl]
  · exact fun c hc => setCell_ne hc⟩

theorem EV_fieldAddr {s : TypeId} {f k : Nat} [hF : FO P s f k] {b off : Nat} (hx : ev M x = some (.pointer (some ⟨b, off, none⟩)))
    : EV P n ⟨some d, .fieldAddr s x f, ty, ps, af, g⟩ M L d (.pointer (some ⟨b, off + k, none⟩)) :=
  ⟨rfl, fun a w ha _ => by
    have hF := hF.out
    unfold fldOff at hF
    split at hF
    · rename_i fs hu
      split at hF
      · rename_i fd hf
        split at hF
        · rename_i i hi
          split at hF
          · rename_i hz
            simp at hF
            subst hF
            have hne : i.size ≠ 0 := by rw [Nat.blt_eq] at hz; omega
            simp [execOp, ha.eval hx, Instr.fieldAt, Instr.sureAddr, fieldPlace, underlying, hu, hf, sizeOf, typeInfo, hi, hne]
            unfold Addr.add
            split <;> simp_all
          · simp at hF
        · simp at hF
      · simp at hF
    · simp at hF⟩
theorem EV_fieldAddr0 {s : TypeId} {f k : Nat} [hF : FO P s f k] {b : Nat} (hx : ev M x = some (.pointer (some ⟨b, 0, none⟩))) :
    EV P n ⟨some d, .fieldAddr s x f, ty, ps, af, g⟩ M L d (.pointer (some ⟨b, k, none⟩)) := by
  have := EV_fieldAddr (P := P) (n := n) (L := L) (d := d) (ty := ty) (ps := ps) (af := af) (g := g) (s := s) (f := f) hx
  rwa [Nat.zero_add] at this

end

/- calls -/
structure Gv (P : Program) (f : FuncId) (args : Array Value) (L : List Chunk) (post : Value → List Chunk → Prop) : Prop where
  out : ∀ w, Holds w L → Calls P f args w fun e w' => ∃ v L', e = .returned v ∧ post v L' ∧ Holds w' L'

section
variable {P : Program} {n : Nat} {Q : Exit → Act → World → Prop} {M : List (Nat × Value)} {L : List Chunk} {K : List (Nat × Value) → List Chunk → Prop}
variable {d : Nat} {ty : TypeId} {ps : String} {af : Array Edge} {g : Option (Nat × Bool)} {x y : Operand} {v : Value}

omit [W0] in
def evs (M : List (Nat × Value)) : List Operand → Option (List Value)
  | [] => some []
  | x :: r => match ev M x, evs M r with
    | some v, some vs => some (v :: vs)
    | _, _ => none
theorem St.evals {a : Act} (h : St n M a) : ∀ {xs : List Operand} {vs : List Value}, evs M xs = some vs → xs.map a.eval = vs
  | [], vs, he => by simp [evs] at he; subst he; rfl
  | x :: r, vs, he => by
    unfold evs at he
    split at he
    · rename_i v vs' h1 h2
      simp at he; subst he
      simp [h.eval h1, St.evals h h2]
    · simp at he

theorem callFunc_run {f : FuncId} (h : bodyB P f = true) (args : Array Value) (w : World) : (callFunc f args).run P w = .ok (.enter f args) w := by
  unfold bodyB at h
  cases hf : P.funcs[f]? with
  | none => simp [hf] at h
  | some fn =>
    simp [hf] at h
    have h2 : fn.body.isNone = false := by cases hb : fn.body <;> simp_all
    simp only [callFunc, Sem.run_bind, run_program, Result.andThen_ok, hf]
    rw [if_neg (by simpa using h.1), if_neg (by simp [h2])]
    rfl

theorem OW_call {f : FuncId} [hb : BD P f] {xs : List Operand} {ats : Array TypeId} {first cap : Array Value} {vs : List Value} {args : Array Value} {post : Value → List Chunk → Prop}
    (hx : ev M x = some (.func (.func f) first cap)) (hvs : evs M xs = some vs) (hargs : first ++ vs.toArray ++ cap = args) (hspec : Gv P f args L post)
    (hn : Nat.blt d n = true) (h : ∀ v L', post v L' → K ((d, v) :: M) L') : OW P n ⟨some d, .call ⟨.value x, xs.toArray, ats⟩, ty, ps, af, g⟩ K M L := ⟨fun a w next Q ha hw hk => by
  subst hargs
  have hrun : (execOp a.eval ⟨some d, .call ⟨.value x, xs.toArray, ats⟩, ty, ps, af, g⟩).run P w = .ok (.enter f (first ++ vs.toArray ++ cap)) w := by
    have hm : Array.map a.eval xs.toArray = vs.toArray := by
      rw [← ha.evals hvs]; simp
    simp only [execOp, resolve, ha.eval hx, hm, Deferred.ofValue, Sem.run_bind, Sem.run_pure, Result.andThen_ok, invoke, callFunc_run hb.out]
  unfold Oper.wp
  rw [hrun, Oper.upon_enter]
  refine (hspec.out w hw).mono fun e w' he => ?_
  obtain ⟨v, L', rfl, hp, hw'⟩ := he
  exact (hk _ _ (h v L' hp)).out _ _ (ha.put v hn) hw'⟩

theorem Gv.mono {f : FuncId} {args : Array Value} {post post' : Value → List Chunk → Prop} (h : Gv P f args L post) (hp : ∀ v L', post v L' → post' v L') : Gv P f args L post' :=
  ⟨fun w hw => (h.out w hw).mono fun _ _ he => let ⟨v, L', h1, h2, h3⟩ := he; ⟨v, L', h1, hp v L' h2, h3⟩⟩
theorem Gv.holds {f : FuncId} {args : Array Value} {post : Value → List Chunk → Prop} {L' : List Chunk} (h : Gv P f args L' post) (hl : ∀ w, Holds w L → Holds w L') : Gv P f args L post :=
  ⟨fun w hw => h.out w (hl w hw)⟩
theorem Gv.take {f : FuncId} {args : Array Value} {post : Value → List Chunk → Prop} {L' : List Chunk} {C : Chunk} (h : Gv P f args (C :: L') post) (ht : Take C L L') : Gv P f args L post :=
  h.holds fun _ hw => hw.take ht

omit [W0] in
/-- The parameters' slots. -/
def params : Nat → List Value → List (Nat × Value)
  | _, [] => []
  | i, v :: r => (i, v) :: params (i + 1) r

theorem params_get : ∀ (args : List Value) (i t : Nat) (v : Value), lk (params i args) t = some v → i ≤ t ∧ args[t - i]? = some v
  | [], i, t, v, h => by simp [params, lk] at h
  | u :: r, i, t, v, h => by
    unfold params lk at h
    cases hb : Nat.beq i t with
    | true =>
      have := Nat.eq_of_beq_eq_true hb
      subst this
      rw [hb] at h
      simp at h; subst h; simp
    | false =>
      rw [hb] at h
      obtain ⟨h1, h2⟩ := params_get r (i + 1) t v h
      refine ⟨by omega, ?_⟩
      have : t - i = (t - (i + 1)) + 1 := by omega
      rw [this]; simpa using h2

/-- A function's contract out of its body. -/
theorem Gv.of_body {f : FuncId} {fn : Func} {c : Code} {args : List Value} {post : Value → List Chunk → Prop} (hf : P.funcs[f]? = some fn) (hb : fn.body = some c) (hle : Nat.ble args.length fn.ntmps = true)
    (h : WC P fn.ntmps c (bodyPost P fn (fun e w' => ∃ v L', e = .returned v ∧ post v L' ∧ Holds w' L')) (params 0 args) L) : Gv P f args.toArray L post := ⟨fun w hw => by
  refine calls_of_wp hf hb (h.out _ w ⟨rfl, ?_, ?_⟩ hw)
  · have := Nat.le_of_ble_eq_true hle
    simp; omega
  · intro t v ht
    obtain ⟨_, h2⟩ := params_get args 0 t v ht
    have h2' : args[t]? = some v := by simpa using h2
    have hlt : t < args.length := by
      rcases Nat.lt_or_ge t args.length with h' | h'
      · exact h'
      · simp [List.getElem?_eq_none h'] at h2'
    rw [Array.getElem?_append_left (by simpa using hlt)]
    simpa using h2'⟩

omit [W0] in
/-- What the results' slots hold. -/
def resT (M : List (Nat × Value)) : List ResultVar → Option (List Value)
  | [] => some []
  | .tmp t :: r => match lk M t, resT M r with
    | some v, some vs => some (v :: vs)
    | _, _ => none
  | .cell .. :: _ => none
omit [W0] in
def tupled : List Value → Value
  | [v] => v
  | vs => .tuple vs.toArray

omit [W0] in
def resOne (tmps : Array Value) : ResultVar → Sem Value
  | .tmp t => pure (tmps.getD t undef)
  | .cell x t => do loadVar t (← asAddr (tmps.getD x undef))

theorem results_eq (fn : Func) (tmps : Array Value) : results fn tmps = (do
    let vs ← fn.results.mapM (resOne tmps)
    pure (if h : vs.size = 1 then vs[0] else .tuple vs)) := by
  unfold results
  congr 2

theorem resT_run {a : Act} {w : World} (ha : St n M a) : ∀ {rs : List ResultVar} {vs : List Value}, resT M rs = some vs →
    (rs.mapM (resOne a.tmps)).run P w = .ok vs w
  | [], vs, h => by simp [resT] at h; subst h; rfl
  | .tmp t :: r, vs, h => by
    unfold resT at h
    split at h
    · rename_i v vs' h1 h2
      simp at h; subst h
      have := resT_run (w := w) ha h2
      simp [List.mapM_cons, this, resOne, Array.getD_eq_getD_getElem?, ha.get t v h1]
    · simp at h
  | .cell _ _ :: _, vs, h => by simp [resT] at h

theorem results_run {a : Act} {w : World} {fn : Func} {rs : List ResultVar} {vs : List Value} (ha : St n M a) (hr : fn.results = rs.toArray) (h : resT M rs = some vs) :
    (results fn a.tmps).run P w = .ok (tupled vs) w := by
  rw [results_eq, hr]
  simp only [List.mapM_toArray, Sem.run_bind, Sem.run_map, resT_run ha h, Result.andThen_ok, Sem.run_pure]
  match vs with
  | [] => simp [tupled]
  | [v] => simp [tupled]
  | v :: u :: r => simp [tupled]

theorem WQ_ret {fn : Func} {post : Value → List Chunk → Prop} {rs : List ResultVar} {vs : List Value} (hr : fn.results = rs.toArray) (h : resT M rs = some vs) (hp : post (tupled vs) L) :
    WQ n (bodyPost P fn (fun e w' => ∃ v L', e = .returned v ∧ post v L' ∧ Holds w' L') .ret) M L := ⟨fun _ _ ha hw =>
  ⟨ha.defers, tupled vs, results_run ha hr h, _, L, rfl, hp, hw⟩⟩
theorem WQ_end {fn : Func} {post : Value → List Chunk → Prop} {rs : List ResultVar} {vs : List Value} (hr : fn.results = rs.toArray) (h : resT M rs = some vs) (hp : post (tupled vs) L) :
    WQ n (bodyPost P fn (fun e w' => ∃ v L', e = .returned v ∧ post v L' ∧ Holds w' L') .normal) M L := ⟨fun _ _ ha hw =>
  ⟨ha.defers, tupled vs, results_run ha hr h, _, L, rfl, hp, hw⟩⟩
end

end Go.Vx
