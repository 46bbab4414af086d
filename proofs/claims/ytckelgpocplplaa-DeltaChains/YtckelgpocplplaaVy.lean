/- The layer's second half: slices, strings, allocation, append and copy, loops. It proves no statement by itself. No conditions. -/
import Derived.Test.YtckelgpocplplaaVx
namespace Go.Vx
open Go
set_option linter.all false
variable [W0]

section
variable {P : Program} {n : Nat} {Q : Exit → Act → World → Prop} {M : List (Nat × Value)} {L : List Chunk} {K : List (Nat × Value) → List Chunk → Prop}
variable {d : Nat} {ty : TypeId} {ps : String} {af : Array Edge} {g : Option (Nat × Bool)} {x y : Operand} {v : Value}

theorem SL.parts {T e k b : Nat} (h : SL P T e k b) : P.underlying T = some (.slice e) ∧ ∃ i, P.info? e = some i ∧ i.size = k ∧ i.bytes = b ∧ 0 < k := by
  have h := h.out
  unfold slcOf at h
  split at h
  · rename_i e' hu
    split at h
    · rename_i i hi
      split at h
      · rename_i hz
        simp at h
        obtain ⟨rfl, rfl, rfl⟩ := h
        rw [Nat.blt_eq] at hz
        exact ⟨hu, i, hi, rfl, rfl, hz⟩
      · simp at h
    · simp at h
  · simp at h

theorem addr_add {b off k : Nat} : (⟨b, off, none⟩ : Addr).add k = ⟨b, off + k, none⟩ := by
  unfold Addr.add; split <;> simp_all

theorem EV_indexAddr {T e k by_ : Nat} [hs : SL P T e k by_] {b off len cap j : Nat} {kk : IntKind} {i : Int} (hx : ev M x = some (.slice (some ⟨b, off, none⟩) len cap)) (hy : ev M y = some (.int kk i))
    (hj : i = (j : Int)) (hlt : j < len) :
    EV P n ⟨some d, .indexAddr T x y, ty, ps, af, g⟩ M L d (.pointer (some ⟨b, off + j * k, none⟩)) :=
  ⟨rfl, fun a w ha _ => by
    obtain ⟨hu, i', hi, hk, _, hk0⟩ := hs.parts
    subst hj
    have h2 : (j : Int) < (len : Int) := by omega
    simp [execOp, ha.eval hx, ha.eval hy, Instr.indexAt, asIntOf, underlying, hu, sizeOf, typeInfo, hi, hk, addr_add, h2, hlt]⟩
theorem EV_indexAddr0 {T e k by_ : Nat} [hs : SL P T e k by_] {b len cap j : Nat} {kk : IntKind} {i : Int} (hx : ev M x = some (.slice (some ⟨b, 0, none⟩) len cap)) (hy : ev M y = some (.int kk i))
    (hj : i = (j : Int)) (hlt : j < len) : EV P n ⟨some d, .indexAddr T x y, ty, ps, af, g⟩ M L d (.pointer (some ⟨b, j * k, none⟩)) := by
  have := EV_indexAddr (P := P) (n := n) (L := L) (d := d) (ty := ty) (ps := ps) (af := af) (g := g) (T := T) hx hy hj hlt
  rwa [Nat.zero_add] at this

theorem EV_indexStr {T : Nat} [hs : ST P T] {s : ByteArray} {j : Nat} {kk : IntKind} {i : Int} {u : UInt8} (hx : ev M x = some (.string s)) (hy : ev M y = some (.int kk i))
    (hj : i = (j : Int)) (hu : s[j]? = some u) :
    EV P n ⟨some d, .index T x y, ty, ps, af, g⟩ M L d (.int .u8 (u.toNat : Int)) :=
  ⟨rfl, fun a w ha _ => by
    subst hj
    simp [execOp, ha.eval hx, ha.eval hy, Instr.index, asIntOf, underlying, hs.out, hu]⟩

theorem EV_lenSl {T e k by_ : Nat} [hs : SL P T e k by_] {b : Option Addr} {len cap : Nat} (hx : ev M x = some (.slice b len cap))
    : EV P n ⟨some d, .call ⟨.builtin .len, #[x], #[T]⟩, ty, ps, af, g⟩ M L d (.int .i64 (len : Int)) :=
  ⟨rfl, fun a w ha _ => by
    obtain ⟨hu, _⟩ := hs.parts
    simp [execOp, resolve, invoke, builtin, ha.eval hx, Builtin.len_, underlying, hu, goInt]⟩
theorem EV_capSl {T e k by_ : Nat} [hs : SL P T e k by_] {b : Option Addr} {len cap : Nat} (hx : ev M x = some (.slice b len cap))
    : EV P n ⟨some d, .call ⟨.builtin .cap, #[x], #[T]⟩, ty, ps, af, g⟩ M L d (.int .i64 (cap : Int)) :=
  ⟨rfl, fun a w ha _ => by
    obtain ⟨hu, _⟩ := hs.parts
    simp [execOp, resolve, invoke, builtin, ha.eval hx, Builtin.cap_, underlying, hu, goInt]⟩
theorem EV_lenStr {T : Nat} [hs : ST P T] {s : ByteArray} (hx : ev M x = some (.string s))
    : EV P n ⟨some d, .call ⟨.builtin .len, #[x], #[T]⟩, ty, ps, af, g⟩ M L d (.int .i64 (s.size : Int)) :=
  ⟨rfl, fun a w ha _ => by
    simp [execOp, resolve, invoke, builtin, ha.eval hx, Builtin.len_, underlying, hs.out, goInt]⟩
theorem EV_min {t u : TypeId} {k : IntKind} {i j : Int} (hx : ev M x = some (.int k i)) (hy : ev M y = some (.int k j))
    : EV P n ⟨some d, .call ⟨.builtin .min, #[x, y], #[t, u]⟩, ty, ps, af, g⟩ M L d (.int k (min i j)) :=
  ⟨rfl, fun a w ha _ => by
    have e : (if j < i then j else i) = min i j := by rw [Int.min_def]; split <;> split <;> omega
    simp [execOp, resolve, invoke, builtin, ha.eval hx, ha.eval hy, Builtin.min_, Builtin.min2, e]⟩
theorem EV_max {t u : TypeId} {k : IntKind} {i j : Int} (hx : ev M x = some (.int k i)) (hy : ev M y = some (.int k j))
    : EV P n ⟨some d, .call ⟨.builtin .max, #[x, y], #[t, u]⟩, ty, ps, af, g⟩ M L d (.int k (max i j)) :=
  ⟨rfl, fun a w ha _ => by
    have e : (if i < j then j else i) = max i j := by rw [Int.max_def]; split <;> split <;> omega
    simp [execOp, resolve, invoke, builtin, ha.eval hx, ha.eval hy, Builtin.max_, Builtin.max2, e]⟩

omit [W0] in
/-- A bound of a slice expression. -/
def bnd (M : List (Nat × Value)) : Option Operand → Nat → Option Int
  | none, dflt => some dflt
  | some x, _ => match ev M x with | some (.int _ i) => some i | _ => none

theorem sliceBounds_run {isS : Bool} {len cap : Nat} {lo hi : Option Operand} {l h : Nat} {a : Act} (ha : St n M a) (hl : bnd M lo 0 = some (l : Int)) (hh : bnd M hi len = some (h : Int)) (h1 : l ≤ h) (h2 : h ≤ cap) (w : World) :
    (Instr.sliceBounds isS len cap (lo.map a.eval) (hi.map a.eval) none).run P w = .ok (l, h, cap) w := by
  have hlow : ∀ (x : Operand) (z : Int), bnd M (some x) 0 = some z → ∃ q, a.eval x = .int q z := by
    intro x z hz
    simp only [bnd] at hz
    split at hz
    · rename_i kk i he; simp at hz; subst hz; exact ⟨kk, ha.eval he⟩
    · simp at hz
  cases lo with
  | none =>
    have : l = 0 := by simp [bnd] at hl; omega
    subst this
    cases hi with
    | none =>
      have : len = h := by simp [bnd] at hh; omega
      subst this
      simp [Instr.sliceBounds]
    | some y =>
      obtain ⟨k2, e2⟩ := hlow y _ hh
      simp [Instr.sliceBounds, Instr.sliceBound, e2, asIntOf, h1, h2]
  | some x =>
    obtain ⟨k1, e1⟩ := hlow x _ hl
    cases hi with
    | none =>
      have : len = h := by simp [bnd] at hh; omega
      subst this
      simp [Instr.sliceBounds, Instr.sliceBound, e1, asIntOf, h1, h2]
    | some y =>
      obtain ⟨k2, e2⟩ := hlow y _ hh
      simp [Instr.sliceBounds, Instr.sliceBound, e1, e2, asIntOf, h1, h2]

theorem EV_sliceStr {T : Nat} [hs : ST P T] {s : ByteArray} {lo hi : Option Operand} {l h : Nat} (hx : ev M x = some (.string s)) (hl : bnd M lo 0 = some (l : Int)) (hh : bnd M hi s.size = some (h : Int))
    (h1 : l ≤ h) (h2 : h ≤ s.size) : EV P n ⟨some d, .slice T x lo hi none, ty, ps, af, g⟩ M L d (.string (s.extract l h)) :=
  ⟨rfl, fun a w ha _ => by
    simp [execOp, ha.eval hx, Instr.sliceAt, Instr.slice, underlying, hs.out, sliceBounds_run ha hl hh h1 h2]⟩
theorem EV_sliceSl {T e k by_ : Nat} [hs : SL P T e k by_] {b off len cap : Nat} {lo hi : Option Operand} {l h : Nat} (hx : ev M x = some (.slice (some ⟨b, off, none⟩) len cap)) (hl : bnd M lo 0 = some (l : Int)) (hh : bnd M hi len = some (h : Int))
    (h1 : l ≤ h) (h2 : h ≤ cap) : EV P n ⟨some d, .slice T x lo hi none, ty, ps, af, g⟩ M L d (.slice (some ⟨b, if cap = l then off else off + l * k, none⟩) (h - l) (cap - l)) :=
  ⟨rfl, fun a w ha _ => by
    obtain ⟨hu, i', hi', hk', _, hk0⟩ := hs.parts
    simp [execOp, ha.eval hx, Instr.sliceAt, Instr.slice, underlying, hu, sliceBounds_run ha hl hh h1 h2, sizeOf, typeInfo, hi', hk', addr_add]
    split <;> simp_all⟩
/-- From the beginning: the same place. -/
theorem EV_sliceTo {T e k by_ : Nat} [hs : SL P T e k by_] {b off len cap : Nat} {lo hi : Option Operand} {h : Nat} (hx : ev M x = some (.slice (some ⟨b, off, none⟩) len cap)) (hl : bnd M lo 0 = some ((0 : Nat) : Int)) (hh : bnd M hi len = some (h : Int))
    (h2 : h ≤ cap) : EV P n ⟨some d, .slice T x lo hi none, ty, ps, af, g⟩ M L d (.slice (some ⟨b, off, none⟩) h cap) := by
  have := EV_sliceSl (P := P) (n := n) (L := L) (d := d) (ty := ty) (ps := ps) (af := af) (g := g) (T := T) hx hl hh (Nat.zero_le _) h2
  have e : (if cap = 0 then off else off + 0 * k) = off := by split <;> simp
  rw [e] at this
  simpa using this
theorem EV_sliceNil {T e k by_ : Nat} [hs : SL P T e k by_] {lo hi : Option Operand} (hx : ev M x = some (.slice none 0 0)) (hl : bnd M lo 0 = some ((0 : Nat) : Int)) (hh : bnd M hi 0 = some ((0 : Nat) : Int))
    : EV P n ⟨some d, .slice T x lo hi none, ty, ps, af, g⟩ M L d (.slice none 0 0) :=
  ⟨rfl, fun a w ha _ => by
    obtain ⟨hu, i', hi', hk', _, hk0⟩ := hs.parts
    simp [execOp, ha.eval hx, Instr.sliceAt, Instr.slice, underlying, hu, sliceBounds_run ha hl hh (Nat.le_refl _) (Nat.le_refl _), sizeOf, typeInfo, hi']⟩

/- aggregates -/
omit [W0] in
/-- Some cells of a list, in a row. -/
def cut (l : List Value) (off k : Nat) : List Value := (l.drop off).take k
omit [W0] in
def patch (l : List Value) (off : Nat) (vs : List Value) : List Value := l.take off ++ vs ++ l.drop (off + vs.length)
theorem patch_length {l vs : List Value} {off : Nat} (h : off + vs.length ≤ l.length) : (patch l off vs).length = l.length := by
  simp [patch]; omega
theorem cut_length {l : List Value} {off k : Nat} (h : off + k ≤ l.length) : (cut l off k).length = k := by
  simp [cut]; omega
theorem cut_get {l : List Value} {off k j : Nat} (h : j < k) : (cut l off k)[j]? = l[off + j]? := by
  simp [cut, List.getElem?_take, h]

omit [W0] in
/-- What stands at an address, in a row. -/
def RdAt (L : List Chunk) (a : Addr) (vs : List Value) : Prop :=
  vs = [] ∨ ∃ b off c T fr, a = ⟨b, off, none⟩ ∧ Fnd L b (.cells c T fr) ∧ ∀ j u, vs[j]? = some u → c[off + j]? = some u
theorem RdAt.cells {a : Addr} {vs : List Value} (h : RdAt L a vs) {w : World} (hw : Holds w L) : ∀ j u, vs[j]? = some u → w.cell? (a.add j) = some u := by
  intro j u hj
  rcases h with rfl | ⟨b, off, c, T, fr, rfl, hf, hc⟩
  · simp at hj
  · rw [addr_add, cell_of (hf.get hw)]; exact hc j u hj
theorem RdAt.cl {b off : Nat} {l : List Value} {T : TypeId} {k : Nat} (hf : Fnd L b (Vx.cl l T)) : RdAt L ⟨b, off, none⟩ (cut l off k) := by
  refine .inr ⟨b, off, l.toArray, T, (0, 0), rfl, hf, fun j u hj => ?_⟩
  have hlt : j < k := by
    rcases Nat.lt_or_ge j k with h' | h'
    · exact h'
    · rw [List.getElem?_eq_none (by simp [cut]; omega)] at hj; simp at hj
  rw [cut_get hlt] at hj
  simpa using hj
theorem RdAt.cl' {b off : Nat} {l vs : List Value} {T : TypeId} (hf : Fnd L b (Vx.cl l T)) (hv : cut l off vs.length = vs) : RdAt L ⟨b, off, none⟩ vs := by
  have := RdAt.cl (off := off) (k := vs.length) hf
  rwa [hv] at this

theorem EV_loadAgg {t k : Nat} [hag : AG P t k] {a : Addr} {vs : List Value} (hx : ev M x = some (.pointer (some a))) (hr : RdAt L a vs) (hl : vs.length = k)
    : EV P n ⟨some d, .load t x, ty, ps, af, g⟩ M L d (.agg vs.toArray) :=
  ⟨rfl, fun a' w ha hw => by
    have hrun := run_loadCells_list (P := P) w a vs (hr.cells hw)
    rw [hl] at hrun
    simp [execOp, ha.eval hx, Instr.loadAt, Instr.sureAddr, loadVar, isAgg_true hag.out.1, sizeOf_run hag.out.2, hrun]⟩

theorem Holds.row {w : World} {L' : List Chunk} {b : Nat} {l l' : List Value} {T : TypeId} (hw : Holds w L) (hu : Upd L b (cl l T) (cl l' T) L') : Holds (w.setRow b l'.toArray) L' := by
  refine hw.upd hu ?_ (fun c hc => setRow_other w b c _ hc) rfl rfl
  exact setRow_heap w b l.toArray _ T (0, 0) (hu.fnd.get hw)

omit [W0] in
def ones (vs : List Value) : Bool := vs.all Value.oneCell'
theorem ones_mem {vs : List Value} (h : ones vs = true) : ∀ v ∈ vs, v.oneCell' = true := by simpa [ones] using h

theorem storeCells_run {w : World} {L' : List Chunk} {b off : Nat} {l vs : List Value} {T : TypeId} (hw : Holds w L) (hu : Upd L b (cl l T) (cl (patch l off vs) T) L') (hfit : off + vs.length ≤ l.length) (h1 : ones vs = true) :
    (storeCells ⟨b, off, none⟩ vs).run P w = .ok () (w.setRow b (patch l off vs).toArray) := by
  have := run_storeCells_at P b off T vs 0 l.toArray w (hu.fnd.get hw) (by simpa using hfit) (ones_mem h1)
  simpa [patch] using this

theorem OW_storeAgg {t k : Nat} [hag : AG P t k] {b off : Nat} {l vs : List Value} {T : TypeId} {L' : List Chunk} (hx : ev M x = some (.pointer (some ⟨b, off, none⟩))) (hy : ev M y = some (.agg vs.toArray)) (hl : vs.length = k)
    (h1 : ones vs = true) (hu : Upd L b (cl l T) (cl (patch l off vs) T) L') (hfit : off + vs.length ≤ l.length) (h : K M L') :
    OW P n ⟨none, .store t x y, ty, ps, af, g⟩ K M L := ⟨fun a w next Q ha hw hk => by
  have hrun : (execOp a.eval ⟨none, .store t x y, ty, ps, af, g⟩).run P w = .ok .skip (w.setRow b (patch l off vs).toArray) := by
    have := storeCells_run (P := P) hw hu hfit h1
    simp [execOp, ha.eval hx, ha.eval hy, Instr.storeAt, Instr.sureAddr, storeVar, sizeOf_run hag.out.2, Value.cells, hl, this]
  unfold Oper.wp
  rw [hrun, Oper.upon_skip]
  exact (hk _ _ h).out _ _ ha (hw.row hu)⟩

theorem OW_newval {o : Oper} {ob : Obj} {f : Nat → Value} (hd : o.dst = some d) (hn : Nat.blt d n = true)
    (hr : ∀ a w, St n M a → Holds w L → (execOp a.eval o).run P w = .ok (.value (f w.heap.size)) (w.alloc ob)) (h : ∀ b, K ((d, f b) :: M) ([(b, ob)] :: L)) : OW P n o K M L := ⟨fun a w next Q ha hw hk => by
  unfold Oper.wp
  rw [hr a w ha hw, Oper.upon_value, hd]
  exact (hk _ _ (h w.heap.size)).out _ _ (ha.put _ hn) (hw.alloc ob)⟩

theorem zero_run {t : TypeId} {z : Value} (h : (P.info? t).map (·.zero) = some (some z)) (w : World) : (zeroValue t).run P w = .ok z w := by
  cases hi : P.info? t with
  | none => simp [hi] at h
  | some i => simp [hi] at h; simp [zeroValue, typeInfo, hi, h]
theorem OW_alloc {t : Nat} {z : Value} [hz : ZV P t z] (hn : Nat.blt d n = true) (h : ∀ b, K ((d, .pointer (some ⟨b, 0, none⟩)) :: M) ([(b, cl z.cells.toList t)] :: L)) :
    OW P n ⟨some d, .alloc t, ty, ps, af, g⟩ K M L :=
  OW_newval (f := fun b => .pointer (some ⟨b, 0, none⟩)) rfl hn (fun a w ha hw => by
    simp [execOp, Instr.alloc, zero_run hz.out, newVar, newRow, cl]) h
theorem OW_box {t : Nat} (hx : ev M x = some v) (hn : Nat.blt d n = true) (h : ∀ b, K ((d, .pointer (some ⟨b, 0, none⟩)) :: M) ([(b, cl v.cells.toList t)] :: L)) :
    OW P n ⟨some d, .box t x, ty, ps, af, g⟩ K M L :=
  OW_newval (f := fun b => .pointer (some ⟨b, 0, none⟩)) rfl hn (fun a w ha hw => by
    simp [execOp, Instr.box, ha.eval hx, newVar, newRow, cl]) h

theorem EV_makeInterface {t : Nat} [hi : NI P t] (hx : ev M x = some v) :
    EV P n ⟨some d, .makeInterface t x, ty, ps, af, g⟩ M L d (.iface t v) :=
  ⟨rfl, fun a w ha _ => by
    have h2 := hi.out
    unfold notIface at h2
    cases hu : P.underlying t with
    | none => simp [hu] at h2
    | some D => cases D <;> simp [hu] at h2 <;> simp [execOp, Instr.makeInterface, ha.eval hx, underlying, hu]⟩
theorem EV_makeFunc {f : Fn} {xs ys : List Operand} {vs us : List Value} (hx : evs M xs = some vs) (hy : evs M ys = some us) :
    EV P n ⟨some d, .makeFunc f xs.toArray ys.toArray, ty, ps, af, g⟩ M L d (.func f vs.toArray us.toArray) :=
  ⟨rfl, fun a w ha _ => by
    have e1 : Array.map a.eval xs.toArray = vs.toArray := by rw [← ha.evals hx]; simp
    have e2 : Array.map a.eval ys.toArray = us.toArray := by rw [← ha.evals hy]; simp
    simp only [execOp, Instr.makeFunc, e1, e2, Sem.run_bind, Sem.run_pure, Result.andThen_ok]⟩

/-- A type assertion to a type that is no interface, with ok. -/
theorem EV_assertYes {t u : Nat} [hi : NI P u] (hx : ev M x = some (.iface u v)) :
    EV P n ⟨some d, .typeAssert x t u true, ty, ps, af, g⟩ M L d (.tuple #[v, .bool true]) :=
  ⟨rfl, fun a w ha _ => by
    have h2 := hi.out
    unfold notIface at h2
    cases hu : P.underlying u with
    | none => simp [hu] at h2
    | some D => cases D <;> simp [hu] at h2 <;> simp [execOp, Instr.typeAssert, ha.eval hx, underlying, hu]⟩
theorem EV_assertNo {t u r : Nat} {z : Value} [hi : NI P u] [hz : ZV P u z] (hx : ev M x = some (.iface r v)) (hne : Nat.beq r u = false) :
    EV P n ⟨some d, .typeAssert x t u true, ty, ps, af, g⟩ M L d (.tuple #[z, .bool false]) :=
  ⟨rfl, fun a w ha _ => by
    have hne' : ¬ r = u := by intro e; subst e; simp at hne
    have h2 := hi.out
    unfold notIface at h2
    cases hu : P.underlying u with
    | none => simp [hu] at h2
    | some D => cases D <;> simp [hu] at h2 <;> simp [execOp, Instr.typeAssert, ha.eval hx, underlying, hu, hne', zero_run hz.out]⟩

/- strings -/
theorem toList_inj {s r : ByteArray} : s.toList = r.toList ↔ s = r := by
  rw [ByteArray.toList_eq, ByteArray.toList_eq]
  constructor
  · intro h
    cases s; cases r
    simp only [ByteArray.mk.injEq]
    exact Array.ext' h
  · intro h; rw [h]
theorem EV_strEq {t u : TypeId} {s r : ByteArray} (hx : ev M x = some (.string s)) (hy : ev M y = some (.string r)) :
    EV P n ⟨some d, .binOp .eql t x y u, ty, ps, af, g⟩ M L d (.bool (decide (s = r))) :=
  ⟨rfl, fun a w ha _ => by
    have e : (s.toList == r.toList) = decide (s = r) := by rw [Bool.eq_iff_iff]; simp [toList_inj]
    simp [execOp, ha.eval hx, ha.eval hy, eqGuard, binOp, Op.stringOp, e]⟩
theorem EV_strNe {t u : TypeId} {s r : ByteArray} (hx : ev M x = some (.string s)) (hy : ev M y = some (.string r)) :
    EV P n ⟨some d, .binOp .neq t x y u, ty, ps, af, g⟩ M L d (.bool (!decide (s = r))) :=
  ⟨rfl, fun a w ha _ => by
    have e : (s.toList == r.toList) = decide (s = r) := by rw [Bool.eq_iff_iff]; simp [toList_inj]
    simp [execOp, ha.eval hx, ha.eval hy, eqGuard, binOp, Op.stringOp, e]⟩
theorem EV_strLt {t u : TypeId} {s r : ByteArray} (hx : ev M x = some (.string s)) (hy : ev M y = some (.string r)) :
    EV P n ⟨some d, .binOp .lss t x y u, ty, ps, af, g⟩ M L d (.bool (Op.bytesLess s.toList r.toList)) :=
  ⟨rfl, fun a w ha _ => by simp [execOp, ha.eval hx, ha.eval hy, eqGuard, binOp, Op.stringOp]⟩
theorem EV_strCat {t u : TypeId} {s r : ByteArray} (hx : ev M x = some (.string s)) (hy : ev M y = some (.string r)) (hs : s.size + r.size ≤ 9223372036854775807) :
    EV P n ⟨some d, .binOp .add t x y u, ty, ps, af, g⟩ M L d (.string (s ++ r)) :=
  ⟨rfl, fun a w ha _ => by
    simp [execOp, ha.eval hx, ha.eval hy, eqGuard, binOp, Op.stringOp]
    omega⟩

theorem EV_convII {s t : Nat} {k k' : IntKind} [h1 : IK P s k] [h2 : IK P t k'] {i r : Int} (hx : ev M x = some (.int k i)) (hr : k'.wrap i = r) :
    EV P n ⟨some d, .convert s t x, ty, ps, af, g⟩ M L d (.int k' r) :=
  ⟨rfl, fun a w ha _ => by
    simp [execOp, ha.eval hx, convert, underlying, h1.out, h2.out, Conv.intToInt, hr]⟩

theorem EV_shr {t u : TypeId} {k k' : IntKind} {i j r : Int} (hx : ev M x = some (.int k i)) (hy : ev M y = some (.int k' j)) (hj : 0 ≤ j) (hr : i.fdiv (2 ^ (min j.toNat k.bits)) = r)
    : EV P n ⟨some d, .binOp .shr t x y u, ty, ps, af, g⟩ M L d (.int k r) :=
  ⟨rfl, fun a w ha _ => by
    have : ¬ j < 0 := by omega
    simp [execOp, ha.eval hx, ha.eval hy, eqGuard, binOp, Op.shift, this, hr]⟩

/- append -/
theorem act_put_some {a : Act} {v : Value} : a.put (some d) v = { a with tmps := a.tmps.setIfInBounds d v } := rfl

omit [W0] in
/-- A slice of the call's own (or nil), what its first n elements hold, and its chunk. -/
def Ow (e k : Nat) (v : Value) (m : Nat) (xs : List Value) (C : Chunk) : Prop :=
  (v = .slice none 0 0 ∧ m = 0 ∧ xs = [] ∧ C = []) ∨
  ∃ b cap rest, v = .slice (some ⟨b, 0, none⟩) m cap ∧ C = [(b, cl (xs ++ rest) e)] ∧ xs.length = m * k ∧ rest.length = (cap - m) * k ∧ m ≤ cap ∧ cap ≤ maxLen

omit [W0] in
/-- A slice that can be read: what its elements hold. -/
def Sl (L : List Chunk) (k : Nat) (v : Value) (m : Nat) (xs : List Value) : Prop :=
  (∃ c, v = .slice none 0 c ∧ m = 0 ∧ xs = []) ∨ ∃ a cap, v = .slice (some a) m cap ∧ RdAt L a xs ∧ xs.length = m * k

omit [W0] in
/-- A chunk stands between two parts. -/
inductive Zip (C : Chunk) : List Chunk → List Chunk → List Chunk → Prop
  | here (B) : Zip C (C :: B) [] B
  | there (D) {L A B} : Zip C L A B → Zip C (D :: L) (D :: A) B
theorem Zip.eq {C : Chunk} {L A B : List Chunk} (h : Zip C L A B) : L = A ++ C :: B := by
  induction h with
  | here B => rfl
  | there D _ ih => simp [ih]
theorem Upd.front {L0 : List Chunk} {b : Nat} {o o' : Obj} : Upd ([(b, o)] :: L0) b o o' ([(b, o')] :: L0) := .here

theorem run_append_own' {t e k by_ : Nat} {z : Value} (hs : SL P t e k by_) (hz : ZV P e z) (hzk : z.cells.size = k) {v r : Value} {m c : Nat} {xs ys : List Value} {C : Chunk} (hown : Ow e k v m xs C) {L0 : List Chunk}
    (hsl : Sl (C :: L0) k r c ys) (h1 : ones ys = true) (hb : (m + c) * by_ ≤ 140737488355328) (h63 : m + c ≤ maxLen) {w : World} (hw : Holds w (C :: L0)) :
    ∃ v' C' w', (Builtin.append_ #[t, t] ty #[v, r]).run P w = .ok v' w' ∧ Ow e k v' (m + c) (xs ++ ys) C' ∧ Holds w' (C' :: L0) ∧ (v = .slice none 0 0 → c = 0 → v' = .slice none 0 0) ∧ (v' = .slice none 0 0 → v = .slice none 0 0) := by
  obtain ⟨ht, i, hi, hik, hib, hk⟩ := hs.parts
  have hzz : i.zero = some z := by have := hz.out; rw [hi] at this; simpa using this
  subst hik hib
  have hsmall : m + c ≤ 9223372036854775807 := by simpa [maxLen] using h63
  rcases hown with ⟨rfl, rfl, rfl, rfl⟩ | ⟨b, cap, rest, rfl, rfl, hxl, hrl, hmc, hcm⟩
  · rcases hsl with ⟨c', rfl, rfl, rfl⟩ | ⟨a, c', rfl, hrd, hyl⟩
    · refine ⟨.slice none 0 0, [], w, ?_, .inl ⟨rfl, rfl, rfl, rfl⟩, hw, by simp, by simp⟩
      simp [Builtin.append_, run_underlying ht, sizeOf, typeInfo, hi, Builtin.lenOf, Builtin.firstCells, loadCells, loadCellsFrom]
    · by_cases hc : c = 0
      · subst hc
        have hn : ys = [] := List.eq_nil_of_length_eq_zero (by simpa using hyl)
        subst hn
        refine ⟨.slice none 0 0, [], w, ?_, .inl ⟨rfl, rfl, rfl, rfl⟩, hw, by simp, by simp⟩
        simp [Builtin.append_, run_underlying ht, sizeOf, typeInfo, hi, Builtin.lenOf, Builtin.firstCells, loadCells, loadCellsFrom]
      · have hr := run_append_nil (P := P) w t ty e i z ht hi hzz a c c' ys hyl (hrd.cells hw) (by omega) (by omega) (by have h2 := hb; simp only [Nat.zero_add] at h2; omega)
        refine ⟨_, [(w.heap.size, cl (ys ++ (Builtin.zeroCells z.cells (grownCap w c 0 e - c)).toList) e)], _, hr, .inr ⟨w.heap.size, grownCap w c 0 e, (Builtin.zeroCells z.cells (grownCap w c 0 e - c)).toList, by simp, by simp, by simpa using hyl, ?_, by simpa using grownCap_ge w c 0 e, grownCap_le_maxLen w c 0 e (by omega)⟩, ?_, by simp [hc], by simp⟩
        · simp [size_zeroCells, hzk]
        · have h0 := (hw.drop.same (w' := w.drew) rfl rfl rfl).alloc (.cells (ys.toArray ++ Builtin.zeroCells z.cells (grownCap w c 0 e - c)) e)
          have e1 : (cl (ys ++ (Builtin.zeroCells z.cells (grownCap w c 0 e - c)).toList) e) = .cells (ys.toArray ++ Builtin.zeroCells z.cells (grownCap w c 0 e - c)) e (0, 0) := by
            unfold cl; congr 1; apply Array.ext'; simp
          rw [e1]; exact h0
  · rcases hsl with ⟨c', rfl, rfl, rfl⟩ | ⟨a, c', rfl, hrd, hyl⟩
    · refine ⟨.slice (some ⟨b, 0, none⟩) m cap, _, w, ?_, .inr ⟨b, cap, rest, by simp, rfl, by simpa using hxl, by simpa using hrl, by simpa using hmc, hcm⟩, by simpa using hw, by simp, by simp⟩
      have hmc' : m + 0 ≤ cap := by omega
      simp [Builtin.append_, run_underlying ht, sizeOf, typeInfo, hi, Builtin.lenOf, Builtin.firstCells, hmc, storeCells]
    · by_cases hroom : m + c ≤ cap
      · have hfnd : w.heap[b]? = some (.cells (xs ++ rest).toArray e (0, 0)) := (Fnd.here : Fnd ([(b, cl (xs ++ rest) e)] :: L0) b _).get hw
        have hlen : m * i.size + ys.length ≤ (xs ++ rest).toArray.size := by
          simp only [List.size_toArray, List.length_append, hxl, hrl, hyl, ← Nat.add_mul]
          exact Nat.mul_le_mul_right _ (by omega)
        have hr := run_append_room (P := P) w t ty e i ht hi b m cap _ hfnd a c c' ys hyl (hrd.cells hw) (ones_mem h1) hroom hlen
        have hx1 : ((xs ++ rest).toArray.toList.take (m * i.size) ++ ys ++ (xs ++ rest).toArray.toList.drop (m * i.size + ys.length)) = (xs ++ ys) ++ rest.drop ys.length := by
          simp only [List.toList_toArray]
          rw [← hxl, List.take_left]
          congr 1
          rw [List.drop_append]
          simp
        refine ⟨_, [(b, cl ((xs ++ ys) ++ rest.drop ys.length) e)], _, hr, .inr ⟨b, cap, rest.drop ys.length, rfl, rfl, ?_, ?_, hroom, hcm⟩, ?_, by simp, by simp⟩
        · rw [List.length_append, hxl, hyl, Nat.add_mul]
        · rw [List.length_drop, hrl, hyl, ← Nat.sub_mul]; congr 1; omega
        · rw [hx1]
          exact hw.row .here
      · have hrd0 : RdAt ([(b, cl (xs ++ rest) e)] :: L0) ⟨b, 0, none⟩ xs := RdAt.cl' .here (by simp [cut])
        have hr := run_append_grow (P := P) w t ty e i z ht hi hzz ⟨b, 0, none⟩ m cap xs hxl (hrd0.cells hw) a c c' ys hyl (hrd.cells hw) (by omega) (by omega) (growslice_fits (by omega) hb)
        refine ⟨_, [(w.heap.size, cl ((xs ++ ys) ++ (Builtin.zeroCells z.cells (grownCap w (m + c) cap e - (m + c))).toList) e)], _, hr, .inr ⟨w.heap.size, _, _, rfl, rfl, ?_, ?_, grownCap_ge w (m + c) cap e, grownCap_le_maxLen w (m + c) cap e h63⟩, ?_, by simp, by simp⟩
        · rw [List.length_append, hxl, hyl, Nat.add_mul]
        · simp [size_zeroCells, hzk]
        · have h0 := (hw.drop.same (w' := w.drew) rfl rfl rfl).alloc (.cells (xs.toArray ++ ys.toArray ++ Builtin.zeroCells z.cells (grownCap w (m + c) cap e - (m + c))) e)
          have e1 : (cl ((xs ++ ys) ++ (Builtin.zeroCells z.cells (grownCap w (m + c) cap e - (m + c))).toList) e) = .cells (xs.toArray ++ ys.toArray ++ Builtin.zeroCells z.cells (grownCap w (m + c) cap e - (m + c))) e (0, 0) := by
            unfold cl; congr 1; apply Array.ext'; simp
          rw [e1]; exact h0

theorem Fnd.perm {L L' : List Chunk} {b : Nat} {o : Obj} (h : Fnd L b o) (hp : L.Perm L') : Fnd L' b o := hp.flatten.mem_iff.1 h
theorem RdAt.perm {L L' : List Chunk} {a : Addr} {vs : List Value} (h : RdAt L a vs) (hp : L.Perm L') : RdAt L' a vs := by
  rcases h with h | ⟨b, off, c, T, fr, h1, h2, h3⟩
  · exact .inl h
  · exact .inr ⟨b, off, c, T, fr, h1, h2.perm hp, h3⟩
theorem Sl.perm {L L' : List Chunk} {k m : Nat} {v : Value} {xs : List Value} (h : Sl L k v m xs) (hp : L.Perm L') : Sl L' k v m xs := by
  rcases h with h | ⟨a, cap, h1, h2, h3⟩
  · exact .inl h
  · exact .inr ⟨a, cap, h1, h2.perm hp, h3⟩

theorem OW_append {t e k by_ : Nat} [hs : SL P t e k by_] {z : Value} [hz : ZV P e z] {v r : Value} {m c : Nat} {xs ys : List Value} {C : Chunk} {A B : List Chunk} (hx : ev M x = some v) (hy : ev M y = some r) (hown : Ow e k v m xs C)
    (hsl : Sl L k r c ys) (hzip : Zip C L A B) (hzk : z.cells.size = k) (h1 : ones ys = true) (hb : (m + c) * by_ ≤ 140737488355328) (h63 : m + c ≤ maxLen)
    (hn : Nat.blt d n = true) (h : ∀ v' C', Ow e k v' (m + c) (xs ++ ys) C' → (v = .slice none 0 0 → c = 0 → v' = .slice none 0 0) → (v' = .slice none 0 0 → v = .slice none 0 0) → K ((d, v') :: M) (A ++ C' :: B)) :
    OW P n ⟨some d, .call ⟨.builtin .append, #[x, y], #[t, t]⟩, ty, ps, af, g⟩ K M L := ⟨fun a w next Q ha hw hk => by
  have hL := hzip.eq
  subst hL
  obtain ⟨v', C', w', hr, ho, hw', hn1, hn2⟩ := run_append_own' (P := P) (ty := ty) hs hz hzk hown (hsl.perm List.perm_middle) h1 hb h63 (hw.perm List.perm_middle)
  unfold Oper.wp
  have hrun : (execOp a.eval ⟨some d, .call ⟨.builtin .append, #[x, y], #[t, t]⟩, ty, ps, af, g⟩).run P w = .ok (.value v') w' := by
    simp only [execOp, resolve, invoke, builtin, Sem.run_bind, Sem.run_pure, Result.andThen_ok, List.map_toArray, List.map_cons, List.map_nil, ha.eval hx, ha.eval hy, hr]
  rw [hrun, Oper.upon_value]
  exact (hk _ _ (h v' C' ho hn1 hn2)).out _ _ (ha.put v' hn) (hw'.perm List.perm_middle.symm)⟩

/-- What is written into a block of the call's own by copy. -/
theorem OW_copy {t e k by_ : Nat} [hs : SL P t e k by_] {b off dl dc sl : Nat} {r : Value} {l zs : List Value} {T : TypeId} {L' : List Chunk} (hx : ev M x = some (.slice (some ⟨b, off, none⟩) dl dc)) (hy : ev M y = some r)
    (hsl : Sl L k r sl zs) (h1 : ones (zs.take (min sl dl * k)) = true) (hu : Upd L b (cl l T) (cl (patch l off (zs.take (min sl dl * k))) T) L') (hfit : off + min sl dl * k ≤ l.length)
    (hn : Nat.blt d n = true) (h : K ((d, .int .i64 ((min sl dl : Nat) : Int)) :: M) L') :
    OW P n ⟨some d, .call ⟨.builtin .copy, #[x, y], #[t, t]⟩, ty, ps, af, g⟩ K M L := ⟨fun a w next Q ha hw hk => by
  obtain ⟨ht, i, hi, hik, hib, hk0⟩ := hs.parts
  have hmin : sl.min dl = min sl dl := rfl
  rcases hsl with ⟨c', rfl, rfl, rfl⟩ | ⟨a', c', rfl, hrd, hyl⟩
  · have hL' : patch l off (List.take (min 0 dl * k) []) = l := by simp [patch]
    have hrun : (execOp a.eval ⟨some d, .call ⟨.builtin .copy, #[x, y], #[t, t]⟩, ty, ps, af, g⟩).run P w = .ok (.value (.int .i64 ((min 0 dl : Nat) : Int))) (w.setRow b (patch l off (List.take (min 0 dl * k) [])).toArray) := by
      have hst := storeCells_run (P := P) (vs := List.take (min 0 dl * k) []) hw hu (by simp; have := hfit; omega) (by simp [ones])
      simp only [execOp, resolve, invoke, builtin, Sem.run_bind, Sem.run_pure, Result.andThen_ok, List.map_toArray, List.map_cons, List.map_nil, ha.eval hx, ha.eval hy]
      simp at hst
      simp [Builtin.copy_, run_underlying ht, Builtin.lenOf, Builtin.firstCells, sizeOf, typeInfo, hi, hst, goInt, hmin]
    unfold Oper.wp
    rw [hrun, Oper.upon_value]
    exact (hk _ _ h).out _ _ (ha.put _ hn) (hw.row hu)
  · have hlen : (zs.take (min sl dl * k)).length = min sl dl * k := by
      rw [List.length_take, hyl]
      exact Nat.min_eq_left (Nat.mul_le_mul_right _ (Nat.min_le_left _ _))
    have hcells : ∀ j u, (zs.take (min sl dl * k))[j]? = some u → w.cell? (a'.add j) = some u := fun j u hj => by
      refine hrd.cells hw j u ?_
      rw [List.getElem?_take] at hj
      split at hj
      · exact hj
      · simp at hj
    have hl2 := run_loadCells_list (P := P) w a' _ hcells
    rw [hlen] at hl2
    have hst := storeCells_run (P := P) hw hu (by rw [hlen]; exact hfit) h1
    have hrun : (execOp a.eval ⟨some d, .call ⟨.builtin .copy, #[x, y], #[t, t]⟩, ty, ps, af, g⟩).run P w = .ok (.value (.int .i64 ((min sl dl : Nat) : Int))) (w.setRow b (patch l off (zs.take (min sl dl * k))).toArray) := by
      simp only [execOp, resolve, invoke, builtin, Sem.run_bind, Sem.run_pure, Result.andThen_ok, List.map_toArray, List.map_cons, List.map_nil, ha.eval hx, ha.eval hy]
      simp [Builtin.copy_, run_underlying ht, Builtin.lenOf, Builtin.firstCells, sizeOf, typeInfo, hi, hik, hl2, hst, goInt, hmin]
    unfold Oper.wp
    rw [hrun, Oper.upon_value]
    exact (hk _ _ h).out _ _ (ha.put _ hn) (hw.row hu)⟩

/- loops -/
/-- A loop: what is known at its head, for a state of a type of one's own. -/
theorem WC_loop {X : Type} {c : Code} (MI : X → List (Nat × Value)) (LI : X → List Chunk) (J : X → Prop) (μ : X → Nat) (x0 : X) (hJ : J x0) (hM : Sub (MI x0) M) (hL : ∀ w, Holds w L → Holds w (LI x0))
    (hround : ∀ x, J x → WC P n c (Exit.then (fun a' w' => ∃ x', μ x' < μ x ∧ J x' ∧ St n (MI x') a' ∧ Holds w' (LI x')) Q) (MI x) (LI x)) : WC P n (.loop c) Q M L := ⟨fun a w ha hw => by
  intro b k cs
  have key : ∀ m x, μ x = m → J x → ∀ a w, St n (MI x) a → Holds w (LI x) →
      ∃ e a' w', Q e a' w' ∧ Arrives P (lone (b.at a (.code c :: .inLoop c :: k)) cs w) b k cs e a' w' := by
    intro m
    induction m using Nat.strongRecOn with
    | _ m ih =>
      intro x hm hx a w ha hw
      obtain ⟨e, a₁, w₁, hq, harr⟩ := (hround x hx).out a w ha hw b (.inLoop c :: k) cs
      subst hm
      cases e with
      | normal =>
        obtain ⟨x', hlt, hJ', ha', hw'⟩ := hq
        obtain ⟨e₂, a₂, w₂, hq₂, harr₂⟩ := ih (μ x') hlt x' rfl hJ' a₁ w₁ ha' hw'
        exact ⟨e₂, a₂, w₂, hq₂, .of_steps (Steps.trans harr (.one step_inLoop)) harr₂⟩
      | exit id => exact ⟨_, a₁, w₁, hq, .pass (x := .inLoop c) rfl (fun _ _ => .inl (by simp)) harr⟩
      | goto l => exact ⟨_, a₁, w₁, hq, .pass (x := .inLoop c) rfl (fun _ _ => .inl (by simp)) harr⟩
      | ret => exact ⟨_, a₁, w₁, hq, .pass (x := .inLoop c) rfl (fun _ _ => .inl (by simp)) harr⟩
      | panic ch => exact ⟨_, a₁, w₁, hq, .pass (x := .inLoop c) rfl (fun _ _ => .inl (by simp)) harr⟩
      | outgrown => exact ⟨_, a₁, w₁, hq, .pass (x := .inLoop c) rfl (fun _ _ => .inl (by simp)) harr⟩
  obtain ⟨e, a', w', hq, harr⟩ := key _ x0 rfl hJ a w (ha.sub hM) (hL w hw)
  exact ⟨e, a', w', hq, .of_steps (.one step_loop) harr⟩⟩
/-- A round's end. -/
theorem WQ_round {X : Type} {MI : X → List (Nat × Value)} {LI : X → List Chunk} {J : X → Prop} {μ : X → Nat} {x : X} (x' : X) (hlt : μ x' < μ x) (hJ : J x') (hM : Sub (MI x') M) (hL : ∀ w, Holds w L → Holds w (LI x')) :
    WQ n (fun a' w' => ∃ x', μ x' < μ x ∧ J x' ∧ St n (MI x') a' ∧ Holds w' (LI x')) M L := ⟨fun _ w ha hw => ⟨x', hlt, hJ, ha.sub hM, hL w hw⟩⟩
end
end Go.Vx
