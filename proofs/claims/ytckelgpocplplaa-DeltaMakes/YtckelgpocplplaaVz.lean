/- The layer's further operations: structs put together, new rows, slices of three, copy out of a string, calls of what the model answers itself. It proves no statement by itself. No conditions. -/
import Derived.Test.YtckelgpocplplaaVr
import Derived.Lib.Bytealg
import Derived.Lib.Overlaps
import Derived.Lib.UnsafeStr
namespace Go.Vx
open Go
set_option linter.all false
variable [W0]

omit [W0] in
/-- Where a type's parts lie. -/
def plcs (P : Program) (t : Nat) : Option (List (Nat × Nat)) := match P.underlying t with
  | some (.struct fs) => fs.toList.mapM fun f => (P.info? f.type).map fun i => (f.offset, i.size)
  | _ => none
omit [W0] in
class BL (P : Program) (t : Nat) (pl : outParam (List (Nat × Nat))) : Prop where out : plcs P t = some pl
omit [W0] in
class PT (P : Program) (t : Nat) : Prop where out : ∃ e, P.underlying t = some (.pointer e)
omit [W0] in
class BB (P : Program) (t : Nat) : Prop where out : P.underlying t = some .bool

omit [W0] in
def fillL (pl : List (Nat × Nat)) : List Value → List (Nat × Value) → Option (List Value)
  | cells, [] => some cells
  | cells, (i, v) :: r => match pl[i]? with
    | none => none
    | some (off, size) => if v.cells.size = size ∧ off + size ≤ cells.length then fillL pl (patch cells off v.cells.toList) r else none

theorem foldl_set (vs : List Value) : ∀ (off j : Nat) (cs : Array Value), off + j + vs.length ≤ cs.size →
    (vs.zipIdx j).foldl (fun cs (x : Value × Nat) => cs.setIfInBounds (off + x.2) x.1) cs = (patch cs.toList (off + j) vs).toArray := by
  induction vs with
  | nil => intro off j cs _; simp [patch]
  | cons v r ih =>
    intro off j cs h
    simp only [List.length_cons] at h
    simp only [List.zipIdx_cons, List.foldl_cons]
    rw [ih off (j + 1) _ (by simp; omega)]
    apply Array.ext'
    have e := list_seg_step cs.toList (off + j) v r (by simp; omega)
    simpa [patch, Array.toList_setIfInBounds, Nat.add_assoc] using e

theorem fill_eq (pl : List (Nat × Nat)) : ∀ (parts : List (Nat × Value)) (cells : List Value) (cs : List Value), fillL pl cells parts = some cs → Instr.fill (pl.toArray[·]?) cells.toArray parts = some cs.toArray := by
  intro parts
  induction parts with
  | nil => intro cells cs h; simp [fillL] at h; subst h; simp [Instr.fill]
  | cons p r ih =>
    intro cells cs h
    obtain ⟨i, v⟩ := p
    unfold fillL at h
    cases hp : pl[i]? with
    | none => simp [hp] at h
    | some q =>
      obtain ⟨off, size⟩ := q
      simp only [hp] at h
      split at h
      · rename_i hc
        unfold Instr.fill
        simp only [List.getElem?_toArray, hp]
        rw [if_neg (by simp; omega)]
        have e : v.cells.zipIdx.foldl (fun cs (x : Value × Nat) => cs.setIfInBounds (off + x.2) x.1) cells.toArray = (patch cells off v.cells.toList).toArray := by
          have := foldl_set v.cells.toList off 0 cells.toArray (by simp; omega)
          rw [← Array.foldl_toList]
          simpa [Array.toList_zipIdx] using this
        have := ih _ cs h
        rw [← e] at this
        simpa using this
      · simp at h

omit [W0] in
/-- The parts' values. -/
def evp (M : List (Nat × Value)) : List (Nat × Operand) → Option (List (Nat × Value))
  | [] => some []
  | (i, x) :: r => match ev M x, evp M r with
    | some v, some vs => some ((i, v) :: vs)
    | _, _ => none
theorem St.evalp {n : Nat} {M : List (Nat × Value)} {a : Act} (h : St n M a) : ∀ {xs : List (Nat × Operand)} {vs : List (Nat × Value)}, evp M xs = some vs → xs.map (fun x => (x.1, a.eval x.2)) = vs
  | [], vs, he => by simp [evp] at he; subst he; rfl
  | (i, x) :: r, vs, he => by
    unfold evp at he
    split at he
    · rename_i v vs' h1 h2
      simp at he; subst he
      simp [h.eval h1, St.evalp h h2]
    · simp at he

section
variable {P : Program} {n : Nat} {Q : Exit → Act → World → Prop} {M : List (Nat × Value)} {L : List Chunk} {K : List (Nat × Value) → List Chunk → Prop}
variable {d : Nat} {ty : TypeId} {ps : String} {af : Array Edge} {g : Option (Nat × Bool)} {x y : Operand} {v : Value}

theorem mapM_places {fs : List Field} {pl : List (Nat × Nat)} (h : fs.mapM (fun f => (P.info? f.type).map fun i => (f.offset, i.size)) = some pl) (w : World) :
    (fs.mapM (m := Sem) fun f => do pure (f.offset, ← sizeOf f.type)).run P w = .ok pl w := by
  induction fs generalizing pl with
  | nil => simp at h; subst h; rfl
  | cons f r ih =>
    simp only [List.mapM_cons] at h
    cases hi : P.info? f.type with
    | none => simp [hi] at h
    | some i =>
      simp only [hi, Option.map_some, Option.pure_def, Option.bind_eq_bind, Option.bind_some] at h
      cases hr : r.mapM (fun f => (P.info? f.type).map fun i => (f.offset, i.size)) with
      | none => simp [hr] at h
      | some pl' =>
        simp [hr] at h
        subst h
        have h2 := ih hr
        have h3 := sizeOf_run (P := P) (t := f.type) (k := i.size) (by rw [hi]; rfl) w
        simp only [List.mapM_cons, Sem.run_bind, h3, Result.andThen_ok, Sem.run_pure, h2]

theorem EV_build {t : Nat} {pl : List (Nat × Nat)} {z : Value} [hb : BL P t pl] [hz : ZV P t z] {parts : List (Nat × Operand)} {pvs : List (Nat × Value)} {cs : List Value} (hp : evp M parts = some pvs)
    (hf : fillL pl z.cells.toList pvs = some cs) : EV P n ⟨some d, .build t parts.toArray, ty, ps, af, g⟩ M L d (.agg cs.toArray) :=
  ⟨rfl, fun a w ha _ => by
    have h1 := hb.out
    unfold plcs at h1
    split at h1
    · rename_i fs hu
      have hm := mapM_places (P := P) h1 w
      have hfill := fill_eq pl pvs z.cells.toList cs hf
      rw [Array.toArray_toList] at hfill
      simp only [List.getElem?_toArray] at hfill
      have hpe := ha.evalp hp
      simp only [execOp, Instr.build, Sem.run_bind, zero_run hz.out, run_underlying hu, Result.andThen_ok]
      rw [← Array.toArray_toList (xs := fs)]
      simp only [List.mapM_toArray, Sem.run_map, hm, Result.andThen_ok]
      simp [hpe, hfill]
    · simp at h1⟩

theorem run_equal_slice {T e : Nat} (hu : P.underlying T = some (.slice e)) (b : Option Addr) (len cap : Nat) (w : World) : (Op.equal T (.slice b len cap) (.slice none 0 0)).run P w = .ok b.isNone w := by
  unfold Op.equal
  rw [show Op.maxDepth = 9999 + 1 from rfl]
  unfold Op.equalIn
  cases b <;> simp [run_underlying hu]
theorem run_equal_ptr {T e : Nat} (hu : P.underlying T = some (.pointer e)) (b : Option Addr) (w : World) : (Op.equal T (.pointer b) (.pointer none)).run P w = .ok b.isNone w := by
  unfold Op.equal
  rw [show Op.maxDepth = 9999 + 1 from rfl]
  unfold Op.equalIn
  cases b <;> simp [run_underlying hu]
theorem run_equal_bool {T : Nat} (hu : P.underlying T = some .bool) (b c : Bool) (w : World) : (Op.equal T (.bool b) (.bool c)).run P w = .ok (b == c) w := by
  unfold Op.equal
  rw [show Op.maxDepth = 9999 + 1 from rfl]
  unfold Op.equalIn
  simp [run_underlying hu]
theorem EV_sliceEqNil {T e k by_ : Nat} [hs : SL P T e k by_] {b : Option Addr} {len cap : Nat} {u : TypeId} (hx : ev M x = some (.slice b len cap)) (hy : ev M y = some (.slice none 0 0)) :
    EV P n ⟨some d, .binOp .eql T x y u, ty, ps, af, g⟩ M L d (.bool b.isNone) :=
  ⟨rfl, fun a w ha _ => by
    obtain ⟨hu, _⟩ := hs.parts
    simp [execOp, ha.eval hx, ha.eval hy, eqGuard, binOp, run_equal_slice hu]⟩
theorem EV_sliceNeNil {T e k by_ : Nat} [hs : SL P T e k by_] {b : Option Addr} {len cap : Nat} {u : TypeId} (hx : ev M x = some (.slice b len cap)) (hy : ev M y = some (.slice none 0 0)) :
    EV P n ⟨some d, .binOp .neq T x y u, ty, ps, af, g⟩ M L d (.bool (!b.isNone)) :=
  ⟨rfl, fun a w ha _ => by
    obtain ⟨hu, _⟩ := hs.parts
    simp [execOp, ha.eval hx, ha.eval hy, eqGuard, binOp, run_equal_slice hu]⟩
theorem EV_ptrEqNil {T : Nat} [hs : PT P T] {b : Option Addr} {u : TypeId} (hx : ev M x = some (.pointer b)) (hy : ev M y = some (.pointer none)) :
    EV P n ⟨some d, .binOp .eql T x y u, ty, ps, af, g⟩ M L d (.bool b.isNone) :=
  ⟨rfl, fun a w ha _ => by
    obtain ⟨e, hu⟩ := hs.out
    simp [execOp, ha.eval hx, ha.eval hy, eqGuard, binOp, run_equal_ptr hu]⟩
theorem EV_ptrNeNil {T : Nat} [hs : PT P T] {b : Option Addr} {u : TypeId} (hx : ev M x = some (.pointer b)) (hy : ev M y = some (.pointer none)) :
    EV P n ⟨some d, .binOp .neq T x y u, ty, ps, af, g⟩ M L d (.bool (!b.isNone)) :=
  ⟨rfl, fun a w ha _ => by
    obtain ⟨e, hu⟩ := hs.out
    simp [execOp, ha.eval hx, ha.eval hy, eqGuard, binOp, run_equal_ptr hu]⟩
theorem EV_boolEq {t : Nat} {u : TypeId} {b c : Bool} [hb : BB P t] (hx : ev M x = some (.bool b)) (hy : ev M y = some (.bool c)) :
    EV P n ⟨some d, .binOp .eql t x y u, ty, ps, af, g⟩ M L d (.bool (b == c)) :=
  ⟨rfl, fun a w ha _ => by
    simp [execOp, ha.eval hx, ha.eval hy, eqGuard, binOp, run_equal_bool hb.out]⟩
theorem EV_boolNe {t : Nat} {u : TypeId} {b c : Bool} [hb : BB P t] (hx : ev M x = some (.bool b)) (hy : ev M y = some (.bool c)) :
    EV P n ⟨some d, .binOp .neq t x y u, ty, ps, af, g⟩ M L d (.bool (b != c)) :=
  ⟨rfl, fun a w ha _ => by
    simp [execOp, ha.eval hx, ha.eval hy, eqGuard, binOp, run_equal_bool hb.out, bne]⟩

/-- s[l:h:m] -/
theorem EV_slice3 {T e k by_ : Nat} [hs : SL P T e k by_] {b off len cap : Nat} {lo hi mx : Operand} {l h m : Nat} {k1 k2 k3 : IntKind} (hx : ev M x = some (.slice (some ⟨b, off, none⟩) len cap)) (hl : ev M lo = some (.int k1 (l : Int))) (hh : ev M hi = some (.int k2 (h : Int))) (hm : ev M mx = some (.int k3 (m : Int)))
    (h1 : l ≤ h) (h2 : h ≤ m) (h3 : m ≤ cap) : EV P n ⟨some d, .slice T x (some lo) (some hi) (some mx), ty, ps, af, g⟩ M L d (.slice (some ⟨b, if m = l then off else off + l * k, none⟩) (h - l) (m - l)) :=
  ⟨rfl, fun a w ha _ => by
    obtain ⟨hu, i', hi', hk', _, hk0⟩ := hs.parts
    simp [execOp, ha.eval hx, Instr.sliceAt, Instr.slice, run_underlying hu, Instr.sliceBounds, Instr.sliceBound, ha.eval hl, ha.eval hh, ha.eval hm, asIntOf, h1, h2, h3, sizeOf, typeInfo, hi', hk', addr_add]
    split <;> simp_all⟩

omit [W0] in
/-- A new row of zeroes. -/
def zeros (zc : List Value) : Nat → List Value
  | 0 => []
  | n + 1 => zc ++ zeros zc n
theorem zeros_length (zc : List Value) : ∀ n, (zeros zc n).length = n * zc.length
  | 0 => by simp [zeros]
  | n + 1 => by simp [zeros, zeros_length zc n, Nat.add_mul, Nat.add_comm]
theorem zeros_get (zc : List Value) : ∀ (n i : Nat), i < n * zc.length → (zeros zc n)[i]? = zc[i % zc.length]?
  | 0, i, h => by simp at h
  | n + 1, i, h => by
    have hp : 0 < zc.length := by
      rcases Nat.eq_zero_or_pos zc.length with h0 | h0
      · rw [h0] at h; simp at h
      · exact h0
    rw [Nat.add_mul, Nat.one_mul] at h
    unfold zeros
    by_cases hi : i < zc.length
    · rw [List.getElem?_append_left hi, Nat.mod_eq_of_lt hi]
    · rw [List.getElem?_append_right (by omega), zeros_get zc n (i - zc.length) (by omega)]
      congr 1
      exact (Nat.mod_eq_sub_mod (Nat.le_of_not_lt hi)).symm
theorem zeros_range {z : Array Value} {m : Nat} : ((Array.range (m * z.size)).map (fun i => z[i % z.size]!)) = (zeros z.toList m).toArray := by
  apply Array.ext'
  apply List.ext_getElem?
  intro i
  by_cases h : i < m * z.size
  · have hz : 0 < z.size := by
      rcases Nat.eq_zero_or_pos z.size with h0 | h0
      · rw [h0] at h; simp at h
      · exact h0
    have hm : i % z.size < z.size := Nat.mod_lt _ hz
    rw [zeros_get _ _ _ (by simpa using h)]
    simp [h, hm]
  · rw [List.getElem?_eq_none (by simp; omega), List.getElem?_eq_none (by rw [zeros_length]; simp; omega)]

theorem zeroCells_eq {z : Array Value} {m : Nat} : Builtin.zeroCells z m = (zeros z.toList m).toArray := zeros_range
theorem OW_newval' {o : Oper} {ob : Obj} {f : Nat → Value} (hd : o.dst = some d) (hn : Nat.blt d n = true)
    (hr : ∀ a w, St n M a → Holds w L → ∃ w' : World, (execOp a.eval o).run P w = .ok (.value (f w.heap.size)) (w'.alloc ob) ∧ w'.heap = w.heap ∧ w'.os = w.os ∧ w'.output = w.output) (h : ∀ b, K ((d, f b) :: M) ([(b, ob)] :: L)) : OW P n o K M L := ⟨fun a w next Q ha hw hk => by
  obtain ⟨w', hr, he, ho, hq⟩ := hr a w ha hw
  unfold Oper.wp
  rw [hr, Oper.upon_value, hd]
  have := (hw.same he ho hq).alloc ob
  rw [he] at this
  exact (hk _ _ (h w.heap.size)).out _ _ (ha.put _ hn) this⟩

theorem OW_makeSlice {t e k by_ : Nat} {z : Value} [hs : SL P t e k by_] [hz : ZV P e z] {m c : Nat} {k1 k2 : IntKind} (hx : ev M x = some (.int k1 (m : Int))) (hy : ev M y = some (.int k2 (c : Int))) (hzk : z.cells.size = k)
    (hmc : m ≤ c) (hc : c ≤ 9223372036854775807) (hb : c * by_ ≤ 281474976710656) (hn : Nat.blt d n = true)
    (h : ∀ b, K ((d, .slice (some ⟨b, 0, none⟩) m c) :: M) ([(b, cl (zeros z.cells.toList c) e)] :: L)) : OW P n ⟨some d, .makeSlice t x y, ty, ps, af, g⟩ K M L :=
  OW_newval (f := fun b => .slice (some ⟨b, 0, none⟩) m c) rfl hn (fun a w ha hw => by
    obtain ⟨hu, i, hi, hik, hib, hk0⟩ := hs.parts
    have hzz : i.zero = some z := by have := hz.out; rw [hi] at this; simpa using this
    subst hik hib
    have hr := run_make (P := P) w t e i z hu hi hzz k1 k2 m c (by omega) (by omega) (by
      rw [← Int.natCast_mul, Nat.mul_comm]; exact Int.ofNat_le.2 hb) (by omega)
    have hz2 := zeros_range (z := z.cells) (m := c)
    rw [hzk] at hz2
    simp only [execOp, ha.eval hx, ha.eval hy, Sem.run_bind, hr, Result.andThen_ok, Sem.run_pure, Int.toNat_natCast]
    unfold madeCells cl
    rw [hzk, hz2]) h

/-- A slice literal. -/
theorem OW_buildSlice {t e k by_ len : Nat} {z : Value} [hs : SL P t e k by_] [hz : ZV P e z] {parts : List (Nat × Operand)} {pvs : List (Nat × Value)} {cs : List Value} (hp : evp M parts = some pvs) (hzk : z.cells.size = k)
    (hf : fillL ((List.range len).map fun i => (i * k, k)) (zeros z.cells.toList len) pvs = some cs) (hlen : len * k ≤ 16777216) (hpl : pvs.all (fun x => Nat.blt x.1 len) = true) (hn : Nat.blt d n = true)
    (h : ∀ b, K ((d, .slice (some ⟨b, 0, none⟩) len len) :: M) ([(b, cl cs e)] :: L)) : OW P n ⟨some d, .buildSlice t len parts.toArray, ty, ps, af, g⟩ K M L :=
  OW_newval (f := fun b => .slice (some ⟨b, 0, none⟩) len len) rfl hn (fun a w ha hw => by
    obtain ⟨hu, i, hi, hik, hib, hk0⟩ := hs.parts
    subst hik
    have hpe := ha.evalp hp
    have hz2 := zeros_range (z := z.cells) (m := len)
    rw [hzk] at hz2
    have hfill := fill_eq _ pvs _ cs hf
    have hfill2 : Instr.fill (fun j => some (j * i.size, i.size)) (zeros z.cells.toList len).toArray pvs = some cs.toArray := by
      have key : ∀ (ps : List (Nat × Value)) (c : Array Value), ps.all (fun x => Nat.blt x.1 len) = true → Instr.fill (((List.range len).map fun j => (j * i.size, i.size)).toArray[·]?) c ps = Instr.fill (fun j => some (j * i.size, i.size)) c ps := by
        intro ps
        induction ps with
        | nil => intro c _; simp [Instr.fill]
        | cons p r ih =>
          intro c hall
          obtain ⟨j, v⟩ := p
          simp only [List.all_cons, Bool.and_eq_true, Nat.blt_eq] at hall
          unfold Instr.fill
          simp only [List.getElem?_toArray, List.getElem?_map, List.getElem?_range hall.1, Option.map_some]
          split
          · rfl
          · have := ih (v.cells.zipIdx.foldl (fun cs (x : Value × Nat) => cs.setIfInBounds (j * i.size + x.2) x.1) c) hall.2
            simp only [List.getElem?_toArray, List.getElem?_map] at this
            exact this
      rw [← key pvs _ hpl]; exact hfill
    have hle : ¬ (16777216 < len * i.size) := by omega
    by_cases h0 : len * i.size = 0
    · have hl0 : len = 0 := by
        rcases Nat.mul_eq_zero.1 h0 with h | h
        · exact h
        · omega
      subst hl0
      simp [zeros] at hfill2
      have e0 : ∀ f : Nat → Value, Array.map f (Array.range 0) = #[] := fun f => by apply Array.ext'; simp
      simp [execOp, Instr.buildSlice, run_underlying hu, sizeOf, typeInfo, hi, hpe, newRow, e0, hfill2, cl]
    · simp only [execOp, Instr.buildSlice, Sem.run_bind, run_underlying hu, Result.andThen_ok]
      have hsz : (sizeOf e).run P w = .ok i.size w := sizeOf_run (by rw [hi]; rfl) w
      simp [hsz, h0, zero_run hz.out, hpe, hzk, hle]
      rw [hz2]
      simp [hfill2, newRow, cl]) h

omit [W0] in
/-- A string's bytes as cells. -/
def bsv (l : List UInt8) : List Value := l.map fun b => .int .u8 (b.toNat : Int)
theorem bsv_length {l : List UInt8} : (bsv l).length = l.length := by simp [bsv]
theorem bsv_ones {l : List UInt8} : ones (bsv l) = true := by simp [ones, bsv, Value.oneCell']
theorem bsv_append {a b : List UInt8} : bsv (a ++ b) = bsv a ++ bsv b := by simp [bsv]

theorem firstCells_str {size m : Nat} {s : ByteArray} (w : World) (hm : m = s.size) : (Builtin.firstCells size m (.string s)).run P w = .ok (bsv s.data.toList).toArray w := by
  subst hm
  simp only [Builtin.firstCells, Sem.run_pure]
  congr 1
  apply Array.ext'
  have : s.extract 0 s.size = s := by simp
  rw [this]
  simp [bsv]

theorem OW_copyStr {t u e by_ : Nat} [hs : SL P t e 1 by_] {b off dl dc : Nat} {s : ByteArray} {l : List Value} {T : TypeId} {L' : List Chunk} (hx : ev M x = some (.slice (some ⟨b, off, none⟩) dl dc)) (hy : ev M y = some (.string s))
    (hdl : dl = s.size) (hu : Upd L b (cl l T) (cl (patch l off (bsv s.data.toList)) T) L') (hfit : off + s.size ≤ l.length)
    (hn : Nat.blt d n = true) (h : K ((d, .int .i64 (s.size : Int)) :: M) L') :
    OW P n ⟨some d, .call ⟨.builtin .copy, #[x, y], #[t, u]⟩, ty, ps, af, g⟩ K M L := ⟨fun a w next Q ha hw hk => by
  obtain ⟨ht, i, hi, hik, hib, hk0⟩ := hs.parts
  subst hdl
  have hsz : (bsv s.data.toList).length = s.size := by rw [bsv_length]; rfl
  have hst := storeCells_run (P := P) hw hu (by rw [hsz]; exact hfit) bsv_ones
  have hfc := firstCells_str (P := P) (size := i.size) (s := s) w rfl
  have hmin : s.size.min s.size = s.size := Nat.min_self _
  have hrun : (execOp a.eval ⟨some d, .call ⟨.builtin .copy, #[x, y], #[t, u]⟩, ty, ps, af, g⟩).run P w = .ok (.value (.int .i64 (s.size : Int))) (w.setRow b (patch l off (bsv s.data.toList)).toArray) := by
    simp only [execOp, resolve, invoke, builtin, Sem.run_bind, Sem.run_pure, Result.andThen_ok, List.map_toArray, List.map_cons, List.map_nil, ha.eval hx, ha.eval hy]
    have hsz2 : (sizeOf e).run P w = .ok i.size w := sizeOf_run (by rw [hi]; rfl) w
    simp [Builtin.copy_, run_underlying ht, Builtin.lenOf, hsz2, hmin, hfc, hst, goInt]
  unfold Oper.wp
  rw [hrun, Oper.upon_value]
  exact (hk _ _ h).out _ _ (ha.put _ hn) (hw.row hu)⟩

theorem freeze_at {w : World} {b off m : Nat} {c : Array Value} {T : TypeId} (hb : w.heap[b]? = some (.cells c T (0, 0))) (hm : m ≠ 0) :
    (w.freeze ⟨b, off, none⟩ m).heap[b]? = some (.cells c T (off, off + m)) ∧ ∀ e, e ≠ b → (w.freeze ⟨b, off, none⟩ m).heap[e]? = w.heap[e]? := by
  unfold World.freeze
  rw [if_neg hm]
  refine ⟨by simp [Array.getElem?_modify, hb], fun e he => ?_⟩
  simp only [Array.getElem?_modify]
  rw [if_neg (fun h => he h.symm)]

theorem freeze_os (w : World) (a : Addr) (m : Nat) : (w.freeze a m).os = w.os ∧ (w.freeze a m).output = w.output := by
  unfold World.freeze; split <;> exact ⟨rfl, rfl⟩

theorem OW_unsafeString {pt it e : Nat} {b : Nat} {l : List UInt8} {rest : List Value} {L' : List Chunk} {i : Int} (hp : P.underlying pt = some (.pointer e)) (hc : P.cellsOf e = 1) (hx : ev M x = some (.pointer (some ⟨b, 0, none⟩))) (hy : ev M y = some (.int .i64 i)) (hi : i = (l.length : Int))
    (h0 : l ≠ []) (h63 : l.length ≤ 9223372036854775807) (hu : Upd L b (cl (bsv l ++ rest) e) (.cells (bsv l ++ rest).toArray e (0, 0 + l.length)) L')
    (hn : Nat.blt d n = true) (h : K ((d, .string ⟨l.toArray⟩) :: M) L') :
    OW P n ⟨some d, .call ⟨.builtin .unsafeString, #[x, y], #[pt, it]⟩, ty, ps, af, g⟩ K M L := ⟨fun a w next Q ha hw hk => by
  subst hi
  have hb := hu.fnd.get hw
  have hl : l.length ≠ 0 := by simpa using h0
  have hr := Lib.run_unsafeString_row (P := P) (w := w) pt it ty e hp hc b (bsv l ++ rest).length (by simp [World.shape?, hb, cl]) l h0 (by simp [bsv]) h63 (fun j u hj => by
    rw [addr_add, cell_of hb]
    have hj' : j < l.length := by
      rcases Nat.lt_or_ge j l.length with h' | h'
      · exact h'
      · simp [List.getElem?_eq_none h'] at hj
    simp only [Nat.zero_add, List.getElem?_toArray]
    rw [List.getElem?_append_left (by simpa [bsv] using hj')]
    simp [bsv, hj])
  have hrun : (execOp a.eval ⟨some d, .call ⟨.builtin .unsafeString, #[x, y], #[pt, it]⟩, ty, ps, af, g⟩).run P w = .ok (.value (.string ⟨l.toArray⟩)) (w.freeze ⟨b, 0, none⟩ l.length) := by
    simp only [execOp, resolve, invoke, builtin, Sem.run_bind, Sem.run_pure, Result.andThen_ok, List.map_toArray, List.map_cons, List.map_nil, ha.eval hx, ha.eval hy, hr]
  unfold Oper.wp
  rw [hrun, Oper.upon_value]
  obtain ⟨f1, f2⟩ := freeze_at (off := 0) hb hl
  exact (hk _ _ h).out _ _ (ha.put _ hn) (hw.upd hu f1 f2 (freeze_os _ _ _).1 (freeze_os _ _ _).2)⟩

/-- clear of a slice in a block of the call's own. -/
theorem OW_clear {t e k by_ : Nat} {z : Value} [hs : SL P t e k by_] [hz : ZV P e z] {b off m c : Nat} {l : List Value} {T : TypeId} {L' : List Chunk} (hx : ev M x = some (.slice (some ⟨b, off, none⟩) m c)) (hzk : z.cells.size = k) (hone : ones z.cells.toList = true)
    (hu : Upd L b (cl l T) (cl (patch l off (zeros z.cells.toList m)) T) L') (hfit : off + m * k ≤ l.length) (h : K M L') :
    OW P n ⟨none, .call ⟨.builtin .clear, #[x], #[t]⟩, ty, ps, af, g⟩ K M L := ⟨fun a w next Q ha hw hk => by
  obtain ⟨ht, i, hi, hik, hib, hk0⟩ := hs.parts
  have hzl : (zeros z.cells.toList m).length = m * k := by rw [zeros_length]; simp [hzk]
  have hon : ones (zeros z.cells.toList m) = true := by
    have : ∀ q, ones (zeros z.cells.toList q) = true := by
      intro q
      induction q with
      | zero => simp [zeros, ones]
      | succ q ih => simp only [zeros, ones, List.all_append, Bool.and_eq_true] at *; exact ⟨hone, ih⟩
    exact this m
  have hst := storeCells_run (P := P) hw hu (by rw [hzl]; exact hfit) hon
  have hrun : ∃ w', (execOp a.eval ⟨none, .call ⟨.builtin .clear, #[x], #[t]⟩, ty, ps, af, g⟩).run P w = .ok (.value (.tuple #[])) w' ∧ Holds w' L' := by
    by_cases hm : m = 0
    · subst hm
      refine ⟨w, ?_, ?_⟩
      · simp only [execOp, resolve, invoke, builtin, Sem.run_bind, Sem.run_pure, Result.andThen_ok, List.map_toArray, List.map_cons, List.map_nil, ha.eval hx]
        simp [Builtin.clear_, run_underlying ht]
      · have := hw.row hu
        have e : patch l off (zeros z.cells.toList 0) = l := by simp [patch, zeros]
        rw [e] at this
        rwa [setRow_self w b l.toArray T (0, 0) (hu.fnd.get hw)] at this
    · refine ⟨_, ?_, hw.row hu⟩
      simp only [execOp, resolve, invoke, builtin, Sem.run_bind, Sem.run_pure, Result.andThen_ok, List.map_toArray, List.map_cons, List.map_nil, ha.eval hx]
      obtain ⟨m', rfl⟩ : ∃ m', m = m' + 1 := ⟨m - 1, by omega⟩
      simp [Builtin.clear_, run_underlying ht, zero_run hz.out, zeroCells_eq, hst]
  obtain ⟨w', hrun, hw'⟩ := hrun
  unfold Oper.wp
  rw [hrun, Oper.upon_value]
  exact (hk _ _ h).out _ _ ha hw'⟩

/-- append within the capacity, onto a block of the call's own from its beginning. -/
theorem OW_appendRoom {t e k by_ : Nat} [hs : SL P t e k by_] {b sl sc m : Nat} {r : Value} {l ys : List Value} {L' : List Chunk} (hx : ev M x = some (.slice (some ⟨b, 0, none⟩) sl sc)) (hy : ev M y = some r) (hsl : Sl L k r m ys) (h1 : ones ys = true)
    (hroom : sl + m ≤ sc) (hu : Upd L b (cl l e) (cl (patch l (sl * k) ys) e) L') (hfit : sl * k + ys.length ≤ l.length)
    (hn : Nat.blt d n = true) (h : K ((d, .slice (some ⟨b, 0, none⟩) (sl + m) sc) :: M) L') :
    OW P n ⟨some d, .call ⟨.builtin .append, #[x, y], #[t, t]⟩, ty, ps, af, g⟩ K M L := ⟨fun a w next Q ha hw hk => by
  obtain ⟨ht, i, hi, hik, hib, hk0⟩ := hs.parts
  subst hik
  have hb := hu.fnd.get hw
  have hrun : ∃ w', (execOp a.eval ⟨some d, .call ⟨.builtin .append, #[x, y], #[t, t]⟩, ty, ps, af, g⟩).run P w = .ok (.value (.slice (some ⟨b, 0, none⟩) (sl + m) sc)) w' ∧ Holds w' L' := by
    rcases hsl with ⟨c', rfl, rfl, rfl⟩ | ⟨a', c', rfl, hrd, hyl⟩
    · refine ⟨w, ?_, ?_⟩
      · have hroom' : sl ≤ sc := by omega
        simp only [execOp, resolve, invoke, builtin, Sem.run_bind, Sem.run_pure, Result.andThen_ok, List.map_toArray, List.map_cons, List.map_nil, ha.eval hx, ha.eval hy]
        simp [Builtin.append_, run_underlying ht, sizeOf, typeInfo, hi, Builtin.lenOf, Builtin.firstCells, hroom', storeCells]
      · have := hw.row hu
        have e2 : patch l (sl * i.size) [] = l := by simp [patch]
        rw [e2] at this
        rwa [setRow_self w b l.toArray e (0, 0) hb] at this
    · have hr := run_append_room (P := P) w t ty e i ht hi b sl sc l.toArray hb a' m c' ys hyl (hrd.cells hw) (ones_mem h1) hroom (by simpa using hfit)
      refine ⟨_, ?_, hw.row hu⟩
      simp only [execOp, resolve, invoke, builtin, Sem.run_bind, Sem.run_pure, Result.andThen_ok, List.map_toArray, List.map_cons, List.map_nil, ha.eval hx, ha.eval hy, hr]
      simp [patch]
  obtain ⟨w', hrun, hw'⟩ := hrun
  unfold Oper.wp
  rw [hrun, Oper.upon_value]
  exact (hk _ _ h).out _ _ (ha.put _ hn) hw'⟩

/-- append(s, make(T, c)...) that needs a new row. -/
theorem OW_appendZeros {t u e k by_ : Nat} {z : Value} {ku : IntKind} [hs : SL P t e k by_] [hz : ZV P e z] [hi : IK P u ku] {a0 : Addr} {sl sc c : Nat} {kk : IntKind} {old : List Value} (hx : ev M x = some (.slice (some a0) sl sc)) (hy : ev M y = some (.int kk (c : Int)))
    (hzk : z.cells.size = k) (hrd : RdAt L a0 old) (hol : old.length = sl * k) (hgrow : sc < sl + c) (hb : (sl + c) * by_ ≤ 140737488355328) (h63 : sl + c ≤ 9223372036854775807)
    (hn : Nat.blt d n = true) (h : ∀ b cap rest, sl + c ≤ cap → cap ≤ maxLen → rest.length = (cap - (sl + c)) * k → K ((d, .slice (some ⟨b, 0, none⟩) (sl + c) cap) :: M) ([(b, cl (old ++ zeros z.cells.toList c ++ rest) e)] :: L)) :
    OW P n ⟨some d, .call ⟨.builtin .append, #[x, y], #[t, u]⟩, ty, ps, af, g⟩ K M L := ⟨fun a w next Q ha hw hk => by
  obtain ⟨ht, i, hif, hik, hib, hk0⟩ := hs.parts
  subst hik hib
  have hzz : i.zero = some z := by have := hz.out; rw [hif] at this; simpa using this
  have hfit := growslice_fits hgrow hb
  have hrd' := run_firstCells_some (P := P) w.drew i.size sl a0 sl sc old hol (by simpa using hrd.cells hw)
  have hcap := grownCap_ge w (sl + c) sc e
  have hcm := grownCap_le_maxLen w (sl + c) sc e (by simp [maxLen]; omega)
  have hz2 := zeros_range (z := z.cells) (m := c)
  have hz3 := zeros_range (z := z.cells) (m := grownCap w (sl + c) sc e - (sl + c))
  have hc1 := wrap_i64 (r := (c : Int)) (by omega) (by omega)
  have hcb : ¬ (281474976710656 < (c : Int) * (i.bytes : Int)) := by
    have h1 : c * i.bytes ≤ (sl + c) * i.bytes := Nat.mul_le_mul_right _ (by omega)
    rw [← Int.natCast_mul]; omega
  have hrun : (execOp a.eval ⟨some d, .call ⟨.builtin .append, #[x, y], #[t, u]⟩, ty, ps, af, g⟩).run P w = .ok (.value (.slice (some ⟨w.heap.size, 0, none⟩) (sl + c) (grownCap w (sl + c) sc e)))
      (w.drew.alloc (cl (old ++ zeros z.cells.toList c ++ zeros z.cells.toList (grownCap w (sl + c) sc e - (sl + c))) e)) := by
    have hne : ¬ (sl + c ≤ sc) := by omega
    have h63' : ¬ (9223372036854775807 < ((sl : Int) + (c : Int))) := by omega
    have h48' : ¬ (281474976710656 < Builtin.nextslicecap (sl + c) sc * i.bytes) := by omega
    have hc0 : ¬ ((c : Int) < 0) := by omega
    simp only [execOp, resolve, invoke, builtin, Sem.run_bind, Sem.run_pure, Result.andThen_ok, List.map_toArray, List.map_cons, List.map_nil, ha.eval hx, ha.eval hy]
    simp [Builtin.append_, run_underlying ht, run_underlying hi.out, sizeOf, typeInfo, hif, asInt, asIntOf, hc1, hc0, hcb, hne, h63', h48', Question.forced, hrd', newRow, zero_run hz.out]
    split
    · rename_i h0
      have hcz : c = 0 := by
        rcases Nat.mul_eq_zero.1 h0 with h | h
        · exact h
        · omega
      subst hcz
      simp [zeroCells_eq, grownCap, cl, zeros]
    · simp [zeroCells_eq, grownCap, cl]
  unfold Oper.wp
  rw [hrun, Oper.upon_value]
  have := (hw.same (w' := w.drew) rfl rfl rfl).alloc (cl (old ++ zeros z.cells.toList c ++ zeros z.cells.toList (grownCap w (sl + c) sc e - (sl + c))) e)
  exact (hk _ _ (h w.heap.size _ _ hcap hcm (by rw [zeros_length]; simp [hzk]))).out _ _ (ha.put _ hn) this⟩

/-- A call of what the model answers itself. -/
theorem OW_extern {f : FuncId} {fn : Func} {xs : List Operand} {ats : Array TypeId} {vs : List Value} {e : Array Value → Sem Value} (hx : ev M x = some (.func (.func f) #[] #[])) (hvs : evs M xs = some vs) (hf : P.funcs[f]? = some fn) (hname : (fn.name == "runtime.NumGoroutine") = false)
    (hb : fn.body.isNone = true) (hnx : Extern.findNext fn = none) (he : Extern.find fn = some e) (hr : ∀ w, Holds w L → (e vs.toArray).run P w = .ok v w) : EV P n ⟨some d, .call ⟨.value x, xs.toArray, ats⟩, ty, ps, af, g⟩ M L d v :=
  ⟨rfl, fun a w ha hw => by
    have hm : Array.map a.eval xs.toArray = vs.toArray := by rw [← ha.evals hvs]; simp
    have h1 := run_callFunc_extern hf hname hb hnx he vs.toArray w
    rw [hr w hw] at h1
    simp only [execOp, resolve, ha.eval hx, hm, Deferred.ofValue, Sem.run_bind, Sem.run_pure, Result.andThen_ok, invoke, Array.append_empty, Array.empty_append, h1]⟩

theorem wrap_u64 {r : Int} (h1 : 0 ≤ r) (h2 : r ≤ 18446744073709551615) : IntKind.u64.wrap r = r := by
  simp [IntKind.wrap, IntKind.bits, IntKind.signed]
  omega
theorem shr_lit {a j m : Int} {k : IntKind} (h : 0 ≤ a) (hm : (2 : Int) ^ (min j.toNat k.bits) = m) : a.fdiv (2 ^ (min j.toNat k.bits)) = a / m := by
  rw [hm]
  subst hm
  exact Int.fdiv_eq_ediv_of_nonneg _ (Int.le_of_lt (Int.pow_pos (by decide)))
theorem lk_int {t : Nat} {k : IntKind} {a b : Int} (h : lk M t = some (.int k a)) (e : a = b) : lk M t = some (.int k b) := by rw [h, e]

/-- s[l:] and s[l:h] with room behind. -/
theorem EV_sliceFrom0 {T e k by_ : Nat} [hs : SL P T e k by_] {b len cap : Nat} {lo hi : Option Operand} {l h : Nat} (hx : ev M x = some (.slice (some ⟨b, 0, none⟩) len cap)) (hl : bnd M lo 0 = some (l : Int)) (hh : bnd M hi len = some (h : Int))
    (h1 : l ≤ h) (h2 : h ≤ cap) (h3 : l < cap) : EV P n ⟨some d, .slice T x lo hi none, ty, ps, af, g⟩ M L d (.slice (some ⟨b, l * k, none⟩) (h - l) (cap - l)) := by
  have := EV_sliceSl (P := P) (n := n) (L := L) (d := d) (ty := ty) (ps := ps) (af := af) (g := g) (T := T) hx hl hh h1 h2
  rw [if_neg (by omega), Nat.zero_add] at this
  exact this
theorem bnd_int {o : Operand} {dflt : Nat} {k : IntKind} {a b : Int} (h : ev M o = some (.int k a)) (e : a = b) : bnd M (some o) dflt = some b := by simp only [bnd, h, e]

theorem OW_copyTo {t e k by_ : Nat} [hs : SL P t e k by_] {b off dl dc sl : Nat} {r : Value} {l zs : List Value} {T : TypeId} {L' : List Chunk} (l' : List Value) (hx : ev M x = some (.slice (some ⟨b, off, none⟩) dl dc)) (hy : ev M y = some r)
    (hsl : Sl L k r sl zs) (h1 : ones (zs.take (min sl dl * k)) = true) (he : patch l off (zs.take (min sl dl * k)) = l') (hu : Upd L b (cl l T) (cl l' T) L') (hfit : off + min sl dl * k ≤ l.length)
    (hn : Nat.blt d n = true) (h : K ((d, .int .i64 ((min sl dl : Nat) : Int)) :: M) L') :
    OW P n ⟨some d, .call ⟨.builtin .copy, #[x, y], #[t, t]⟩, ty, ps, af, g⟩ K M L := by
  subst he
  exact OW_copy hx hy hsl h1 hu hfit hn h
theorem OW_appendRoomTo {t e k by_ : Nat} [hs : SL P t e k by_] {b sl sc m : Nat} {r : Value} {l ys : List Value} {L' : List Chunk} (l' : List Value) (hx : ev M x = some (.slice (some ⟨b, 0, none⟩) sl sc)) (hy : ev M y = some r) (hsl : Sl L k r m ys) (h1 : ones ys = true)
    (hroom : sl + m ≤ sc) (he : patch l (sl * k) ys = l') (hu : Upd L b (cl l e) (cl l' e) L') (hfit : sl * k + ys.length ≤ l.length)
    (hn : Nat.blt d n = true) (h : K ((d, .slice (some ⟨b, 0, none⟩) (sl + m) sc) :: M) L') :
    OW P n ⟨some d, .call ⟨.builtin .append, #[x, y], #[t, t]⟩, ty, ps, af, g⟩ K M L := by
  subst he
  exact OW_appendRoom hx hy hsl h1 hroom hu hfit hn h
theorem OW_clearTo {t e k by_ : Nat} {z : Value} [hs : SL P t e k by_] [hz : ZV P e z] {b off m c : Nat} {l : List Value} {T : TypeId} {L' : List Chunk} (l' : List Value) (hx : ev M x = some (.slice (some ⟨b, off, none⟩) m c)) (hzk : z.cells.size = k) (hone : ones z.cells.toList = true)
    (he : patch l off (zeros z.cells.toList m) = l') (hu : Upd L b (cl l T) (cl l' T) L') (hfit : off + m * k ≤ l.length) (h : K M L') :
    OW P n ⟨none, .call ⟨.builtin .clear, #[x], #[t]⟩, ty, ps, af, g⟩ K M L := by
  subst he
  exact OW_clear hx hzk hone hu hfit h

omit [W0] in
def tkN : List Value → Nat → Option (List Value)
  | _, 0 => some []
  | [], _ + 1 => none
  | v :: r, m + 1 => match tkN r m with
    | some vs => some (v :: vs)
    | none => none
omit [W0] in
def dpN : List Value → Nat → List Value
  | l, 0 => l
  | [], _ + 1 => []
  | _ :: r, m + 1 => dpN r m
theorem dpN_eq : ∀ (l : List Value) (m : Nat), dpN l m = l.drop m
  | l, 0 => by simp [dpN]
  | [], m + 1 => by simp [dpN]
  | v :: r, m + 1 => by simp [dpN, dpN_eq r m]
theorem tkN_eq : ∀ {l : List Value} {m : Nat} {vs : List Value}, tkN l m = some vs → vs = l.take m ∧ vs.length = m
  | l, 0, vs, h => by simp [tkN] at h; subst h; simp
  | [], m + 1, vs, h => by simp [tkN] at h
  | v :: r, m + 1, vs, h => by
    unfold tkN at h
    split at h
    · rename_i us hu
      simp at h; subst h
      obtain ⟨h1, h2⟩ := tkN_eq hu
      simp [h1, h2]
      rw [← h2]; simp [h1]
    · simp at h
/-- A struct read out of a block of one's own. -/
theorem EV_loadAggC {t k : Nat} [hag : AG P t k] {b off : Nat} {l vs : List Value} {T : TypeId} (hx : ev M x = some (.pointer (some ⟨b, off, none⟩))) (hf : Fnd L b (cl l T)) (hc : tkN (dpN l off) k = some vs) :
    EV P n ⟨some d, .load t x, ty, ps, af, g⟩ M L d (.agg vs.toArray) := by
  obtain ⟨h1, h2⟩ := tkN_eq hc
  rw [dpN_eq] at h1
  exact EV_loadAgg hx (RdAt.cl' hf (by unfold cut; rw [h2, h1])) h2

theorem OW_storeAggTo {t k : Nat} [hag : AG P t k] {b off : Nat} {l vs : List Value} {T : TypeId} {L' : List Chunk} (l' : List Value) (hx : ev M x = some (.pointer (some ⟨b, off, none⟩))) (hy : ev M y = some (.agg vs.toArray)) (hl : vs.length = k)
    (h1 : ones vs = true) (he : patch l off vs = l') (hu : Upd L b (cl l T) (cl l' T) L') (hfit : off + vs.length ≤ l.length) (h : K M L') :
    OW P n ⟨none, .store t x y, ty, ps, af, g⟩ K M L := by
  subst he
  exact OW_storeAgg hx hy hl h1 hu hfit h
theorem OW_storeTo {t : TypeId} [hs : SZ P t 1] {b off : Nat} {l : List Value} {T : TypeId} {L' : List Chunk} (l' : List Value) (hx : ev M x = some (.pointer (some ⟨b, off, none⟩))) (hy : ev M y = some v) (hv : v.oneCell' = true)
    (he : l.set off v = l') (hu : Upd L b (cl l T) (cl l' T) L') (hlt : off < l.length) (h : K M L') :
    OW P n ⟨none, .store t x y, ty, ps, af, g⟩ K M L := by
  subst he
  exact OW_store hx hy hv hu hlt h

/- bits, remainders, shifts -/
omit [W0] in
def bitI : BinOp → IntKind → Int → Int → Option Int
  | .and, k, x, y => some (k.wrap ((BitVec.ofInt k.bits x &&& BitVec.ofInt k.bits y).toNat : Int))
  | .or, k, x, y => some (k.wrap ((BitVec.ofInt k.bits x ||| BitVec.ofInt k.bits y).toNat : Int))
  | .xor, k, x, y => some (k.wrap ((BitVec.ofInt k.bits x ^^^ BitVec.ofInt k.bits y).toNat : Int))
  | .andNot, k, x, y => some (k.wrap ((BitVec.ofInt k.bits x &&& ~~~ BitVec.ofInt k.bits y).toNat : Int))
  | _, _, _, _ => none
theorem EV_bit {op : BinOp} {t u : TypeId} {k : IntKind} {i j r : Int} (hx : ev M x = some (.int k i)) (hy : ev M y = some (.int k j)) (hb : bitI op k i j = some r) :
    EV P n ⟨some d, .binOp op t x y u, ty, ps, af, g⟩ M L d (.int k r) :=
  ⟨rfl, fun a w ha _ => by
    cases op <;> simp [bitI] at hb <;> subst hb <;> simp [execOp, ha.eval hx, ha.eval hy, eqGuard, binOp, Op.intBits]⟩
omit [W0] in
/-- A mask of the lowest bits: what it is one less than. -/
def maskI (k : IntKind) : Int → Option Int
  | .ofNat m => bif Nat.beq (2 ^ Nat.log2 (m + 1)) (m + 1) && Nat.ble (Nat.log2 (m + 1) + 1) k.bits then some (m + 1 : Nat) else none
  | .negSucc _ => none
theorem bits_mask {k : IntKind} {i m p : Int} (h : maskI k m = some p) : k.wrap ((BitVec.ofInt k.bits i &&& BitVec.ofInt k.bits m).toNat : Int) = i % p := by
  cases m with
  | negSucc _ => simp [maskI] at h
  | ofNat m =>
    have h : (bif Nat.beq (2 ^ Nat.log2 (m + 1)) (m + 1) && Nat.ble (Nat.log2 (m + 1) + 1) k.bits then some ((m + 1 : Nat) : Int) else none) = some p := h
    cases h1 : (Nat.beq (2 ^ Nat.log2 (m + 1)) (m + 1) && Nat.ble (Nat.log2 (m + 1) + 1) k.bits) with
    | false => rw [h1] at h; simp at h
    | true =>
      rw [h1] at h
      simp only [cond_true, Option.some.injEq] at h
      rw [Bool.and_eq_true, Nat.ble_eq] at h1
      obtain ⟨h2, h3⟩ := h1
      have h2 := Nat.eq_of_beq_eq_true h2
      generalize Nat.log2 (m + 1) = j at h2 h3
      subst h
      have hj : j < k.bits := by omega
      have hlt : 2 ^ j < 2 ^ k.bits := Nat.pow_lt_pow_right (by decide) hj
      have hm : m = 2 ^ j - 1 := by omega
      have e1 : (BitVec.ofInt k.bits (Int.ofNat m)).toNat = m := by
        rw [BitVec.toNat_ofInt]
        have hml : m < 2 ^ k.bits := by omega
        have : (Int.ofNat m) % ((2 ^ k.bits : Nat) : Int) = Int.ofNat m := Int.emod_eq_of_lt (Int.natCast_nonneg m) (by have : ((m : Nat) : Int) < ((2 ^ k.bits : Nat) : Int) := by { exact_mod_cast hml }; exact this)
        rw [this]; rfl
      have e2 : ((BitVec.ofInt k.bits i).toNat : Int) = i % ((2 ^ k.bits : Nat) : Int) := by
        rw [BitVec.toNat_ofInt]
        have h0 : 0 < 2 ^ k.bits := Nat.pow_pos (by decide)
        exact Int.toNat_of_nonneg (Int.emod_nonneg _ (by omega))
      have e3 : ((BitVec.ofInt k.bits i &&& BitVec.ofInt k.bits (Int.ofNat m)).toNat : Int) = i % ((2 ^ j : Nat) : Int) := by
        rw [BitVec.toNat_and, e1, hm, Nat.and_two_pow_sub_one_eq_mod, Int.natCast_emod, e2]
        refine Int.emod_emod_of_dvd _ ?_
        exact_mod_cast Nat.pow_dvd_pow 2 (Nat.le_of_lt hj)
      rw [e3, h2]
      have hp : (0 : Int) < ((m + 1 : Nat) : Int) := by omega
      have g1 := Int.emod_nonneg i (Int.ne_of_gt hp)
      have g2 := Int.emod_lt_of_pos i hp
      have g3 : ((m + 1 : Nat) : Int) ≤ ((2 ^ (k.bits - 1) : Nat) : Int) := by
        have : 2 ^ j ≤ 2 ^ (k.bits - 1) := Nat.pow_le_pow_right (by decide) (by omega)
        rw [← h2]; exact_mod_cast this
      have g4 : ((m + 1 : Nat) : Int) < ((2 ^ k.bits : Nat) : Int) := by rw [← h2]; exact_mod_cast hlt
      unfold IntKind.wrap
      have c1 : ((2 : Int) ^ k.bits) = ((2 ^ k.bits : Nat) : Int) := by simp
      have c2 : ((2 : Int) ^ (k.bits - 1)) = ((2 ^ (k.bits - 1) : Nat) : Int) := by simp
      simp only [c1, c2]
      rw [Int.emod_eq_of_lt g1 (by omega), if_neg]
      simp only [Bool.and_eq_true, decide_eq_true_eq]
      omega
theorem EV_mask {t u : TypeId} {k : IntKind} {i m p : Int} (hx : ev M x = some (.int k i)) (hy : ev M y = some (.int k m)) (hm : maskI k m = some p) :
    EV P n ⟨some d, .binOp .and t x y u, ty, ps, af, g⟩ M L d (.int k (i % p)) := by
  have := EV_bit (P := P) (n := n) (L := L) (d := d) (ty := ty) (ps := ps) (af := af) (g := g) (op := .and) (t := t) (u := u) hx hy rfl
  rwa [bits_mask hm] at this
theorem EV_rem {t u : TypeId} {k : IntKind} {i j : Int} (hx : ev M x = some (.int k i)) (hy : ev M y = some (.int k j)) (hj : j ≠ 0) :
    EV P n ⟨some d, .binOp .rem t x y u, ty, ps, af, g⟩ M L d (.int k (i.tmod j)) :=
  ⟨rfl, fun a w ha _ => by simp [execOp, ha.eval hx, ha.eval hy, eqGuard, binOp, Op.intDiv, hj]⟩
theorem EV_quo {t u : TypeId} {k : IntKind} {i j : Int} (hx : ev M x = some (.int k i)) (hy : ev M y = some (.int k j)) (hj : j ≠ 0) :
    EV P n ⟨some d, .binOp .quo t x y u, ty, ps, af, g⟩ M L d (.int k (k.wrap (i.tdiv j))) :=
  ⟨rfl, fun a w ha _ => by simp [execOp, ha.eval hx, ha.eval hy, eqGuard, binOp, Op.intDiv, hj]⟩
theorem EV_shl {t u : TypeId} {k k' : IntKind} {i j r : Int} (hx : ev M x = some (.int k i)) (hy : ev M y = some (.int k' j)) (hj : 0 ≤ j) (hr : k.wrap (i * 2 ^ (min j.toNat k.bits)) = r) :
    EV P n ⟨some d, .binOp .shl t x y u, ty, ps, af, g⟩ M L d (.int k r) :=
  ⟨rfl, fun a w ha _ => by
    have : ¬ j < 0 := by omega
    simp [execOp, ha.eval hx, ha.eval hy, eqGuard, binOp, Op.shift, this, hr]⟩
theorem EV_neg {t : TypeId} {k : IntKind} {i : Int} (hx : ev M x = some (.int k i)) :
    EV P n ⟨some d, .unOp .neg t x, ty, ps, af, g⟩ M L d (.int k (k.wrap (0 - i))) :=
  ⟨rfl, fun a w ha _ => by simp [execOp, ha.eval hx, Op.unary, Op.intArith]⟩

/- The same rules, with what each use would spell out again. -/
theorem OW_E {o : Oper} (h : K ((d, v) :: M) L) (he : EV P n o M L d v := by first | (show EV _ _ ⟨_, .move _, _, _, _, _⟩ _ _ _ _; first | exact EV_move rfl) | (show EV _ _ ⟨_, .assign _, _, _, _, _⟩ _ _ _ _; first | exact EV_assign rfl) | (show EV _ _ ⟨_, .nilCheck _, _, _, _, _⟩ _ _ _ _; first | exact EV_nilCheck rfl) | (show EV _ _ ⟨_, .fieldAddr .., _, _, _, _⟩ _ _ _ _; first | exact EV_fieldAddr0 rfl | exact EV_fieldAddr rfl) | (show EV _ _ ⟨_, .load .., _, _, _, _⟩ _ _ _ _; first | exact EV_loadc rfl (by repeat (first | assumption | exact Fnd.here | refine Fnd.there ?_)) rfl | exact EV_loadAggC rfl (by repeat (first | assumption | exact Fnd.here | refine Fnd.there ?_)) rfl) | (show EV _ _ ⟨_, .binOp .., _, _, _, _⟩ _ _ _ _; first | exact EV_cmp rfl rfl rfl | exact EV_ari64 rfl rfl rfl (by omega) | exact EV_shr rfl rfl (by decide) (shr_lit (by omega) (by simp [IntKind.bits]; rfl)) | exact EV_strEq rfl rfl | exact EV_strNe rfl rfl | exact EV_strLt rfl rfl | exact EV_sliceEqNil rfl rfl | exact EV_sliceNeNil rfl rfl | exact EV_ptrEqNil rfl rfl | exact EV_ptrNeNil rfl rfl | exact EV_boolEq rfl rfl | exact EV_boolNe rfl rfl) | (show EV _ _ ⟨_, .convert .., _, _, _, _⟩ _ _ _ _; first | exact EV_convII rfl (wrap_i64 (by omega) (by omega)) | exact EV_convII rfl (wrap_u64 (by omega) (by omega)) | exact EV_convII rfl rfl) | (show EV _ _ ⟨_, .extract .., _, _, _, _⟩ _ _ _ _; first | exact EV_extract rfl rfl) | (show EV _ _ ⟨_, .unOp .., _, _, _, _⟩ _ _ _ _; first | exact EV_not rfl) | (show EV _ _ ⟨_, .pick .., _, _, _, _⟩ _ _ _ _; first | exact EV_pick rfl rfl) | (show EV _ _ ⟨_, .call ⟨.builtin .len, _, _⟩, _, _, _, _⟩ _ _ _ _; first | exact EV_lenSl rfl | exact EV_lenStr rfl) | (show EV _ _ ⟨_, .call ⟨.builtin .cap, _, _⟩, _, _, _, _⟩ _ _ _ _; first | exact EV_capSl rfl) | (show EV _ _ ⟨_, .call ⟨.builtin .min, _, _⟩, _, _, _, _⟩ _ _ _ _; first | exact EV_min rfl rfl) | (show EV _ _ ⟨_, .call ⟨.builtin .max, _, _⟩, _, _, _, _⟩ _ _ _ _; first | exact EV_max rfl rfl) | (show EV _ _ ⟨_, .makeInterface .., _, _, _, _⟩ _ _ _ _; first | exact EV_makeInterface rfl) | (show EV _ _ ⟨_, .makeFunc .., _, _, _, _⟩ _ _ _ _; first | exact EV_makeFunc rfl rfl) | (show EV _ _ ⟨_, .typeAssert .., _, _, _, _⟩ _ _ _ _; first | exact EV_assertYes rfl | exact EV_assertNo rfl rfl) | (show EV _ _ ⟨_, .build .., _, _, _, _⟩ _ _ _ _; first | exact EV_build rfl (by simp [fillL, patch, Value.cells]; rfl))) (hn : Nat.blt d n = true := by exact rfl) : OW P n o K M L := OW_EV he hn h
theorem WR_t {S : List Chunk} {ops : List Oper} {T : List Nat} {fuel : Nat} {listed : Array Bool} (i : Nat) {o : Oper} (h : WR P n ops Q S T fuel (listed.setIfInBounds i true) ((d, v) :: M) L)
    (hi : ops[i]? = some o := by exact rfl) (hg : o.guard = none := by exact rfl) (hb : takeB ops T listed i = true := by kernel_rfl) (hPO : PO Q := by exact (by repeat (first | with_reducible exact PO.body | with_reducible exact RP_po | with_reducible refine PO.then ?_ | with_reducible refine PO.block ?_))) (hinc : Inc S L := by exact (by repeat (first | exact Inc.refl | exact Inc.nil | (show Inc (_ :: _) _; refine Inc.cons (by repeat (first | exact Take.here | apply Take.there)) ?_) | refine Inc.skip ?_))) (he : EV P n o M S d v := by exact (by first | (show EV _ _ ⟨_, .move _, _, _, _, _⟩ _ _ _ _; first | exact EV_move rfl) | (show EV _ _ ⟨_, .assign _, _, _, _, _⟩ _ _ _ _; first | exact EV_assign rfl) | (show EV _ _ ⟨_, .nilCheck _, _, _, _, _⟩ _ _ _ _; first | exact EV_nilCheck rfl) | (show EV _ _ ⟨_, .fieldAddr .., _, _, _, _⟩ _ _ _ _; first | exact EV_fieldAddr0 rfl | exact EV_fieldAddr rfl) | (show EV _ _ ⟨_, .load .., _, _, _, _⟩ _ _ _ _; first | exact EV_loadc rfl (by repeat (first | assumption | exact Fnd.here | refine Fnd.there ?_)) rfl | exact EV_loadAggC rfl (by repeat (first | assumption | exact Fnd.here | refine Fnd.there ?_)) rfl) | (show EV _ _ ⟨_, .binOp .., _, _, _, _⟩ _ _ _ _; first | exact EV_cmp rfl rfl rfl | exact EV_ari64 rfl rfl rfl (by omega) | exact EV_shr rfl rfl (by decide) (shr_lit (by omega) (by simp [IntKind.bits]; rfl)) | exact EV_strEq rfl rfl | exact EV_strNe rfl rfl | exact EV_strLt rfl rfl | exact EV_sliceEqNil rfl rfl | exact EV_sliceNeNil rfl rfl | exact EV_ptrEqNil rfl rfl | exact EV_ptrNeNil rfl rfl | exact EV_boolEq rfl rfl | exact EV_boolNe rfl rfl) | (show EV _ _ ⟨_, .convert .., _, _, _, _⟩ _ _ _ _; first | exact EV_convII rfl (wrap_i64 (by omega) (by omega)) | exact EV_convII rfl (wrap_u64 (by omega) (by omega)) | exact EV_convII rfl rfl) | (show EV _ _ ⟨_, .extract .., _, _, _, _⟩ _ _ _ _; first | exact EV_extract rfl rfl) | (show EV _ _ ⟨_, .unOp .., _, _, _, _⟩ _ _ _ _; first | exact EV_not rfl) | (show EV _ _ ⟨_, .pick .., _, _, _, _⟩ _ _ _ _; first | exact EV_pick rfl rfl) | (show EV _ _ ⟨_, .call ⟨.builtin .len, _, _⟩, _, _, _, _⟩ _ _ _ _; first | exact EV_lenSl rfl | exact EV_lenStr rfl) | (show EV _ _ ⟨_, .call ⟨.builtin .cap, _, _⟩, _, _, _, _⟩ _ _ _ _; first | exact EV_capSl rfl) | (show EV _ _ ⟨_, .call ⟨.builtin .min, _, _⟩, _, _, _, _⟩ _ _ _ _; first | exact EV_min rfl rfl) | (show EV _ _ ⟨_, .call ⟨.builtin .max, _, _⟩, _, _, _, _⟩ _ _ _ _; first | exact EV_max rfl rfl) | (show EV _ _ ⟨_, .makeInterface .., _, _, _, _⟩ _ _ _ _; first | exact EV_makeInterface rfl) | (show EV _ _ ⟨_, .makeFunc .., _, _, _, _⟩ _ _ _ _; first | exact EV_makeFunc rfl rfl) | (show EV _ _ ⟨_, .typeAssert .., _, _, _, _⟩ _ _ _ _; first | exact EV_assertYes rfl | exact EV_assertNo rfl rfl) | (show EV _ _ ⟨_, .build .., _, _, _, _⟩ _ _ _ _; first | exact EV_build rfl (by simp [fillL, patch, Value.cells]; rfl)))) (hn : Nat.blt d n = true := by exact rfl) :
    WR P n ops Q S T (fuel + 1) listed M L := WR_take i hi hg hb hPO hinc he hn h
theorem a0 {o : Oper} (he : EV P n o M L d v) (h : K ((d, v) :: M) L) (hn : Nat.blt d n = true := by exact rfl) : OW P n o K M L := OW_EV he hn h
end
/-- What a walk makes of a condition: one name for the whole list. -/
theorem nrB : (∀ (p : Prop) [Decidable p], (decide p = true) = p) ∧ (∀ (p : Prop) [Decidable p], (decide p = false) = ¬ p) ∧
    (∀ {α : Type} [BEq α] [LawfulBEq α] (a b : α), ((a == b) = true) = (a = b)) ∧ (∀ {α : Type} [BEq α] [LawfulBEq α] (a b : α), ((a != b) = true) = ¬ (a = b)) ∧
    (∀ {α : Type} [BEq α] [LawfulBEq α] (a b : α), ((a == b) = false) = ¬ (a = b)) ∧ (∀ {α : Type} [BEq α] [LawfulBEq α] (a b : α), ((a != b) = false) = (a = b)) ∧
    (∀ b : Bool, ((!b) = true) = (b = false)) ∧ (∀ b : Bool, ((!b) = false) = (b = true)) ∧ (∀ b : Bool, (¬ (b = true)) = (b = false)) ∧
    (∀ a b : Bool, ((a && b) = true) = (a = true ∧ b = true)) ∧ (∀ a b : Bool, ((a || b) = true) = (a = true ∨ b = true)) ∧ (∀ a b : Bool, ((a || b) = false) = (a = false ∧ b = false)) ∧
    (∀ {α : Type} (a b : α), (a ≠ b) = ¬ (a = b)) ∧ (∀ b : Bool, (true != b) = !b) ∧ (∀ b : Bool, (false != b) = b) ∧ (∀ b : Bool, (b != true) = !b) ∧ (∀ b : Bool, (b != false) = b) := by
  refine ⟨fun p _ => by simp, fun p _ => by simp, fun a b => by simp, fun a b => by simp, fun a b => by simp, fun a b => by simp, fun b => by simp, fun b => by simp, fun b => by simp, fun a b => by simp, fun a b => by simp, fun a b => by simp, fun a b => rfl, fun b => by simp, fun b => by simp, fun b => by simp, fun b => by simp⟩
end Go.Vx
