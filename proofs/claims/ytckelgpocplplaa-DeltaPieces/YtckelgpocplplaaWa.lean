/- The layer's words of 32 bits, arrays, and regions whose held chunks grow. It proves no statement by itself. No conditions. -/
import Derived.Test.YtckelgpocplplaaVm
namespace Go.Vx
open Go
set_option linter.all false
variable [W0]

omit [W0] in
/-- The word that an integer stands for. -/
class WI (i : Int) (a : outParam (BitVec 32)) : Prop where out : BitVec.ofInt 32 i = a
omit [W0] in
instance instWIv (a : BitVec 32) : WI (a.toNat : Int) a := ⟨by apply BitVec.eq_of_toNat_eq; rw [BitVec.toNat_ofInt]; have := a.isLt; omega⟩
omit [W0] in
instance instWIc (n : Nat) : WI (no_index (@OfNat.ofNat Int n _)) (BitVec.ofNat 32 (@OfNat.ofNat Nat n _)) := ⟨by apply BitVec.eq_of_toNat_eq; rw [BitVec.toNat_ofInt, BitVec.toNat_ofNat]; show ((n : Int) % _).toNat = n % _; omega⟩

omit [W0] in
instance instWIo (n : Nat) : WI (no_index (Int.ofNat n)) (BitVec.ofNat 32 n) := ⟨by apply BitVec.eq_of_toNat_eq; rw [BitVec.toNat_ofInt, BitVec.toNat_ofNat]; show ((n : Int) % _).toNat = _; omega⟩

omit [W0] in
/-- The number that an integer stands for. -/
class WN (i : Int) (s : outParam Nat) : Prop where out : i = (s : Int)
omit [W0] in
instance instWNv (n : Nat) : WN (n : Int) n := ⟨rfl⟩
omit [W0] in
instance instWNc (n : Nat) : WN (no_index (@OfNat.ofNat Int n _)) (@OfNat.ofNat Nat n _) := ⟨rfl⟩

theorem wrap_u32 (r : Int) : IntKind.u32.wrap r = ((BitVec.ofInt 32 r).toNat : Int) := by
  rw [BitVec.toNat_ofInt]
  simp [IntKind.wrap, IntKind.bits, IntKind.signed]
  omega
theorem wrap_u8 (r : Int) : IntKind.u8.wrap r = ((r % 256).toNat : Int) := by
  simp [IntKind.wrap, IntKind.bits, IntKind.signed]
  omega
omit [W0] in
def wop : BinOp → BitVec 32 → BitVec 32 → Option (BitVec 32)
  | .add, a, b => some (a + b) | .sub, a, b => some (a - b) | .mul, a, b => some (a * b)
  | .and, a, b => some (a &&& b) | .or, a, b => some (a ||| b) | .xor, a, b => some (a ^^^ b)
  | _, _, _ => none
omit [W0] in
/-- A byte as a word, and back. -/
def b2w (b : UInt8) : BitVec 32 := BitVec.ofNat 32 b.toNat
omit [W0] in
def w2b (w : BitVec 32) : UInt8 := UInt8.ofNat w.toNat
omit [W0] in
/-- Words as cells. -/
def wsv (l : List (BitVec 32)) : List Value := l.map fun w => .int .u32 (w.toNat : Int)
theorem wsv_length {l : List (BitVec 32)} : (wsv l).length = l.length := by simp [wsv]
theorem wsv_ones {l : List (BitVec 32)} : ones (wsv l) = true := by simp [ones, wsv, Value.oneCell']
theorem wsv_get {l : List (BitVec 32)} {i : Nat} {w : BitVec 32} (h : l[i]? = some w) : (wsv l)[i]? = some (.int .u32 (w.toNat : Int)) := by simp [wsv, h]
theorem bsv_get {l : List UInt8} {i : Nat} {b : UInt8} (h : l[i]? = some b) : (bsv l)[i]? = some (.int .u8 (b.toNat : Int)) := by simp [bsv, h]

section
variable {P : Program} {n : Nat} {Q : Exit → Act → World → Prop} {M : List (Nat × Value)} {L : List Chunk} {K : List (Nat × Value) → List Chunk → Prop}
variable {d : Nat} {ty : TypeId} {ps : String} {af : Array Edge} {g : Option (Nat × Bool)} {x y : Operand} {v : Value}

theorem ofInt_nat (a : BitVec 32) : BitVec.ofInt 32 (a.toNat : Int) = a := (instWIv a).out
theorem EV_wop {op : BinOp} {t u : TypeId} {i j : Int} {a b r : BitVec 32} (hx : ev M x = some (.int .u32 i)) (hy : ev M y = some (.int .u32 j)) [ha' : WI i a] [hb' : WI j b] (hr : wop op a b = some r) :
    EV P n ⟨some d, .binOp op t x y u, ty, ps, af, g⟩ M L d (.int .u32 (r.toNat : Int)) := by
  have h1 := ha'.out
  have h2 := hb'.out
  subst h1 h2
  cases op <;> simp only [wop, Option.some.injEq, reduceCtorEq] at hr <;> subst hr
  · have := EV_ari (P := P) (n := n) (L := L) (d := d) (ty := ty) (ps := ps) (af := af) (g := g) (op := .add) (t := t) (u := u) hx hy rfl
    rw [wrap_u32, BitVec.ofInt_add] at this
    exact this
  · have := EV_ari (P := P) (n := n) (L := L) (d := d) (ty := ty) (ps := ps) (af := af) (g := g) (op := .sub) (t := t) (u := u) hx hy rfl
    rw [wrap_u32, Int.sub_eq_add_neg, BitVec.ofInt_add, BitVec.ofInt_neg, ← BitVec.sub_eq_add_neg] at this
    exact this
  · have := EV_ari (P := P) (n := n) (L := L) (d := d) (ty := ty) (ps := ps) (af := af) (g := g) (op := .mul) (t := t) (u := u) hx hy rfl
    rw [wrap_u32, BitVec.ofInt_mul] at this
    exact this
  · refine EV_bit (op := .and) hx hy ?_
    show some (IntKind.u32.wrap ((BitVec.ofInt 32 i &&& BitVec.ofInt 32 j).toNat : Int)) = _
    rw [wrap_u32, ofInt_nat]
  · refine EV_bit (op := .or) hx hy ?_
    show some (IntKind.u32.wrap ((BitVec.ofInt 32 i ||| BitVec.ofInt 32 j).toNat : Int)) = _
    rw [wrap_u32, ofInt_nat]
  · refine EV_bit (op := .xor) hx hy ?_
    show some (IntKind.u32.wrap ((BitVec.ofInt 32 i ^^^ BitVec.ofInt 32 j).toNat : Int)) = _
    rw [wrap_u32, ofInt_nat]
theorem EV_wnot {t : TypeId} {i : Int} {a : BitVec 32} (hx : ev M x = some (.int .u32 i)) [ha' : WI i a] :
    EV P n ⟨some d, .unOp .xor t x, ty, ps, af, g⟩ M L d (.int .u32 ((~~~ a).toNat : Int)) :=
  ⟨rfl, fun a' w ha _ => by
    have h1 := ha'.out
    subst h1
    have e : (Op.unary .xor (.int .u32 i)).run P w = .ok (.int .u32 ((~~~ BitVec.ofInt 32 i).toNat : Int)) w := by
      show (Sem.pure (Value.int .u32 (IntKind.u32.wrap ((BitVec.ofInt 32 4294967295 ^^^ BitVec.ofInt 32 i).toNat : Int)))).run P w = _
      rw [wrap_u32, ofInt_nat]
      have e3 : BitVec.ofInt 32 4294967295 ^^^ BitVec.ofInt 32 i = ~~~ BitVec.ofInt 32 i := by
        have : BitVec.ofInt 32 4294967295 = BitVec.allOnes 32 := by decide
        rw [this, BitVec.allOnes_xor]
      rw [e3]; rfl
    simp only [execOp, ha.eval hx, Sem.run_bind, e, Result.andThen_ok, Sem.run_pure]⟩
theorem EV_wshl {t u : TypeId} {k' : IntKind} {i j : Int} {a : BitVec 32} {s : Nat} (hx : ev M x = some (.int .u32 i)) (hy : ev M y = some (.int k' j)) [ha' : WI i a] [hj' : WN j s] (hs : s ≤ 32) :
    EV P n ⟨some d, .binOp .shl t x y u, ty, ps, af, g⟩ M L d (.int .u32 ((a <<< s).toNat : Int)) :=
  ⟨rfl, fun a' w ha _ => by
    have hj := hj'.out
    subst hj
    have h0 : ¬ ((s : Int) < 0) := by omega
    have hm : min (Int.toNat (s : Int)) IntKind.u32.bits = s := by simp [IntKind.bits]; omega
    have e : BitVec.ofInt 32 (i * 2 ^ s) = a <<< s := by
      rw [BitVec.ofInt_mul, ha'.out, BitVec.shiftLeft_eq_mul_twoPow]
      congr 1
      apply BitVec.eq_of_toNat_eq
      rw [BitVec.toNat_ofInt, BitVec.toNat_twoPow]
      have : ((2 : Int) ^ s) = ((2 ^ s : Nat) : Int) := by simp
      rw [this]
      omega
    simp [execOp, ha.eval hx, ha.eval hy, eqGuard, binOp, Op.shift, h0, hm, wrap_u32, e]⟩
theorem EV_wshr {t u : TypeId} {k' : IntKind} {j : Int} {a : BitVec 32} {s : Nat} (hx : ev M x = some (.int .u32 (a.toNat : Int))) (hy : ev M y = some (.int k' j)) [hj' : WN j s] (hs : s ≤ 32) :
    EV P n ⟨some d, .binOp .shr t x y u, ty, ps, af, g⟩ M L d (.int .u32 ((a >>> s).toNat : Int)) :=
  ⟨rfl, fun a' w ha _ => by
    have hj := hj'.out
    subst hj
    have h0 : ¬ ((s : Int) < 0) := by omega
    have hm : min (Int.toNat (s : Int)) IntKind.u32.bits = s := by simp [IntKind.bits]; omega
    have e : (a.toNat : Int).fdiv (2 ^ s) = ((a >>> s).toNat : Int) := by
      have : ((2 : Int) ^ s) = ((2 ^ s : Nat) : Int) := by simp
      rw [BitVec.toNat_ushiftRight, Nat.shiftRight_eq_div_pow, this, Int.fdiv_eq_ediv_of_nonneg _ (Int.natCast_nonneg _), ← Int.natCast_ediv]
    simp only [execOp, ha.eval hx, ha.eval hy, eqGuard, binOp, Op.shift, h0, hm, e, if_false, Sem.run_bind, Sem.run_pure, Result.andThen_ok]
    simp [e]⟩
theorem EV_wshr' {t u : TypeId} {k' : IntKind} {j : Int} {a : BitVec 32} (s : Nat) (hx : ev M x = some (.int .u32 (a.toNat : Int))) (hy : ev M y = some (.int k' j)) (hj : j = (s : Int)) (hs : s ≤ 32) :
    EV P n ⟨some d, .binOp .shr t x y u, ty, ps, af, g⟩ M L d (.int .u32 ((a >>> s).toNat : Int)) := by
  haveI : WN j s := ⟨hj⟩
  exact EV_wshr hx hy hs
theorem EV_wrem {t u : TypeId} {j : Int} {a b : BitVec 32} (hx : ev M x = some (.int .u32 (a.toNat : Int))) (hy : ev M y = some (.int .u32 j)) [hjb : WI j b] (hj : j = (b.toNat : Int)) (h0 : b.toNat ≠ 0) :
    EV P n ⟨some d, .binOp .rem t x y u, ty, ps, af, g⟩ M L d (.int .u32 ((a % b).toNat : Int)) := by
  subst hj
  have := EV_rem (P := P) (n := n) (L := L) (d := d) (ty := ty) (ps := ps) (af := af) (g := g) (t := t) (u := u) hx hy (by omega)
  have e : (a.toNat : Int).tmod (b.toNat : Int) = ((a % b).toNat : Int) := by
    rw [BitVec.toNat_umod, Int.tmod_eq_emod_of_nonneg (by omega), Int.natCast_emod]
  rwa [e] at this
theorem EV_w8to32 {s t : Nat} {b : UInt8} [h1 : IK P s .u8] [h2 : IK P t .u32] (hx : ev M x = some (.int .u8 (b.toNat : Int))) :
    EV P n ⟨some d, .convert s t x, ty, ps, af, g⟩ M L d (.int .u32 ((b2w b).toNat : Int)) :=
  EV_convII hx (by rw [wrap_u32]; congr 2)
theorem EV_w32to8 {s t : Nat} {a : BitVec 32} [h1 : IK P s .u32] [h2 : IK P t .u8] (hx : ev M x = some (.int .u32 (a.toNat : Int))) :
    EV P n ⟨some d, .convert s t x, ty, ps, af, g⟩ M L d (.int .u8 ((w2b a).toNat : Int)) :=
  EV_convII hx (by rw [wrap_u8]; simp only [w2b, UInt8.toNat_ofNat']; first | done | omega)
theorem EV_w64to32 {s t : Nat} {i : Int} [h1 : IK P s .u64] [h2 : IK P t .u32] (hx : ev M x = some (.int .u64 i)) :
    EV P n ⟨some d, .convert s t x, ty, ps, af, g⟩ M L d (.int .u32 ((BitVec.ofInt 32 i).toNat : Int)) :=
  EV_convII hx (wrap_u32 i)

/- arrays -/
omit [W0] in
def arrOf (P : Program) (T : Nat) : Option (Nat × Nat × Nat) := match P.underlying T with
  | some (.array len e) => match P.info? e with
    | some i => if Nat.blt 0 i.size then some (e, len, i.size) else none
    | none => none
  | _ => none
omit [W0] in
class AR (P : Program) (T : Nat) (e : outParam Nat) (len : outParam Nat) (k : outParam Nat) : Prop where out : arrOf P T = some (e, len, k)
theorem AR.parts {T e len k : Nat} (h : AR P T e len k) : P.underlying T = some (.array len e) ∧ ∃ i, P.info? e = some i ∧ i.size = k ∧ 0 < k := by
  have h := h.out
  unfold arrOf at h
  split at h
  · rename_i len' e' hu
    split at h
    · rename_i i hi
      split at h
      · rename_i hz
        simp at h
        obtain ⟨rfl, rfl, rfl⟩ := h
        rw [Nat.blt_eq] at hz
        exact ⟨hu, i, hi, rfl, hz⟩
      · simp at h
    · simp at h
  · simp at h
theorem EV_indexAddrA {T e len k : Nat} [hs : AR P T e len k] {b off j : Nat} {kk : IntKind} {i : Int} (hx : ev M x = some (.pointer (some ⟨b, off, none⟩))) (hy : ev M y = some (.int kk i))
    [hj' : WN i j] (hlt : j < len) : EV P n ⟨some d, .indexAddr T x y, ty, ps, af, g⟩ M L d (.pointer (some ⟨b, off + j * k, none⟩)) :=
  ⟨rfl, fun a w ha _ => by
    obtain ⟨hu, i', hi, hk, hk0⟩ := hs.parts
    have hj := hj'.out
    subst hj
    have h2 : (j : Int) < (len : Int) := by omega
    simp [execOp, ha.eval hx, ha.eval hy, Instr.indexAt, Instr.sureAddr, asIntOf, run_underlying hu, sizeOf, typeInfo, hi, hk, addr_add, h2, hlt]⟩
theorem EV_indexAddrW {T e k by_ : Nat} [hs : SL P T e k by_] {b off len cap j : Nat} {kk : IntKind} {i : Int} (hx : ev M x = some (.slice (some ⟨b, off, none⟩) len cap)) (hy : ev M y = some (.int kk i))
    [hj' : WN i j] (hlt : j < len) : EV P n ⟨some d, .indexAddr T x y, ty, ps, af, g⟩ M L d (.pointer (some ⟨b, off + j * k, none⟩)) := EV_indexAddr hx hy hj'.out hlt
theorem EV_indexAddrW0 {T e k by_ : Nat} [hs : SL P T e k by_] {b len cap j : Nat} {kk : IntKind} {i : Int} (hx : ev M x = some (.slice (some ⟨b, 0, none⟩) len cap)) (hy : ev M y = some (.int kk i))
    [hj' : WN i j] (hlt : j < len) : EV P n ⟨some d, .indexAddr T x y, ty, ps, af, g⟩ M L d (.pointer (some ⟨b, j * k, none⟩)) := EV_indexAddr0 hx hy hj'.out hlt
theorem EV_indexAddrA' {T e len k : Nat} [hs : AR P T e len k] {b off : Nat} (j : Nat) {kk : IntKind} {i : Int} (hx : ev M x = some (.pointer (some ⟨b, off, none⟩))) (hy : ev M y = some (.int kk i))
    (hj : i = (j : Int)) (hlt : j < len) : EV P n ⟨some d, .indexAddr T x y, ty, ps, af, g⟩ M L d (.pointer (some ⟨b, off + j * k, none⟩)) := by
  haveI : WN i j := ⟨hj⟩
  exact EV_indexAddrA hx hy hlt
theorem EV_sliceArr {T e len k : Nat} [hs : AR P T e len k] {b off : Nat} {lo hi : Option Operand} {l h : Nat} (hx : ev M x = some (.pointer (some ⟨b, off, none⟩))) (hl : bnd M lo 0 = some (l : Int)) (hh : bnd M hi len = some (h : Int))
    (h1 : l ≤ h) (h2 : h ≤ len) (h3 : l < len) : EV P n ⟨some d, .slice T x lo hi none, ty, ps, af, g⟩ M L d (.slice (some ⟨b, off + l * k, none⟩) (h - l) (len - l)) :=
  ⟨rfl, fun a w ha _ => by
    obtain ⟨hu, i', hi', hk', hk0⟩ := hs.parts
    have h4 : ¬ (len = l) := by omega
    simp [execOp, ha.eval hx, Instr.sliceAt, Instr.sureAddr, run_underlying hu, sliceBounds_run ha hl hh h1 h2, sizeOf, typeInfo, hi', hk', addr_add, h4]⟩
theorem EV_indexAgg {T e len : Nat} [hs : AR P T e len 1] [hn : NA P e] {vs : List Value} {j : Nat} {kk : IntKind} {i : Int} (hx : ev M x = some (.agg vs.toArray)) (hy : ev M y = some (.int kk i))
    (hj : i = (j : Int)) (hv : vs[j]? = some v) (hlt : j < len) : EV P n ⟨some d, .index T x y, ty, ps, af, g⟩ M L d v :=
  ⟨rfl, fun a w ha _ => by
    obtain ⟨hu, i', hi, hk, hk0⟩ := hs.parts
    subst hj
    have h2 : (j : Int) < (len : Int) := by omega
    simp [execOp, ha.eval hx, ha.eval hy, Instr.index, asIntOf, run_underlying hu, sizeOf, typeInfo, hi, hk, h2, hlt, part, isAgg_false hn.out, hv]⟩

theorem fill_key {len k : Nat} : ∀ (ps : List (Nat × Value)) (c : Array Value), ps.all (fun x => Nat.blt x.1 len) = true → Instr.fill (((List.range len).map fun j => (j * k, k)).toArray[·]?) c ps = Instr.fill (fun j => some (j * k, k)) c ps := by
  intro ps
  induction ps with
  | nil => intro c _; simp [Instr.fill]
  | cons p r ih =>
    intro c hall
    obtain ⟨j, v⟩ := p
    simp only [List.all_cons, Bool.and_eq_true, Nat.blt_eq] at hall
    unfold Instr.fill
    simp only [List.getElem?_toArray, List.getElem?_map, List.getElem?_range hall.1, Option.map_some]
    split
    · rfl
    · have := ih (v.cells.zipIdx.foldl (fun cs (x : Value × Nat) => cs.setIfInBounds (j * k + x.2) x.1) c) hall.2
      simp only [List.getElem?_toArray, List.getElem?_map] at this
      exact this
theorem EV_buildArr {t e len k : Nat} {z : Value} [hb : AR P t e len k] [hz : ZV P t z] {parts : List (Nat × Operand)} {pvs : List (Nat × Value)} {cs : List Value} (hp : evp M parts = some pvs)
    (hf : fillL ((List.range len).map fun i => (i * k, k)) z.cells.toList pvs = some cs) (hpl : pvs.all (fun x => Nat.blt x.1 len) = true) : EV P n ⟨some d, .build t parts.toArray, ty, ps, af, g⟩ M L d (.agg cs.toArray) :=
  ⟨rfl, fun a w ha _ => by
    obtain ⟨hu, i', hi, hk, hk0⟩ := hb.parts
    have hfill := fill_eq _ pvs z.cells.toList cs hf
    rw [fill_key pvs _ hpl, Array.toArray_toList] at hfill
    have hpe := ha.evalp hp
    simp [execOp, Instr.build, zero_run hz.out, run_underlying hu, sizeOf, typeInfo, hi, hk, hpe, hfill]⟩

/- The rules of a walk, words first. -/
theorem OW_W {o : Oper} (h : K ((d, v) :: M) L) (he : EV P n o M L d v := by first | (show EV _ _ ⟨_, .binOp .., _, _, _, _⟩ _ _ _ _; first | exact EV_wop rfl rfl rfl | exact EV_wshl rfl rfl (by omega) | exact EV_wshr rfl rfl (by omega) | exact EV_wrem rfl rfl (by rfl) (by decide)) | (show EV _ _ ⟨_, .unOp .., _, _, _, _⟩ _ _ _ _; first | exact EV_wnot rfl) | (show EV _ _ ⟨_, .convert .., _, _, _, _⟩ _ _ _ _; first | exact EV_w8to32 rfl | exact EV_w32to8 rfl | exact EV_w64to32 rfl) | (show EV _ _ ⟨_, .indexAddr .., _, _, _, _⟩ _ _ _ _; first | exact EV_indexAddrA rfl rfl (by omega) | exact EV_indexAddrW0 rfl rfl (by omega) | exact EV_indexAddrW rfl rfl (by omega)) | (show EV _ _ ⟨_, .build .., _, _, _, _⟩ _ _ _ _; first | exact EV_buildArr rfl (by simp [fillL, patch, Value.cells]; rfl) (by rfl)) | (show EV _ _ ⟨_, .move _, _, _, _, _⟩ _ _ _ _; first | exact EV_move rfl) | (show EV _ _ ⟨_, .assign _, _, _, _, _⟩ _ _ _ _; first | exact EV_assign rfl) | (show EV _ _ ⟨_, .nilCheck _, _, _, _, _⟩ _ _ _ _; first | exact EV_nilCheck rfl) | (show EV _ _ ⟨_, .fieldAddr .., _, _, _, _⟩ _ _ _ _; first | exact EV_fieldAddr0 rfl | exact EV_fieldAddr rfl) | (show EV _ _ ⟨_, .load .., _, _, _, _⟩ _ _ _ _; first | exact EV_loadc rfl (by repeat (first | assumption | exact Fnd.here | refine Fnd.there ?_)) rfl | exact EV_loadAggC rfl (by repeat (first | assumption | exact Fnd.here | refine Fnd.there ?_)) rfl) | (show EV _ _ ⟨_, .binOp .., _, _, _, _⟩ _ _ _ _; first | exact EV_cmp rfl rfl rfl | exact EV_ari64 rfl rfl rfl (by omega) | exact EV_shr rfl rfl (by decide) (shr_lit (by omega) (by simp [IntKind.bits]; rfl)) | exact EV_strEq rfl rfl | exact EV_strNe rfl rfl | exact EV_strLt rfl rfl | exact EV_sliceEqNil rfl rfl | exact EV_sliceNeNil rfl rfl | exact EV_ptrEqNil rfl rfl | exact EV_ptrNeNil rfl rfl | exact EV_boolEq rfl rfl | exact EV_boolNe rfl rfl) | (show EV _ _ ⟨_, .convert .., _, _, _, _⟩ _ _ _ _; first | exact EV_convII rfl (wrap_i64 (by omega) (by omega)) | exact EV_convII rfl (wrap_u64 (by omega) (by omega)) | exact EV_convII rfl rfl) | (show EV _ _ ⟨_, .extract .., _, _, _, _⟩ _ _ _ _; first | exact EV_extract rfl rfl) | (show EV _ _ ⟨_, .unOp .., _, _, _, _⟩ _ _ _ _; first | exact EV_not rfl) | (show EV _ _ ⟨_, .pick .., _, _, _, _⟩ _ _ _ _; first | exact EV_pick rfl rfl) | (show EV _ _ ⟨_, .call ⟨.builtin .len, _, _⟩, _, _, _, _⟩ _ _ _ _; first | exact EV_lenSl rfl | exact EV_lenStr rfl) | (show EV _ _ ⟨_, .call ⟨.builtin .cap, _, _⟩, _, _, _, _⟩ _ _ _ _; first | exact EV_capSl rfl) | (show EV _ _ ⟨_, .call ⟨.builtin .min, _, _⟩, _, _, _, _⟩ _ _ _ _; first | exact EV_min rfl rfl) | (show EV _ _ ⟨_, .call ⟨.builtin .max, _, _⟩, _, _, _, _⟩ _ _ _ _; first | exact EV_max rfl rfl) | (show EV _ _ ⟨_, .makeInterface .., _, _, _, _⟩ _ _ _ _; first | exact EV_makeInterface rfl) | (show EV _ _ ⟨_, .makeFunc .., _, _, _, _⟩ _ _ _ _; first | exact EV_makeFunc rfl rfl) | (show EV _ _ ⟨_, .typeAssert .., _, _, _, _⟩ _ _ _ _; first | exact EV_assertYes rfl | exact EV_assertNo rfl rfl) | (show EV _ _ ⟨_, .build .., _, _, _, _⟩ _ _ _ _; first | exact EV_build rfl (by simp [fillL, patch, Value.cells]; rfl))) (hn : Nat.blt d n = true := by exact rfl) : OW P n o K M L := OW_EV he hn h
theorem kX {p q : Prop} (h : q) (s : Wr q → p := by (intro h9; (first | (show WL _ _ _ _ _ _ _; first | refine jA ?_ | refine jB ?_ | refine jC ?_ | refine jD ?_ | refine jE ?_ | refine jF ?_) | (show OW _ _ _ _ _ _; first | refine OW_W ?_ | refine jI ?_ | refine jJ ?_) | (show WC _ _ _ _ _ _; first | refine jM ?_ | refine jN ?_ | refine jO ?_ | refine jP ?_ | refine jR ?_ | refine jS ?_ | refine jT ?_ | refine jU ?_) | (show WQ _ _ _ _; with_reducible first | refine jV ?_ | refine jW ?_ | refine jX ?_ | refine jY ?_ | refine jZ ?_ | refine kA ?_ | refine kB ?_ | refine kC ?_)); (repeat (first | (show WL _ _ _ _ _ _ _; first | refine jA ?_ | refine jB ?_ | refine jC ?_ | refine jD ?_ | refine jE ?_ | refine jF ?_) | (show OW _ _ _ _ _ _; first | refine OW_W ?_ | refine jI ?_ | refine jJ ?_) | (show WC _ _ _ _ _ _; first | refine jM ?_ | refine jN ?_ | refine jO ?_ | refine jP ?_ | refine jR ?_ | refine jS ?_ | refine jT ?_ | refine jU ?_) | (show WQ _ _ _ _; with_reducible first | refine jV ?_ | refine jW ?_ | refine jX ?_ | refine jY ?_ | refine jZ ?_ | refine kA ?_ | refine kB ?_ | refine kC ?_))); exact h9.out)) : p := s ⟨h⟩
theorem WR_w {S : List Chunk} {ops : List Oper} {T : List Nat} {fuel : Nat} {listed : Array Bool} (i : Nat) {o : Oper} (h : WR P n ops Q S T fuel (listed.setIfInBounds i true) ((d, v) :: M) L)
    (hi : ops[i]? = some o := by exact rfl) (hg : o.guard = none := by exact rfl) (hb : takeB ops T listed i = true := by kernel_rfl) (hPO : PO Q := by exact iP) (hinc : Inc S L := by exact iC) (he : EV P n o M S d v := by exact (by first | (show EV _ _ ⟨_, .binOp .., _, _, _, _⟩ _ _ _ _; first | exact EV_wop rfl rfl rfl | exact EV_wshl rfl rfl (by omega) | exact EV_wshr rfl rfl (by omega) | exact EV_wrem rfl rfl (by rfl) (by decide)) | (show EV _ _ ⟨_, .unOp .., _, _, _, _⟩ _ _ _ _; first | exact EV_wnot rfl) | (show EV _ _ ⟨_, .convert .., _, _, _, _⟩ _ _ _ _; first | exact EV_w8to32 rfl | exact EV_w32to8 rfl | exact EV_w64to32 rfl) | (show EV _ _ ⟨_, .indexAddr .., _, _, _, _⟩ _ _ _ _; first | exact EV_indexAddrA rfl rfl (by omega) | exact EV_indexAddrW0 rfl rfl (by omega) | exact EV_indexAddrW rfl rfl (by omega)) | (show EV _ _ ⟨_, .build .., _, _, _, _⟩ _ _ _ _; first | exact EV_buildArr rfl (by simp [fillL, patch, Value.cells]; rfl) (by rfl)) | (show EV _ _ ⟨_, .move _, _, _, _, _⟩ _ _ _ _; first | exact EV_move rfl) | (show EV _ _ ⟨_, .assign _, _, _, _, _⟩ _ _ _ _; first | exact EV_assign rfl) | (show EV _ _ ⟨_, .nilCheck _, _, _, _, _⟩ _ _ _ _; first | exact EV_nilCheck rfl) | (show EV _ _ ⟨_, .fieldAddr .., _, _, _, _⟩ _ _ _ _; first | exact EV_fieldAddr0 rfl | exact EV_fieldAddr rfl) | (show EV _ _ ⟨_, .load .., _, _, _, _⟩ _ _ _ _; first | exact EV_loadc rfl (by repeat (first | assumption | exact Fnd.here | refine Fnd.there ?_)) rfl | exact EV_loadAggC rfl (by repeat (first | assumption | exact Fnd.here | refine Fnd.there ?_)) rfl) | (show EV _ _ ⟨_, .binOp .., _, _, _, _⟩ _ _ _ _; first | exact EV_cmp rfl rfl rfl | exact EV_ari64 rfl rfl rfl (by omega) | exact EV_shr rfl rfl (by decide) (shr_lit (by omega) (by simp [IntKind.bits]; rfl)) | exact EV_strEq rfl rfl | exact EV_strNe rfl rfl | exact EV_strLt rfl rfl | exact EV_sliceEqNil rfl rfl | exact EV_sliceNeNil rfl rfl | exact EV_ptrEqNil rfl rfl | exact EV_ptrNeNil rfl rfl | exact EV_boolEq rfl rfl | exact EV_boolNe rfl rfl) | (show EV _ _ ⟨_, .convert .., _, _, _, _⟩ _ _ _ _; first | exact EV_convII rfl (wrap_i64 (by omega) (by omega)) | exact EV_convII rfl (wrap_u64 (by omega) (by omega)) | exact EV_convII rfl rfl) | (show EV _ _ ⟨_, .extract .., _, _, _, _⟩ _ _ _ _; first | exact EV_extract rfl rfl) | (show EV _ _ ⟨_, .unOp .., _, _, _, _⟩ _ _ _ _; first | exact EV_not rfl) | (show EV _ _ ⟨_, .pick .., _, _, _, _⟩ _ _ _ _; first | exact EV_pick rfl rfl) | (show EV _ _ ⟨_, .call ⟨.builtin .len, _, _⟩, _, _, _, _⟩ _ _ _ _; first | exact EV_lenSl rfl | exact EV_lenStr rfl) | (show EV _ _ ⟨_, .call ⟨.builtin .cap, _, _⟩, _, _, _, _⟩ _ _ _ _; first | exact EV_capSl rfl) | (show EV _ _ ⟨_, .call ⟨.builtin .min, _, _⟩, _, _, _, _⟩ _ _ _ _; first | exact EV_min rfl rfl) | (show EV _ _ ⟨_, .call ⟨.builtin .max, _, _⟩, _, _, _, _⟩ _ _ _ _; first | exact EV_max rfl rfl) | (show EV _ _ ⟨_, .makeInterface .., _, _, _, _⟩ _ _ _ _; first | exact EV_makeInterface rfl) | (show EV _ _ ⟨_, .makeFunc .., _, _, _, _⟩ _ _ _ _; first | exact EV_makeFunc rfl rfl) | (show EV _ _ ⟨_, .typeAssert .., _, _, _, _⟩ _ _ _ _; first | exact EV_assertYes rfl | exact EV_assertNo rfl rfl) | (show EV _ _ ⟨_, .build .., _, _, _, _⟩ _ _ _ _; first | exact EV_build rfl (by simp [fillL, patch, Value.cells]; rfl)))) (hn : Nat.blt d n = true := by exact rfl) :
    WR P n ops Q S T (fuel + 1) listed M L := WR_take i hi hg hb hPO hinc he hn h
theorem WR_wu {S : List Chunk} {ops : List Oper} {T : List Nat} {fuel : Nat} {listed : Array Bool} (i : Nat) {j : Nat} {b : Bool} {o : Oper} (h : WR P n ops Q S T fuel (listed.setIfInBounds i true) ((d, v) :: M) L)
    (hi : ops[i]? = some o := by exact rfl) (hg : o.guard = some (j, b) := by exact rfl) (hy : yl ops M j = some (.bool b) := by exact rfl) (hb : takeB ops T listed i = true := by kernel_rfl) (hPO : PO Q := by exact iP) (hinc : Inc S L := by exact iC) (he : EV P n o M S d v := by exact (by first | (show EV _ _ ⟨_, .binOp .., _, _, _, _⟩ _ _ _ _; first | exact EV_wop rfl rfl rfl | exact EV_wshl rfl rfl (by omega) | exact EV_wshr rfl rfl (by omega) | exact EV_wrem rfl rfl (by rfl) (by decide)) | (show EV _ _ ⟨_, .unOp .., _, _, _, _⟩ _ _ _ _; first | exact EV_wnot rfl) | (show EV _ _ ⟨_, .convert .., _, _, _, _⟩ _ _ _ _; first | exact EV_w8to32 rfl | exact EV_w32to8 rfl | exact EV_w64to32 rfl) | (show EV _ _ ⟨_, .indexAddr .., _, _, _, _⟩ _ _ _ _; first | exact EV_indexAddrA rfl rfl (by omega) | exact EV_indexAddrW0 rfl rfl (by omega) | exact EV_indexAddrW rfl rfl (by omega)) | (show EV _ _ ⟨_, .build .., _, _, _, _⟩ _ _ _ _; first | exact EV_buildArr rfl (by simp [fillL, patch, Value.cells]; rfl) (by rfl)) | (show EV _ _ ⟨_, .move _, _, _, _, _⟩ _ _ _ _; first | exact EV_move rfl) | (show EV _ _ ⟨_, .assign _, _, _, _, _⟩ _ _ _ _; first | exact EV_assign rfl) | (show EV _ _ ⟨_, .nilCheck _, _, _, _, _⟩ _ _ _ _; first | exact EV_nilCheck rfl) | (show EV _ _ ⟨_, .fieldAddr .., _, _, _, _⟩ _ _ _ _; first | exact EV_fieldAddr0 rfl | exact EV_fieldAddr rfl) | (show EV _ _ ⟨_, .load .., _, _, _, _⟩ _ _ _ _; first | exact EV_loadc rfl (by repeat (first | assumption | exact Fnd.here | refine Fnd.there ?_)) rfl | exact EV_loadAggC rfl (by repeat (first | assumption | exact Fnd.here | refine Fnd.there ?_)) rfl) | (show EV _ _ ⟨_, .binOp .., _, _, _, _⟩ _ _ _ _; first | exact EV_cmp rfl rfl rfl | exact EV_ari64 rfl rfl rfl (by omega) | exact EV_shr rfl rfl (by decide) (shr_lit (by omega) (by simp [IntKind.bits]; rfl)) | exact EV_strEq rfl rfl | exact EV_strNe rfl rfl | exact EV_strLt rfl rfl | exact EV_sliceEqNil rfl rfl | exact EV_sliceNeNil rfl rfl | exact EV_ptrEqNil rfl rfl | exact EV_ptrNeNil rfl rfl | exact EV_boolEq rfl rfl | exact EV_boolNe rfl rfl) | (show EV _ _ ⟨_, .convert .., _, _, _, _⟩ _ _ _ _; first | exact EV_convII rfl (wrap_i64 (by omega) (by omega)) | exact EV_convII rfl (wrap_u64 (by omega) (by omega)) | exact EV_convII rfl rfl) | (show EV _ _ ⟨_, .extract .., _, _, _, _⟩ _ _ _ _; first | exact EV_extract rfl rfl) | (show EV _ _ ⟨_, .unOp .., _, _, _, _⟩ _ _ _ _; first | exact EV_not rfl) | (show EV _ _ ⟨_, .pick .., _, _, _, _⟩ _ _ _ _; first | exact EV_pick rfl rfl) | (show EV _ _ ⟨_, .call ⟨.builtin .len, _, _⟩, _, _, _, _⟩ _ _ _ _; first | exact EV_lenSl rfl | exact EV_lenStr rfl) | (show EV _ _ ⟨_, .call ⟨.builtin .cap, _, _⟩, _, _, _, _⟩ _ _ _ _; first | exact EV_capSl rfl) | (show EV _ _ ⟨_, .call ⟨.builtin .min, _, _⟩, _, _, _, _⟩ _ _ _ _; first | exact EV_min rfl rfl) | (show EV _ _ ⟨_, .call ⟨.builtin .max, _, _⟩, _, _, _, _⟩ _ _ _ _; first | exact EV_max rfl rfl) | (show EV _ _ ⟨_, .makeInterface .., _, _, _, _⟩ _ _ _ _; first | exact EV_makeInterface rfl) | (show EV _ _ ⟨_, .makeFunc .., _, _, _, _⟩ _ _ _ _; first | exact EV_makeFunc rfl rfl) | (show EV _ _ ⟨_, .typeAssert .., _, _, _, _⟩ _ _ _ _; first | exact EV_assertYes rfl | exact EV_assertNo rfl rfl) | (show EV _ _ ⟨_, .build .., _, _, _, _⟩ _ _ _ _; first | exact EV_build rfl (by simp [fillL, patch, Value.cells]; rfl)))) (hn : Nat.blt d n = true := by exact rfl) :
    WR P n ops Q S T (fuel + 1) listed M L := WR_takeOn i hi hg hy hb hPO hinc he hn h
end

/- regions whose held chunks grow -/
theorem wpAnyT_mono {P : Program} {md : Region.Mode} {ops : Array Oper} {Q : Exit → Act → World → Prop} {S S' : World → Prop} {T : List Nat} (hs : ∀ w, S' w → S w) :
    ∀ (fuel : Nat) (listed : Array Bool) (a : Act) (w : World), wpAnyT P md ops Q S' T fuel listed a w → wpAnyT P md ops Q S T fuel listed a w
  | 0, _, _, _, h => h
  | fuel + 1, _, _, _, h => ⟨h.1, fun i hi => wpOp_mono (fun a' w' h' => ⟨fun hT => hs _ (h'.1 hT), wpAnyT_mono hs fuel _ a' w' h'.2⟩) (h.2 i hi)⟩
theorem WR_more {P : Program} {n : Nat} {ops : List Oper} {Q : Exit → Act → World → Prop} {S : List Chunk} (S' : List Chunk) {T : List Nat} {fuel : Nat} {listed : Array Bool} {M : List (Nat × Value)} {L : List Chunk} (hi : Inc S S') (h : WR P n ops Q S' T fuel listed M L) :
    WR P n ops Q S T fuel listed M L := ⟨fun a w ha hw => wpAnyT_mono (fun _ h => hi.holds h) fuel listed a w (h.out a w ha hw)⟩
end Go.Vx
