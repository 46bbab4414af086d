/- The layer's machine words as numbers: shifts, masks, bits put beside each other. It proves no statement by itself. No conditions. -/
import Derived.Test.YtckelgpocplplaaWa
namespace Go.Vx
open Go
set_option linter.all false
variable [W0]

theorem wrap_nat {k : IntKind} (hs : k.signed = false) {m : Nat} (h : m < 2 ^ k.bits) : k.wrap (m : Int) = (m : Int) := by
  unfold IntKind.wrap
  simp only [hs, Bool.false_and, Bool.false_eq_true, if_false]
  have c1 : ((2 : Int) ^ k.bits) = ((2 ^ k.bits : Nat) : Int) := by simp
  rw [c1]
  have h2 : ((m : Nat) : Int) < ((2 ^ k.bits : Nat) : Int) := by exact_mod_cast h
  exact Int.emod_eq_of_lt (Int.natCast_nonneg m) h2
theorem ofInt_toNat {b m : Nat} (h : m < 2 ^ b) : (BitVec.ofInt b (m : Int)).toNat = m := by
  rw [BitVec.toNat_ofInt]
  have h2 : ((m : Nat) : Int) < ((2 ^ b : Nat) : Int) := by exact_mod_cast h
  rw [Int.emod_eq_of_lt (Int.natCast_nonneg m) h2]
  rfl

section
variable {P : Program} {n : Nat} {Q : Exit → Act → World → Prop} {M : List (Nat × Value)} {L : List Chunk} {K : List (Nat × Value) → List Chunk → Prop}
variable {d : Nat} {ty : TypeId} {ps : String} {af : Array Edge} {g : Option (Nat × Bool)} {x y : Operand} {v : Value}

theorem EV_nshl {t u : TypeId} {k k' : IntKind} {i j : Int} (a s : Nat) (hx : ev M x = some (.int k i)) (hy : ev M y = some (.int k' j)) (hi : i = (a : Int)) (hj : j = (s : Int)) (hs : k.signed = false) (hr : a * 2 ^ s < 2 ^ k.bits) :
    EV P n ⟨some d, .binOp .shl t x y u, ty, ps, af, g⟩ M L d (.int k ((a * 2 ^ s : Nat) : Int)) := by
  subst hi hj
  refine EV_shl hx hy (by omega) ?_
  rw [Int.toNat_natCast]
  rcases Nat.lt_or_ge k.bits s with h | h
  · have h0 : a = 0 := by
      rcases Nat.eq_zero_or_pos a with h0 | h0
      · exact h0
      · exfalso
        have h1 : 2 ^ k.bits ≤ 2 ^ s := Nat.pow_le_pow_right (by decide) (Nat.le_of_lt h)
        have h2 : 1 * 2 ^ s ≤ a * 2 ^ s := Nat.mul_le_mul_right _ h0
        omega
    subst h0
    have := wrap_nat hs (m := 0) (Nat.pow_pos (by decide))
    simpa using this
  · rw [Nat.min_eq_left h]
    have c : (a : Int) * 2 ^ s = ((a * 2 ^ s : Nat) : Int) := by simp
    rw [c]
    exact wrap_nat hs hr
theorem EV_nshr {t u : TypeId} {k k' : IntKind} {i j : Int} (a s : Nat) (hx : ev M x = some (.int k i)) (hy : ev M y = some (.int k' j)) (hi : i = (a : Int)) (hj : j = (s : Int)) (hr : a < 2 ^ k.bits) :
    EV P n ⟨some d, .binOp .shr t x y u, ty, ps, af, g⟩ M L d (.int k ((a / 2 ^ s : Nat) : Int)) := by
  subst hi hj
  refine EV_shr hx hy (by omega) ?_
  rw [Int.toNat_natCast]
  have c : ∀ q : Nat, (a : Int).fdiv (2 ^ q) = ((a / 2 ^ q : Nat) : Int) := fun q => by
    have : ((2 : Int) ^ q) = ((2 ^ q : Nat) : Int) := by simp
    rw [this, Int.fdiv_eq_ediv_of_nonneg _ (Int.natCast_nonneg _), ← Int.natCast_ediv]
  rw [c]
  rcases Nat.lt_or_ge k.bits s with h | h
  · rw [Nat.min_eq_right (Nat.le_of_lt h), Nat.div_eq_of_lt hr, Nat.div_eq_of_lt (Nat.lt_of_lt_of_le hr (Nat.pow_le_pow_right (by decide) (Nat.le_of_lt h)))]
  · rw [Nat.min_eq_left h]
theorem EV_nand {t u : TypeId} {k : IntKind} {i j : Int} (a s : Nat) (hx : ev M x = some (.int k i)) (hy : ev M y = some (.int k j)) (hi : i = (a : Int)) (hj : j = ((2 ^ s - 1 : Nat) : Int)) (hs : k.signed = false) (ha : a < 2 ^ k.bits) (hb : s ≤ k.bits) :
    EV P n ⟨some d, .binOp .and t x y u, ty, ps, af, g⟩ M L d (.int k ((a % 2 ^ s : Nat) : Int)) := by
  subst hi hj
  refine EV_bit (op := .and) hx hy ?_
  have h1 : 2 ^ s - 1 < 2 ^ k.bits := by
    have := Nat.pow_le_pow_right (n := 2) (by decide) hb
    have h0 : 0 < 2 ^ s := Nat.pow_pos (by decide)
    omega
  show some (k.wrap ((BitVec.ofInt k.bits (a : Int) &&& BitVec.ofInt k.bits ((2 ^ s - 1 : Nat) : Int)).toNat : Int)) = _
  rw [BitVec.toNat_and, ofInt_toNat ha, ofInt_toNat h1, Nat.and_two_pow_sub_one_eq_mod, wrap_nat hs (Nat.lt_of_le_of_lt (Nat.mod_le _ _) ha)]
theorem or_add {a b s : Nat} (h : a < 2 ^ s) : a ||| b * 2 ^ s = a + b * 2 ^ s := by
  rw [Nat.mul_comm, Nat.or_comm, ← Nat.two_pow_add_eq_or_of_lt h, Nat.add_comm]
/-- Bits put above bits. -/
theorem EV_nor {t u : TypeId} {k : IntKind} {i j : Int} (a b s : Nat) (hx : ev M x = some (.int k i)) (hy : ev M y = some (.int k j)) (hi : i = (a : Int)) (hj : j = ((b * 2 ^ s : Nat) : Int)) (hs : k.signed = false) (ha : a < 2 ^ s) (hr : a + b * 2 ^ s < 2 ^ k.bits) :
    EV P n ⟨some d, .binOp .or t x y u, ty, ps, af, g⟩ M L d (.int k ((a + b * 2 ^ s : Nat) : Int)) := by
  subst hi hj
  refine EV_bit (op := .or) hx hy ?_
  show some (k.wrap ((BitVec.ofInt k.bits (a : Int) ||| BitVec.ofInt k.bits ((b * 2 ^ s : Nat) : Int)).toNat : Int)) = _
  rw [BitVec.toNat_or, ofInt_toNat (by omega), ofInt_toNat (by omega), or_add ha, wrap_nat hs hr]
theorem EV_nor' {t u : TypeId} {k : IntKind} {i j : Int} (a b s : Nat) (hx : ev M x = some (.int k i)) (hy : ev M y = some (.int k j)) (hi : i = ((b * 2 ^ s : Nat) : Int)) (hj : j = (a : Int)) (hs : k.signed = false) (ha : a < 2 ^ s) (hr : a + b * 2 ^ s < 2 ^ k.bits) :
    EV P n ⟨some d, .binOp .or t x y u, ty, ps, af, g⟩ M L d (.int k ((a + b * 2 ^ s : Nat) : Int)) := by
  subst hi hj
  refine EV_bit (op := .or) hx hy ?_
  show some (k.wrap ((BitVec.ofInt k.bits ((b * 2 ^ s : Nat) : Int) ||| BitVec.ofInt k.bits (a : Int)).toNat : Int)) = _
  rw [BitVec.toNat_or, ofInt_toNat (by omega), ofInt_toNat (by omega), Nat.or_comm, or_add ha, wrap_nat hs hr]
theorem EV_nconv {s t : Nat} {k k' : IntKind} [h1 : IK P s k] [h2 : IK P t k'] {i : Int} (a : Nat) (hx : ev M x = some (.int k i)) (hi : i = (a : Int)) (hs : k'.signed = false) (ha : a < 2 ^ k'.bits) :
    EV P n ⟨some d, .convert s t x, ty, ps, af, g⟩ M L d (.int k' (a : Int)) := by
  subst hi
  exact EV_convII hx (wrap_nat hs ha)
theorem wrap_byte (a : Nat) : IntKind.u8.wrap (a : Int) = ((UInt8.ofNat a).toNat : Int) := by
  rw [wrap_u8, UInt8.toNat_ofNat']
  omega
/-- The lowest byte. -/
theorem EV_nbyte {s t : Nat} {k : IntKind} [h1 : IK P s k] [h2 : IK P t .u8] {i : Int} (a : Nat) (hx : ev M x = some (.int k i)) (hi : i = (a : Int)) :
    EV P n ⟨some d, .convert s t x, ty, ps, af, g⟩ M L d (.int .u8 ((UInt8.ofNat a).toNat : Int)) := by
  subst hi
  refine EV_convII hx ?_
  rw [wrap_u8, UInt8.toNat_ofNat']
  omega
theorem EV_quoN {t u : TypeId} {i j : Int} (a b : Nat) (hx : ev M x = some (.int .i64 i)) (hy : ev M y = some (.int .i64 j)) (hi : i = (a : Int)) (hj : j = (b : Int)) (hb : b ≠ 0) (ha : a ≤ 9223372036854775807) :
    EV P n ⟨some d, .binOp .quo t x y u, ty, ps, af, g⟩ M L d (.int .i64 ((a / b : Nat) : Int)) := by
  subst hi hj
  have := EV_quo (P := P) (n := n) (L := L) (d := d) (ty := ty) (ps := ps) (af := af) (g := g) (t := t) (u := u) hx hy (by omega)
  have e : IntKind.i64.wrap (((a : Nat) : Int).tdiv (b : Int)) = ((a / b : Nat) : Int) := by
    rw [Int.tdiv_eq_ediv_of_nonneg (by omega), ← Int.natCast_ediv]
    have : a / b ≤ a := Nat.div_le_self _ _
    generalize a / b = q at *
    exact wrap_i64 (by omega) (by omega)
  rwa [e] at this
theorem EV_remN {t u : TypeId} {k : IntKind} {i j : Int} (a b : Nat) (hx : ev M x = some (.int k i)) (hy : ev M y = some (.int k j)) (hi : i = (a : Int)) (hj : j = (b : Int)) (hb : b ≠ 0) :
    EV P n ⟨some d, .binOp .rem t x y u, ty, ps, af, g⟩ M L d (.int k ((a % b : Nat) : Int)) := by
  subst hi hj
  have := EV_rem (P := P) (n := n) (L := L) (d := d) (ty := ty) (ps := ps) (af := af) (g := g) (t := t) (u := u) hx hy (by omega)
  have e : ((a : Nat) : Int).tmod (b : Int) = ((a % b : Nat) : Int) := by
    rw [Int.tmod_eq_emod_of_nonneg (by omega), Int.natCast_emod]
  rwa [e] at this
end

/- bytes as a number, the lowest first -/
omit [W0] in
def val : List UInt8 → Nat
  | [] => 0
  | b :: r => b.toNat + 256 * val r
omit [W0] in
def byB (V i : Nat) : UInt8 := UInt8.ofNat (V / 2 ^ (8 * i))
omit [W0] in
def leB (V k : Nat) : List UInt8 := (List.range k).map (byB V)
theorem p256 (i : Nat) : 2 ^ (8 * (i + 1)) = 256 * 2 ^ (8 * i) := by
  rw [Nat.mul_add, Nat.pow_add, Nat.mul_comm]
theorem val_lt : ∀ d : List UInt8, val d < 2 ^ (8 * d.length)
  | [] => by simp [val]
  | b :: r => by
    have := val_lt r
    have hb := b.toNat_lt
    rw [List.length_cons, p256]
    simp only [val]
    omega
theorem val_get : ∀ (d : List UInt8) (i : Nat), i < d.length → val d / 2 ^ (8 * i) % 256 = (d.getD i 0).toNat
  | [], i, h => by simp at h
  | b :: r, 0, _ => by
    have hb := b.toNat_lt
    simp [val]
  | b :: r, i + 1, h => by
    have hb := b.toNat_lt
    have h2 := val_get r i (by simpa using h)
    rw [p256, ← Nat.div_div_eq_div_mul]
    have e : val (b :: r) / 256 = val r := by simp only [val]; omega
    rw [e, h2]
    simp
theorem leB_length (V k : Nat) : (leB V k).length = k := by simp [leB]
theorem leB_zero (V : Nat) : leB V 0 = [] := rfl
theorem leB_succ (V k : Nat) : leB V (k + 1) = leB V k ++ [byB V k] := by simp [leB, List.range_succ]
theorem byB_toNat (V i : Nat) : (byB V i).toNat = V / 2 ^ (8 * i) % 256 := by simp [byB, UInt8.toNat_ofNat']
theorem byB_add {V N x i : Nat} (h : 8 * (i + 1) ≤ N) : byB (V + 2 ^ N * x) i = byB V i := by
  apply UInt8.toNat_inj.1
  rw [byB_toNat, byB_toNat]
  obtain ⟨j, rfl⟩ := Nat.le.dest h
  rw [Nat.pow_add, p256, show 256 * 2 ^ (8 * i) * 2 ^ j * x = 2 ^ (8 * i) * (256 * (2 ^ j * x)) from by ac_rfl, Nat.add_mul_div_left _ _ (Nat.pow_pos (by decide)), Nat.add_mul_mod_self_left]
theorem leB_add {V N x k : Nat} (h : 8 * k ≤ N) : leB (V + 2 ^ N * x) k = leB V k := by
  unfold leB
  refine List.map_congr_left fun i hi => ?_
  have := List.mem_range.1 hi
  exact byB_add (by omega)
theorem byB_over {V i : Nat} (h : V < 2 ^ (8 * i)) : byB V i = 0 := by
  apply UInt8.toNat_inj.1
  rw [byB_toNat, Nat.div_eq_of_lt h]
  rfl
theorem byB_val {d : List UInt8} {i : Nat} (h : i < d.length) : byB (val d) i = d.getD i 0 := by
  apply UInt8.toNat_inj.1
  rw [byB_toNat, val_get d i h]
theorem leB_app {V k : Nat} (h : V < 2 ^ (8 * k)) (b : List UInt8) : leB (V + 2 ^ (8 * k) * val b) (k + b.length) = leB V k ++ b := by
  apply List.ext_getElem?
  intro i
  rcases Nat.lt_or_ge i k with hi | hi
  · rw [List.getElem?_append_left (by rw [leB_length]; exact hi)]
    simp only [leB, List.getElem?_map]
    rw [List.getElem?_range (by omega), List.getElem?_range hi]
    simp only [Option.map_some]
    rw [byB_add (by omega)]
  · rw [List.getElem?_append_right (by rw [leB_length]; exact hi), leB_length]
    rcases Nat.lt_or_ge i (k + b.length) with h2 | h2
    · simp only [leB, List.getElem?_map]
      rw [List.getElem?_range h2]
      have e : byB (V + 2 ^ (8 * k) * val b) i = byB (val b) (i - k) := by
        apply UInt8.toNat_inj.1
        rw [byB_toNat, byB_toNat, show 8 * i = 8 * k + 8 * (i - k) from by omega, Nat.pow_add, ← Nat.div_div_eq_div_mul, Nat.add_mul_div_left _ _ (Nat.pow_pos (by decide)), Nat.div_eq_of_lt h, Nat.zero_add]
      have h3 : i - k < b.length := by omega
      simp only [Option.map_some, e, byB_val h3]
      simp [List.getD_eq_getElem?_getD, h3]
    · rw [List.getElem?_eq_none (by rw [leB_length]; exact h2), List.getElem?_eq_none (by omega)]
theorem val_app (a : List UInt8) (x : UInt8) : val (a ++ [x]) = val a + 2 ^ (8 * a.length) * x.toNat := by
  induction a with
  | nil => simp [val]
  | cons b r ih =>
    simp only [List.cons_append, val, ih, List.length_cons, p256]
    rw [Nat.mul_add, Nat.mul_assoc]
    omega
theorem val_leB : ∀ (k V : Nat), val (leB V k) = V % 2 ^ (8 * k)
  | 0, V => by simp [leB, val, Nat.mod_one]
  | k + 1, V => by
    rw [leB_succ, val_app, val_leB k V, leB_length, byB_toNat, p256, Nat.mul_comm 256, Nat.mod_mul]
omit [W0] in
/-- The lowest bits of a number, turned round. -/
def mir (v : Nat) : Nat → Nat
  | 0 => 0
  | i + 1 => 2 * mir v i + v / 2 ^ i % 2
theorem mir_lt (v : Nat) : ∀ i, mir v i < 2 ^ i
  | 0 => by simp [mir]
  | i + 1 => by
    have := mir_lt v i
    simp only [mir]
    omega
end Go.Vx
