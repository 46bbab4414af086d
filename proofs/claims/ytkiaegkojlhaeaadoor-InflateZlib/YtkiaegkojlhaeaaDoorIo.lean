/- What the document says of layer 6, as functions: bits, bytes, symbols, blocks. It proves no statement by itself. No conditions. -/
import Derived.Test.YtkiaegkojlhaeaaDoorYj
import Derived.Test.YtkiaegkojlhaeaaDoorWd
import Derived.Test.YtkiaegkojlhaeaaDoorVk
namespace Go.If
open Go.Vx Go.Hf
set_option linter.all false
/-- Where the reading stands: the bit, what was made, the first error. -/
structure S6 where
  t : Nat
  out : List UInt8
  e : Nat
/-- A later error changes nothing. -/
def fl (s : S6) (k : Nat) : S6 := if s.e = 0 then ⟨s.t, s.out, k⟩ else s
/-- The next bits. -/
def tk (d : List UInt8) (s : S6) (n : Nat) : S6 := if s.t + n ≤ 8 * d.length then ⟨s.t + n, s.out, s.e⟩ else fl s 4
def tv [W0] (d : List UInt8) (s : S6) (n : Nat) : Nat := if s.t + n ≤ 8 * d.length then val d / 2 ^ s.t % 2 ^ n else 0
/-- A byte is made. -/
def pt (most : Nat) (s : S6) (c : UInt8) : S6 := if most ≤ s.out.length then fl s 5 else ⟨s.t, s.out ++ [c], s.e⟩
/-- The next symbol. -/
def sy [W0] (d : List UInt8) (s : S6) (l : List Nat) : S6 := if s.e = 0 then fl ⟨s.t + (rdS l (val d) s.t (8 * d.length) 16 0).2.2, s.out, s.e⟩ (rdS l (val d) s.t (8 * d.length) 16 0).2.1 else s
def sv [W0] (d : List UInt8) (s : S6) (l : List Nat) : Nat := if s.e = 0 then (rdS l (val d) s.t (8 * d.length) 16 0).1 else 0
theorem fl_zero (s : S6) : fl s 0 = s := by
  unfold fl
  split
  · rename_i h; rw [← h]
  · rfl
theorem fl_t (s : S6) (k : Nat) : (fl s k).t = s.t := by unfold fl; split <;> rfl
theorem fl_out (s : S6) (k : Nat) : (fl s k).out = s.out := by unfold fl; split <;> rfl
theorem fl_e (s : S6) (k : Nat) : (fl s k).e = if s.e = 0 then k else s.e := by unfold fl; split <;> rfl
theorem tk_out (d : List UInt8) (s : S6) (n : Nat) : (tk d s n).out = s.out := by
  unfold tk
  split
  · rfl
  · exact fl_out _ _
end Go.If
namespace Go.Proofs.YtkiaegkojlhaeaaDoor
open Go Go.Vx Go.Hf Go.If
variable [W0]
set_option maxRecDepth 4000
set_option linter.all false
theorem tv_lt (d : List UInt8) (s : S6) (n : Nat) : tv d s n < 2 ^ n := by
  unfold tv
  split
  · exact Nat.mod_lt _ (Nat.pow_pos (by decide))
  · exact Nat.pow_pos (by decide)
end Go.Proofs.YtkiaegkojlhaeaaDoor
namespace Go.If
open Go.Vx Go.Hf
set_option linter.all false
/-- The bytes of a stored block. -/
def stL [W0] (d : List UInt8) (most : Nat) : Nat → S6 → S6
  | 0, s => s
  | k + 1, s => if s.e = 0 then stL d most k (if (tk d s 8).e = 0 then pt most (tk d s 8) (UInt8.ofNat (tv d s 8)) else tk d s 8) else s
/-- A stored block. -/
def stS [W0] (d : List UInt8) (most : Nat) (s : S6) : S6 :=
  let s0 : S6 := ⟨8 * ((s.t + 7) / 8), s.out, s.e⟩
  let s1 := tk d s0 16
  let s2 := tk d s1 16
  stL d most (tv d s0 16) (if tv d s0 16 + tv d s1 16 = 65535 then s2 else fl s2 3)
theorem and_compl {n m : Nat} (h : n + m = 65535) : n &&& m = 0 := by
  have e : m = 2 ^ 16 - (n + 1) := by omega
  apply Nat.eq_of_testBit_eq
  intro i
  rw [Nat.testBit_and, e, Nat.testBit_two_pow_sub_succ (by omega), Nat.zero_testBit]
  rcases Nat.testBit n i with _ | _ <;> simp
theorem pt_t (most : Nat) (s : S6) (c : UInt8) : (pt most s c).t = s.t := by
  unfold pt
  split
  · exact fl_t _ _
  · rfl
end Go.If
namespace Go.Proofs.YtkiaegkojlhaeaaDoor
open Go Go.Vx Go.Hf Go.If
variable [W0]
set_option maxRecDepth 4000
set_option linter.all false
theorem wrap_i64s {n : Nat} (h : n < 65536) : IntKind.i64.wrap (n : Int) = (n : Int) := by
  simp only [IntKind.wrap, IntKind.bits, IntKind.signed]
  simp
  omega
theorem bit_and16 {a b : Nat} (ha : a < 65536) (hb : b < 65536) : bitI .and .i64 (a : Int) (b : Int) = some ((a &&& b : Nat) : Int) := by
  have h1 : a &&& b ≤ a := Nat.and_le_left
  have e : ((BitVec.ofInt 64 (a : Int) &&& BitVec.ofInt 64 (b : Int)).toNat) = a &&& b := by
    rw [BitVec.toNat_and, BitVec.ofInt_natCast, BitVec.ofInt_natCast, BitVec.toNat_ofNat, BitVec.toNat_ofNat, Nat.mod_eq_of_lt (by omega), Nat.mod_eq_of_lt (by omega)]
  show some (IntKind.i64.wrap (((BitVec.ofInt 64 (a : Int) &&& BitVec.ofInt 64 (b : Int)).toNat : Nat) : Int)) = _
  rw [e]
  congr 1
  exact wrap_i64s (by omega)
theorem byte_of {n : Nat} (h : n < 256) : ((UInt8.ofNat n).toNat : Int) = (n : Int) := by
  rw [UInt8.toNat_ofNat']
  omega
end Go.Proofs.YtkiaegkojlhaeaaDoor
namespace Go.If
open Go.Vx Go.Hf Go.Pm
set_option linter.all false
/-- The bits behind a symbol. -/
def exB (s g st : Nat) : Nat := if s < st then 0 else (s - st) / g + 1
/-- Where a symbol's lengths or distances begin. -/
def baB (first g st : Nat) : Nat → Nat
  | 0 => first
  | s + 1 => baB first g st s + 2 ^ exB s g st
def fxN (i : Nat) : Nat := if 256 ≤ i ∧ i < 280 then 7 else if 144 ≤ i ∧ i < 256 then 9 else 8
/-- The fixed codes' lengths. -/
def fxL : List Nat := (List.range 288).map fxN
def fxD : List Nat := List.replicate 32 5
/-- One distance of length 1, or none. -/
def sgl (l : List Nat) : Bool := l.all (fun x => decide (x ≤ 1)) && decide (l.sum < 2)
end Go.If
namespace Go.If
open Go.Vx Go.Hf
set_option linter.all false
/-- A match's bytes, one by one. -/
def cpL (most far : Nat) : Nat → S6 → S6
  | 0, s => s
  | k + 1, s => if s.e = 0 then cpL most far k (pt most s (s.out.getD (s.out.length - far) 0)) else s
/-- The base and the further bits of a length's symbol. -/
def lnB (s : Nat) : Nat × Nat := if s = 285 then (258, 0) else (baB 3 4 8 (s - 257), exB (s - 257) 4 8)
/-- What stands behind the distance's symbol. -/
def mtD [W0] (d : List UInt8) (most n t : Nat) (s : S6) : S6 :=
  cpL most (baB 1 2 4 t + tv d s (exB t 2 4)) n (if (tk d s (exB t 2 4)).e = 0 ∧ (tk d s (exB t 2 4)).out.length < baB 1 2 4 t + tv d s (exB t 2 4) then fl (tk d s (exB t 2 4)) 3 else tk d s (exB t 2 4))
/-- A match. -/
def mtS [W0] (d : List UInt8) (most k : Nat) (dl : List Nat) (s : S6) : S6 :=
  if 285 < k then fl s 3
  else if (sy d (tk d s (lnB k).2) dl).e ≠ 0 then sy d (tk d s (lnB k).2) dl
  else if 29 < sv d (tk d s (lnB k).2) dl then fl (sy d (tk d s (lnB k).2) dl) 3
  else mtD d most ((lnB k).1 + tv d s (lnB k).2) (sv d (tk d s (lnB k).2) dl) (sy d (tk d s (lnB k).2) dl)
theorem baB_le : ∀ t, t < 30 → baB 1 2 4 t ≤ 32768 := by decide
theorem exB_le : ∀ t, t < 30 → exB t 2 4 ≤ 13 := by decide
theorem baL_le : ∀ t, t < 30 → baB 3 4 8 t ≤ 400 := by decide
theorem exL_le : ∀ t, t < 30 → exB t 4 8 ≤ 6 := by decide
theorem baB_pos : ∀ t, 1 ≤ baB 1 2 4 t
  | 0 => Nat.le_refl _
  | t + 1 => by
    have := baB_pos t
    have h2 : 0 < 2 ^ exB t 2 4 := Nat.pow_pos (by decide)
    unfold baB
    omega
end Go.If
namespace Go.Proofs.YtkiaegkojlhaeaaDoor
open Go Go.Vx Go.Hf Go.If
variable [W0]
set_option maxRecDepth 4000
set_option linter.all false
theorem nl_icn (l : List Nat) : nl (icn l) = l := by simp [nl, icn, Function.comp_def]

theorem sy_out (d : List UInt8) (s : S6) (l : List Nat) : (sy d s l).out = s.out := by
  unfold sy
  split
  · exact fl_out _ _
  · rfl
end Go.Proofs.YtkiaegkojlhaeaaDoor
namespace Go.Hf
open Go.Vx
set_option linter.all false
theorem symAt_lt {l : List Nat} {n v i : Nat} (h : symAt l n v = some i) : i < l.length ∧ 0 < n := by
  have h1 := List.mem_of_find?_eq_some h
  have h2 := List.find?_some h
  exact ⟨List.mem_range.1 h1, (hit_iff.1 h2).2.1⟩
theorem rdS_lt (l : List Nat) (w t z : Nat) : ∀ f n, (rdS l w t z f n).1 ≤ l.length ∧ ((rdS l w t z f n).2.1 = 0 → 1 ≤ (rdS l w t z f n).2.2)
  | 0, n => ⟨Nat.zero_le _, fun h => by simp [rdS] at h⟩
  | f + 1, n => by
    have ih := rdS_lt l w t z f (n + 1)
    unfold rdS
    split
    · rename_i i h
      have := symAt_lt h
      exact ⟨by simp only; omega, fun _ => this.2⟩
    · split
      · exact ⟨Nat.zero_le _, fun h => by simp at h⟩
      · split
        · exact ⟨Nat.zero_le _, fun h => by simp at h⟩
        · exact ih
end Go.Hf
namespace Go.If
open Go.Vx Go.Hf
set_option linter.all false
/-- A block of codes. -/
def cdC [W0] (d : List UInt8) (most : Nat) (l dl : List Nat) : Nat → S6 → S6
  | 0, s => s
  | f + 1, s => if s.e ≠ 0 then s else if (sy d s l).e ≠ 0 then sy d s l else if sv d s l < 256 then cdC d most l dl f (pt most (sy d s l) (UInt8.ofNat (sv d s l)))
      else if sv d s l = 256 then sy d s l else cdC d most l dl f (mtS d most (sv d s l) dl (sy d s l))
theorem cdC_err [W0] {d : List UInt8} {most : Nat} {l dl : List Nat} {s : S6} (h : s.e ≠ 0) : ∀ f, cdC d most l dl f s = s
  | 0 => rfl
  | f + 1 => by rw [cdC, if_pos h]
theorem tk_t (d : List UInt8) (s : S6) (n : Nat) : s.t ≤ (tk d s n).t := by
  unfold tk
  split
  · exact Nat.le_add_right _ _
  · rw [fl_t]; exact Nat.le_refl _
theorem sy_t [W0] (d : List UInt8) (s : S6) (l : List Nat) : s.t ≤ (sy d s l).t := by
  unfold sy
  split
  · rw [fl_t]; exact Nat.le_add_right _ _
  · exact Nat.le_refl _
theorem sy_go [W0] {d : List UInt8} {s : S6} {l : List Nat} (h0 : s.e = 0) (h1 : (sy d s l).e = 0) : s.t + 1 ≤ (sy d s l).t := by
  unfold sy at h1 ⊢
  rw [if_pos h0] at h1 ⊢
  rw [fl_t]
  rw [fl_e, if_pos h0] at h1
  have := (rdS_lt l (val d) s.t (8 * d.length) 16 0).2 h1
  simp only
  omega
theorem sv_le [W0] (d : List UInt8) (s : S6) (l : List Nat) : sv d s l ≤ l.length := by
  unfold sv
  split
  · exact (rdS_lt l _ _ _ _ _).1
  · exact Nat.zero_le _
theorem cpL_t (most far : Nat) : ∀ n s, (cpL most far n s).t = s.t
  | 0, s => rfl
  | n + 1, s => by
    unfold cpL
    split
    · rw [cpL_t most far n]
      unfold pt
      split
      · exact fl_t _ _
      · rfl
    · rfl
theorem mtS_t [W0] (d : List UInt8) (most k : Nat) (dl : List Nat) (s : S6) : s.t ≤ (mtS d most k dl s).t := by
  unfold mtS
  have h1 := tk_t d s (lnB k).2
  have h2 := sy_t d (tk d s (lnB k).2) dl
  generalize tk d s (lnB k).2 = s1 at h1 h2 ⊢
  generalize sy d s1 dl = s2 at h2 ⊢
  split
  · rw [fl_t]; exact Nat.le_refl _
  · split
    · omega
    · split
      · rw [fl_t]; omega
      · unfold mtD
        have h3 := tk_t d s2 (exB (sv d s1 dl) 2 4)
        rw [cpL_t]
        split
        · rw [fl_t]; omega
        · omega
end Go.If
