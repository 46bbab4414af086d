/- A CRC, bit by bit: bits that are turned within 32 in a row change it. It proves no statement by itself. No conditions. -/
import Derived.Test.YtehjdmpnmbikfaaDoorUj
namespace Go.Proofs.YtehjdmpnmbikfaaDoor
open Go Go.Vx
variable [W0]
set_option maxRecDepth 4000
set_option linter.all false

/- bits, one by one -/
omit [W0] in
def pol (b : Bool) : BitVec 32 := if b then 3988292384#32 else 0#32
theorem pol_xor (a b : Bool) : pol (a ^^ b) = pol a ^^^ pol b := by cases a <;> cases b <;> decide
theorem stp_xor (x y : BitVec 32) : stp (x ^^^ y) = stp x ^^^ stp y := by
  rw [stp_eq, stp_eq, stp_eq, BitVec.getLsbD_xor, BitVec.ushiftRight_xor_distrib]
  show x >>> 1 ^^^ y >>> 1 ^^^ pol (x.getLsbD 0 ^^ y.getLsbD 0) = x >>> 1 ^^^ pol (x.getLsbD 0) ^^^ (y >>> 1 ^^^ pol (y.getLsbD 0))
  rw [pol_xor]
  ac_rfl
theorem stp_zero : stp 0#32 = 0#32 := by decide
theorem stpN_xor (x y : BitVec 32) : ∀ k, stpN (x ^^^ y) k = stpN x k ^^^ stpN y k
  | 0 => rfl
  | k + 1 => by simp only [stpN]; rw [stpN_xor x y k, stp_xor]
theorem stpN_zero : ∀ k, stpN 0#32 k = 0#32
  | 0 => rfl
  | k + 1 => by simp only [stpN]; rw [stpN_zero k, stp_zero]
theorem stp_ne {x : BitVec 32} (h : x ≠ 0#32) : stp x ≠ 0#32 := by
  intro h0
  rw [stp_eq] at h0
  cases hb : x.getLsbD 0 with
  | true =>
    have : (x >>> 1 ^^^ 3988292384#32).getLsbD 31 = false := by
      rw [hb] at h0
      simp only [if_true] at h0
      rw [h0]; rfl
    rw [BitVec.getLsbD_xor, BitVec.getLsbD_ushiftRight] at this
    have e1 : x.getLsbD (1 + 31) = false := BitVec.getLsbD_of_ge x 32 (by omega)
    have e2 : (3988292384#32).getLsbD 31 = true := by decide
    rw [e1, e2] at this
    simp at this
  | false =>
    rw [hb] at h0
    simp at h0
    refine h (BitVec.eq_of_getLsbD_eq fun i hi => ?_)
    rw [BitVec.getLsbD_zero]
    cases i with
    | zero => exact hb
    | succ j =>
      have := congrArg (fun z : BitVec 32 => z.getLsbD j) h0
      simp only [BitVec.getLsbD_ushiftRight, BitVec.getLsbD_zero] at this
      rw [Nat.add_comm] at this
      exact this
theorem stpN_ne {x : BitVec 32} (h : x ≠ 0#32) : ∀ k, stpN x k ≠ 0#32
  | 0 => h
  | k + 1 => stp_ne (stpN_ne h k)
omit [W0] in
def bw (b : Bool) : BitVec 32 := if b then 1#32 else 0#32
theorem stpN_one : ∀ j, j < 32 → stpN (1#32 <<< j) j = 1#32 := by
  have : ∀ j : Fin 32, stpN (1#32 <<< j.val) j.val = 1#32 := by decide +kernel
  exact fun j h => this ⟨j, h⟩
omit [W0] in
/-- Bits taken in, one by one. -/
def run (f : Nat → Bool) (d : BitVec 32) : Nat → BitVec 32
  | 0 => d
  | n + 1 => stp (run f d n ^^^ bw (f n))
theorem run_add (f : Nat → Bool) (d : BitVec 32) (a : Nat) : ∀ b, run f d (a + b) = run (fun i => f (a + i)) (run f d a) b
  | 0 => rfl
  | b + 1 => by
    show stp (run f d (a + b) ^^^ bw (f (a + b))) = _
    rw [run_add f d a b]
    rfl
theorem run_congr {f g : Nat → Bool} (d : BitVec 32) : ∀ n, (∀ i, i < n → f i = g i) → run f d n = run g d n
  | 0, _ => rfl
  | n + 1, h => by
    simp only [run]
    rw [run_congr d n (fun i hi => h i (by omega)), h n (by omega)]
theorem run_false (d : BitVec 32) : ∀ n, run (fun _ => false) d n = stpN d n
  | 0 => rfl
  | n + 1 => by simp only [run, stpN]; rw [run_false d n]; simp [bw]
theorem run_xor (f g : Nat → Bool) (r d : BitVec 32) : ∀ n, run (fun i => f i ^^ g i) (r ^^^ d) n = run f r n ^^^ run g d n
  | 0 => rfl
  | n + 1 => by
    simp only [run]
    rw [run_xor f g r d n, ← stp_xor]
    congr 1
    have : bw (f n ^^ g n) = bw (f n) ^^^ bw (g n) := by cases f n <;> cases g n <;> decide
    rw [this]
    ac_rfl
omit [W0] in
def lowW (w : BitVec 32) (j : Nat) : BitVec 32 := BitVec.ofNat 32 (w.toNat % 2 ^ j)
theorem lowW_bit (w : BitVec 32) (j i : Nat) (hi : i < 32) : (lowW w j).getLsbD i = (decide (i < j) && w.getLsbD i) := by
  show (BitVec.ofNat 32 (w.toNat % 2 ^ j)).toNat.testBit i = (decide (i < j) && w.toNat.testBit i)
  rw [BitVec.toNat_ofNat, Nat.testBit_mod_two_pow, Nat.testBit_mod_two_pow]
  simp [hi]
theorem lowW_succ (w : BitVec 32) (j : Nat) (hj : j < 32) : lowW w (j + 1) = lowW w j ^^^ (bw (w.getLsbD j) <<< j) := by
  refine BitVec.eq_of_getLsbD_eq fun i hi => ?_
  rw [BitVec.getLsbD_xor, lowW_bit _ _ _ hi, lowW_bit _ _ _ hi, BitVec.getLsbD_shiftLeft]
  simp only [hi, decide_true, Bool.true_and]
  rcases Nat.lt_trichotomy i j with h | h | h
  · simp [h, show i < j + 1 by omega]
  · subst h
    cases hb : w.getLsbD i <;> simp [bw]
  · have h1 : ¬ i < j := by omega
    have h2 : ¬ i < j + 1 := by omega
    cases hb : w.getLsbD j <;> simp [bw, h1, h2]
    omega
theorem run_word (w d : BitVec 32) : ∀ j, j ≤ 32 → run (fun i => w.getLsbD i) d j = stpN (d ^^^ lowW w j) j
  | 0, _ => by simp [run, stpN, lowW, Nat.mod_one]
  | j + 1, h => by
    simp only [run, stpN]
    rw [run_word w d j (by omega), lowW_succ w j (by omega), ← BitVec.xor_assoc, stpN_xor (d ^^^ lowW w j)]
    congr 2
    cases hb : w.getLsbD j
    · simp [bw, stpN_zero]
    · simp only [bw, if_true]
      rw [stpN_one j (by omega)]
theorem lowW_all (w : BitVec 32) : lowW w 32 = w := by
  apply BitVec.eq_of_toNat_eq
  simp only [lowW, BitVec.toNat_ofNat]
  have := w.isLt
  omega
theorem lowW_byte (x : UInt8) : lowW (b2w x) 8 = b2w x := by
  apply BitVec.eq_of_toNat_eq
  have := x.toNat_lt
  simp only [lowW, b2w, BitVec.toNat_ofNat]
  omega
omit [W0] in
/-- The bits of a text, the lowest of a byte first. -/
def bitsOf (t : List UInt8) (i : Nat) : Bool := (b2w (t.getD (i / 8) 0)).getLsbD (i % 8)
theorem run_text : ∀ (t : List UInt8) (r : BitVec 32), run (bitsOf t) r (8 * t.length) = t.foldl (fun r x => stpN (r ^^^ b2w x) 8) r
  | [], r => rfl
  | x :: t, r => by
    rw [show 8 * (x :: t).length = 8 + 8 * t.length from by simp; omega, run_add]
    have e1 : run (bitsOf (x :: t)) r 8 = stpN (r ^^^ b2w x) 8 := by
      rw [run_congr (g := fun i => (b2w x).getLsbD i) r 8 (fun i hi => by
        simp only [bitsOf, show i / 8 = 0 by omega, show i % 8 = i by omega]
        rfl), run_word _ _ 8 (by omega), lowW_byte]
    have e2 : (fun i => bitsOf (x :: t) (8 + i)) = bitsOf t := by
      funext i
      simp only [bitsOf, show (8 + i) / 8 = i / 8 + 1 by omega, show (8 + i) % 8 = i % 8 by omega]
      rfl
    rw [e1, e2, run_text t]
    rfl
omit [W0] in
/-- The bits that a burst turns. -/
def burstF (w : BitVec 32) (at_ k : Nat) (i : Nat) : Bool := decide (at_ ≤ i) && decide (i < at_ + k) && w.getLsbD (i - at_)
theorem run_burst (w : BitVec 32) (at_ n : Nat) (hw : w ≠ 0#32) (hn : at_ + 32 ≤ n) : run (burstF w at_ 32) 0#32 n ≠ 0#32 := by
  obtain ⟨m, rfl⟩ : ∃ m, n = at_ + (32 + m) := ⟨n - at_ - 32, by omega⟩
  rw [run_add, run_congr (g := fun _ => false) 0#32 at_ (fun i hi => by simp [burstF] <;> omega), run_false, stpN_zero, run_add]
  rw [run_congr (f := fun i => burstF w at_ 32 (at_ + i)) (g := fun i => w.getLsbD i) 0#32 32 (fun i hi => by simp [burstF, hi]), run_word _ _ 32 (by omega), lowW_all]
  rw [run_congr (g := fun _ => false) _ m (fun i _ => by simp [burstF] <;> omega), run_false]
  simp only [BitVec.zero_xor]
  exact stpN_ne (stpN_ne hw 32) m

theorem crcN_run (r : BitVec 32) (t : List UInt8) : crcN r t = run (bitsOf t) r (8 * t.length) := by
  rw [run_text]
  have e : (fun (r : BitVec 32) (x : UInt8) => stpN (r ^^^ b2w x) 8) = crcByte := by
    funext r x
    rw [stp8_eq]; rfl
  rw [e]; rfl
theorem bit_byte (x : UInt8) (k : Nat) (hk : k < 8) : (b2w x).getLsbD k = x.toNat.testBit k := by
  show (BitVec.ofNat 32 x.toNat).toNat.testBit k = _
  have := x.toNat_lt
  rw [BitVec.toNat_ofNat, Nat.mod_eq_of_lt (by omega)]
theorem bits_flip (t : List UInt8) (p i : Nat) (hp : p < 8 * t.length) : bitsOf (t.set (p / 8) (t.getD (p / 8) 0 ^^^ UInt8.ofNat (2 ^ (p % 8)))) i = (bitsOf t i ^^ decide (i = p)) := by
  simp only [bitsOf]
  rw [bit_byte _ _ (by omega), bit_byte _ _ (by omega)]
  by_cases hq : i / 8 = p / 8
  · have e1 : (t.set (p / 8) (t.getD (p / 8) 0 ^^^ UInt8.ofNat (2 ^ (p % 8)))).getD (i / 8) 0 = t.getD (p / 8) 0 ^^^ UInt8.ofNat (2 ^ (p % 8)) := by
      rw [hq]
      have : p / 8 < t.length := by omega
      simp [List.getD, this]
    rw [e1, hq, UInt8.toNat_xor, Nat.testBit_xor]
    congr 1
    have hlt : 2 ^ (p % 8) < 256 := by
      have : 2 ^ (p % 8) ≤ 2 ^ 7 := Nat.pow_le_pow_right (by decide) (by omega)
      omega
    rw [UInt8.toNat_ofNat', Nat.mod_eq_of_lt hlt, Nat.testBit_two_pow]
    rw [Bool.eq_iff_iff]
    simp only [decide_eq_true_eq]
    omega
  · have e1 : (t.set (p / 8) (t.getD (p / 8) 0 ^^^ UInt8.ofNat (2 ^ (p % 8)))).getD (i / 8) 0 = t.getD (i / 8) 0 := by
      simp only [List.getD, List.getElem?_set_ne (Ne.symm hq)]
    have e2 : decide (i = p) = false := by
      rw [decide_eq_false_iff_not]
      intro h; subst h; exact hq rfl
    rw [e1, e2, Bool.xor_false]
theorem burstF_succ (w : BitVec 32) (a k i : Nat) : burstF w a (k + 1) i = (burstF w a k i ^^ (decide (i = a + k) && w.getLsbD k)) := by
  simp only [burstF]
  rcases Nat.lt_trichotomy i (a + k) with h | h | h
  · simp [show i < a + (k + 1) by omega, h, show ¬ i = a + k by omega]
  · subst h
    simp
  · simp [show ¬ i < a + (k + 1) by omega, show ¬ i < a + k by omega, show ¬ i = a + k by omega]
/-- What a burst comes to. -/
theorem burst_crc (t c : List UInt8) (w r : BitVec 32) (a : Nat) (hw : w ≠ 0#32) (hl : c.length = t.length) (ha : a + 32 ≤ 8 * t.length) (hc : ∀ i, i < 8 * t.length → bitsOf c i = (bitsOf t i ^^ burstF w a 32 i)) :
    crcN r t ≠ crcN r c := by
  intro h
  rw [crcN_run, crcN_run, hl, run_congr (f := bitsOf c) _ _ hc] at h
  have h2 := run_xor (bitsOf t) (burstF w a 32) r 0#32 (8 * t.length)
  rw [BitVec.xor_zero] at h2
  rw [h2] at h
  refine run_burst w a (8 * t.length) hw ha ?_
  have h3 : run (bitsOf t) r (8 * t.length) ^^^ run (bitsOf t) r (8 * t.length) = run (bitsOf t) r (8 * t.length) ^^^ (run (bitsOf t) r (8 * t.length) ^^^ run (burstF w a 32) 0#32 (8 * t.length)) := by rw [← h]
  rw [BitVec.xor_self, ← BitVec.xor_assoc, BitVec.xor_self, BitVec.zero_xor] at h3
  exact h3.symm
end Go.Proofs.YtehjdmpnmbikfaaDoor
