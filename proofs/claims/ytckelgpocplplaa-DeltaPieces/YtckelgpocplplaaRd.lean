/- Pure facts on deltas: numbers in groups of seven bits, the fields of a copy, and what the instructions make. It proves no statement by itself. No conditions. -/
import Derived.KernelRfl
set_option linter.all false
namespace Go.Dl
/-- A number in groups of seven bits. -/
def num (n : Nat) : List UInt8 := if h : n ≤ 127 then [UInt8.ofNat n] else UInt8.ofNat (n % 128 + 128) :: num (n / 128)
termination_by n
decreasing_by omega
/-- A number read: its value, how many bytes it took, what is wrong. -/
def rg : Nat → List UInt8 → Nat × Nat × Nat
  | 0, _ => (0, 0, 3)
  | _ + 1, [] => (0, 0, 4)
  | k + 1, c :: b => if c.toNat < 128 then (c.toNat, 1, 0) else
      if (rg k b).2.2 = 0 then (c.toNat % 128 + 128 * (rg k b).1, (rg k b).2.1 + 1, 0) else (0, 0, (rg k b).2.2)
/-- A number as a delta's head bears it. -/
def rn (b : List UInt8) : Nat × Nat × Nat := if (rg 5 b).2.2 = 0 ∧ 2147483647 < (rg 5 b).1 then (0, 0, 3) else rg 5 b
theorem num_len (n : Nat) : 1 ≤ (num n).length := by
  rw [num]; split <;> simp
theorem rg_num : ∀ (k n : Nat) (b : List UInt8), n < 128 ^ k → rg k (num n ++ b) = (n, (num n).length, 0) ∨ k = 0
  | 0, n, b, h => .inr rfl
  | k + 1, n, b, h => by
    left
    rw [num]
    by_cases h1 : n ≤ 127
    · have h2 : (UInt8.ofNat n).toNat = n := by simp; omega
      simp only [h1, dite_true, List.cons_append, List.nil_append, rg, h2]
      rw [if_pos (by omega)]; rfl
    · have h2 : (UInt8.ofNat (n % 128 + 128)).toNat = n % 128 + 128 := by simp; omega
      have h3 : n / 128 < 128 ^ k := by rw [Nat.pow_succ] at h; omega
      have h4 : k ≠ 0 := by rintro rfl; simp at h3; omega
      have ih := (rg_num k (n / 128) b h3).resolve_right h4
      simp only [h1, dite_false, List.cons_append, rg, h2, ih]
      rw [if_neg (by omega), if_pos trivial, List.length_cons]
      congr 1; omega
theorem rn_num {n : Nat} (b : List UInt8) (h : n ≤ 2147483647) : rn (num n ++ b) = (n, (num n).length, 0) := by
  have h1 := (rg_num 5 n b (by omega)).resolve_right (by decide)
  rw [rn, h1, if_neg (by simp; omega)]
theorem rg_le : ∀ (k : Nat) (b : List UInt8), (rg k b).2.1 ≤ b.length
  | 0, b => by simp [rg]
  | k + 1, [] => by simp [rg]
  | k + 1, c :: b => by
    have := rg_le k b
    rw [rg]; split
    · simp
    · split <;> simp <;> omega
theorem rn_le (b : List UInt8) : (rn b).2.1 ≤ b.length := by
  have := rg_le 5 b
  rw [rn]; split
  · simp
  · exact this
/-- A copy's field: the bytes that its bits name. -/
def fd : Nat → Nat → List UInt8 → Option (Nat × List UInt8)
  | _, 0, d => some (0, d)
  | b, n + 1, d => if b % 2 = 0 then (fd (b / 2) n d).map (fun x => (256 * x.1, x.2)) else
      match d with
      | [] => none
      | c :: d => (fd (b / 2) n d).map (fun x => (c.toNat + 256 * x.1, x.2))
theorem fd_even {b : Nat} (n : Nat) (d : List UInt8) (h : b % 2 = 0) : fd b (n + 1) d = (fd (b / 2) n d).map (fun x => (256 * x.1, x.2)) := by
  exact if_pos h
theorem fd_nil {b : Nat} (n : Nat) (h : ¬ b % 2 = 0) : fd b (n + 1) [] = none := by
  exact if_neg h
theorem fd_cons {b : Nat} (n : Nat) (c : UInt8) (d : List UInt8) (h : ¬ b % 2 = 0) : fd b (n + 1) (c :: d) = (fd (b / 2) n d).map (fun x => (c.toNat + 256 * x.1, x.2)) := by
  exact if_neg h
/-- What the instructions make, and what is wrong. -/
def ap (base : List UInt8) (to : Nat) : Nat → List UInt8 → List UInt8 → List UInt8 × Nat
  | 0, _, out => if out.length < to then ([], 3) else (out, 0)
  | _ + 1, [], out => if out.length < to then ([], 3) else (out, 0)
  | k + 1, c :: d, out =>
    if c.toNat = 0 then ([], 3)
    else if c.toNat < 128 then
      if to - out.length < c.toNat then ([], 3)
      else if d.length < c.toNat then ([], 4)
      else ap base to k (d.drop c.toNat) (out ++ d.take c.toNat)
    else match fd (c.toNat % 16) 4 d with
      | none => ([], 4)
      | some x => match fd (c.toNat / 16 % 8) 3 x.2 with
        | none => ([], 4)
        | some y =>
          if base.length < x.1 ∨ base.length - x.1 < (if y.1 = 0 then 65536 else y.1) ∨ to - out.length < (if y.1 = 0 then 65536 else y.1) then ([], 3)
          else ap base to k y.2 (out ++ (base.drop x.1).take (if y.1 = 0 then 65536 else y.1))
theorem fd_le : ∀ (n b : Nat) (d : List UInt8) (x : Nat × List UInt8), fd b n d = some x → x.2.length ≤ d.length ∧ x.1 < 256 ^ n
  | 0, b, d, x, h => by simp [fd] at h; subst h; simp
  | n + 1, b, d, x, h => by
    by_cases hb : b % 2 = 0
    · rw [fd_even n d hb] at h
      cases hy : fd (b / 2) n d with
      | none => rw [hy] at h; simp at h
      | some y =>
        rw [hy] at h; simp at h; subst h
        have := fd_le n _ d y hy
        rw [Nat.pow_succ]; exact ⟨this.1, by have := this.2; simp only; omega⟩
    · cases d with
      | nil => rw [fd_nil n hb] at h; simp at h
      | cons c d =>
        rw [fd_cons n c d hb] at h
        cases hy : fd (b / 2) n d with
        | none => rw [hy] at h; simp at h
        | some y =>
          rw [hy] at h; simp at h; subst h
          have := fd_le n _ d y hy
          have hc := c.toNat_lt
          rw [Nat.pow_succ]; exact ⟨by simp; omega, by have := this.2; simp only; omega⟩
/-- More rounds than bytes change nothing. -/
theorem ap_fuel (base : List UInt8) (to : Nat) : ∀ (k j : Nat) (d out : List UInt8), d.length ≤ k → d.length ≤ j → ap base to k d out = ap base to j d out
  | 0, 0, d, out, _, _ => rfl
  | 0, j + 1, d, out, h, _ => by
    cases d with
    | nil => rfl
    | cons c d => simp at h
  | k + 1, 0, d, out, _, h => by
    cases d with
    | nil => rfl
    | cons c d => simp at h
  | k + 1, j + 1, [], out, _, _ => rfl
  | k + 1, j + 1, c :: d, out, hk, hj => by
    simp only [List.length_cons] at hk hj
    rw [ap, ap]
    split
    · rfl
    · split
      · split
        · rfl
        · split
          · rfl
          · exact ap_fuel base to k j _ _ (by simp; omega) (by simp; omega)
      · cases h1 : fd (c.toNat % 16) 4 d with
        | none => rfl
        | some x =>
          simp only
          have l1 := (fd_le _ _ _ _ h1).1
          cases h2 : fd (c.toNat / 16 % 8) 3 x.2 with
          | none => rfl
          | some y =>
            simp only
            have l2 := (fd_le _ _ _ _ h2).1
            generalize (if y.1 = 0 then 65536 else y.1) = w
            rw [ap_fuel base to k j y.2 _ (by omega) (by omega)]
/-- A delta's head. -/
def hdF (d : List UInt8) : Nat := if (rn d).2.2 = 0 ∧ (rn (d.drop (rn d).2.1)).2.2 = 0 then (rn d).1 else 0
def hdT (d : List UInt8) : Nat := if (rn d).2.2 = 0 ∧ (rn (d.drop (rn d).2.1)).2.2 = 0 then (rn (d.drop (rn d).2.1)).1 else 0
def hdU (d : List UInt8) : Nat := if (rn d).2.2 = 0 ∧ (rn (d.drop (rn d).2.1)).2.2 = 0 then (rn d).2.1 + (rn (d.drop (rn d).2.1)).2.1 else 0
def hdE (d : List UInt8) : Nat := if (rn d).2.2 = 0 then (rn (d.drop (rn d).2.1)).2.2 else (rn d).2.2
/-- The document's answer: the result and what is wrong. -/
def apD (base d : List UInt8) (most : Nat) : List UInt8 × Nat :=
  if hdE d ≠ 0 then ([], hdE d) else if hdF d ≠ base.length then ([], 3) else if most < hdT d then ([], 5)
  else ap base (hdT d) (d.drop (hdU d)).length (d.drop (hdU d)) []
/-- The bytes that stand for `out`, whatever stands around them. -/
def Mk (base D out : List UInt8) : Prop := ∀ (to : Nat) (pre rest : List UInt8), pre.length + out.length ≤ to →
  ap base to (D ++ rest).length (D ++ rest) pre = ap base to rest.length rest (pre ++ out)
theorem Mk.nil (base : List UInt8) : Mk base [] [] := fun to pre rest h => by simp
theorem Mk.app {base D out E more : List UInt8} (h : Mk base D out) (g : Mk base E more) : Mk base (D ++ E) (out ++ more) := fun to pre rest hl => by
  have h1 := h to pre (E ++ rest) (by simp at hl; omega)
  have h2 := g to (pre ++ out) rest (by simp at hl ⊢; omega)
  rw [List.append_assoc, h1, h2, List.append_assoc]
theorem Mk.ins {base xs : List UInt8} (h0 : xs ≠ []) (h : xs.length ≤ 127) : Mk base (UInt8.ofNat xs.length :: xs) xs := fun to pre rest hl => by
  have h1 : (UInt8.ofNat xs.length).toNat = xs.length := by simp; omega
  have h2 : xs.length ≠ 0 := by simp [h0]
  simp only [List.cons_append, List.length_cons, ap, h1]
  rw [if_neg h2, if_pos (by omega), if_neg (by omega), if_neg (by simp), List.drop_left, List.take_left]
  exact ap_fuel _ _ _ _ _ _ (by simp) (by omega)
/-- The bytes of v that bits b name. -/
def enc : Nat → Nat → Nat → List UInt8
  | _, 0, _ => []
  | b, n + 1, v => if b % 2 = 0 then enc (b / 2) n (v / 256) else UInt8.ofNat (v % 256) :: enc (b / 2) n (v / 256)
/-- The bytes of v that are not named are nought. -/
def Fit : Nat → Nat → Nat → Prop
  | _, 0, v => v = 0
  | b, n + 1, v => (b % 2 = 0 → v % 256 = 0) ∧ Fit (b / 2) n (v / 256)
theorem fd_enc : ∀ (n b v : Nat) (r : List UInt8), Fit b n v → fd b n (enc b n v ++ r) = some (v, r)
  | 0, b, v, r, h => by simp [Fit] at h; simp [fd, enc, h]
  | n + 1, b, v, r, h => by
    have ih := fd_enc n (b / 2) (v / 256) r h.2
    by_cases hb : b % 2 = 0
    · rw [fd_even n _ hb, enc, if_pos hb, ih]
      have := h.1 hb
      simp only [Option.map_some]
      congr 2; omega
    · have h2 : (UInt8.ofNat (v % 256)).toNat = v % 256 := by simp
      rw [enc, if_neg hb, List.cons_append, fd_cons n _ _ hb, ih]
      simp only [Option.map_some, h2]
      congr 2; omega
theorem Mk.cp {base : List UInt8} (b c v n w : Nat) (hb : b < 16) (hc : c < 8) (hv : Fit b 4 v) (hn : Fit c 3 n) (hw : w = if n = 0 then 65536 else n) (hl : v + w ≤ base.length) :
    Mk base (UInt8.ofNat (128 + b + 16 * c) :: (enc b 4 v ++ enc c 3 n)) ((base.drop v).take w) := fun to pre rest hp => by
  have h1 : (UInt8.ofNat (128 + b + 16 * c)).toNat = 128 + b + 16 * c := by simp; omega
  have e1 : (128 + b + 16 * c) % 16 = b := by omega
  have e2 : (128 + b + 16 * c) / 16 % 8 = c := by omega
  have hlen : ((base.drop v).take w).length = w := by simp; omega
  rw [hlen] at hp
  simp only [List.cons_append, List.length_cons, ap, h1, e1, e2, List.append_assoc]
  rw [if_neg (by omega), if_neg (by omega), fd_enc 4 b v _ hv]
  simp only
  rw [fd_enc 3 c n _ hn]
  simp only [← hw]
  rw [if_neg (by omega)]
  exact ap_fuel _ _ _ _ _ _ (by simp; omega) (by omega)
/-- A delta whose instructions make the target makes it. -/
theorem apD_mk {base t D : List UInt8} (hb : base.length ≤ 2147483647) (ht : t.length ≤ 2147483647) (h : Mk base D t) {most : Nat} (hm : t.length ≤ most) :
    apD base (num base.length ++ (num t.length ++ D)) most = (t, 0) := by
  have h1 := rn_num (n := base.length) (num t.length ++ D) hb
  have h2 := rn_num (n := t.length) D ht
  have d1 : (num base.length ++ (num t.length ++ D)).drop (num base.length).length = num t.length ++ D := List.drop_left
  have d2 : (num base.length ++ (num t.length ++ D)).drop ((num base.length).length + (num t.length).length) = D := by
    rw [← List.drop_drop, d1]; exact List.drop_left
  have h3 := h t.length [] [] (by simp)
  simp only [List.append_nil, List.nil_append, List.length_nil] at h3
  simp only [apD, hdE, hdF, hdT, hdU, h1, d1, h2, d2, if_true, and_self]
  simp only [ne_eq, not_true_eq_false, if_false]
  rw [if_neg (by omega), h3, ap, if_neg (by omega)]
end Go.Dl
