/- Pure facts on deltas: a delta's head as the program reads it. It proves no statement by itself. No conditions. -/
import Derived.Test.YtckelgpocplplaaRd
set_option linter.all false
namespace Go.Dl
/-- How many bytes a number has that stands at the beginning; 0: it does not end. -/
def ctN : List UInt8 → Nat
  | [] => 0
  | c :: b => if c.toNat < 128 then 1 else if ctN b = 0 then 0 else ctN b + 1
/-- A number's value. -/
def vl : List UInt8 → Nat
  | [] => 0
  | c :: b => c.toNat % 128 + 128 * vl b
theorem ctN_le : ∀ b, ctN b ≤ b.length
  | [] => Nat.le_refl _
  | c :: b => by
    have := ctN_le b
    rw [ctN]; split
    · simp
    · split <;> simp <;> omega
theorem ctN_num (n : Nat) : ∀ r, ctN (num n ++ r) = (num n).length := by
  intro r
  rw [num]
  by_cases h1 : n ≤ 127
  · have h2 : (UInt8.ofNat n).toNat = n := by simp; omega
    simp only [h1, dite_true, List.cons_append, List.nil_append, ctN, h2]
    rw [if_pos (by omega)]; rfl
  · have h2 : (UInt8.ofNat (n % 128 + 128)).toNat = n % 128 + 128 := by simp; omega
    have ih := ctN_num (n / 128) r
    have hl := num_len (n / 128)
    simp only [h1, dite_false, List.cons_append, ctN, h2, ih]
    rw [if_neg (by omega), if_neg (by omega)]; rfl
termination_by n
decreasing_by omega
theorem vl_num (n : Nat) : vl (num n) = n := by
  rw [num]
  by_cases h1 : n ≤ 127
  · have h2 : (UInt8.ofNat n).toNat = n := by simp; omega
    simp only [h1, dite_true, vl, h2]; omega
  · have h2 : (UInt8.ofNat (n % 128 + 128)).toNat = n % 128 + 128 := by simp; omega
    have ih := vl_num (n / 128)
    simp only [h1, dite_false, vl, h2, ih]; omega
termination_by n
decreasing_by omega
theorem num_le : ∀ (k n : Nat), n < 128 ^ (k + 1) → (num n).length ≤ k + 1
  | 0, n, h => by
    rw [num]; rw [dif_pos (by omega)]; simp
  | k + 1, n, h => by
    rw [num]; split
    · simp
    · have : n / 128 < 128 ^ (k + 1) := by rw [Nat.pow_succ] at h; omega
      have := num_le k (n / 128) this
      simp; omega
theorem num_gt : ∀ (k n : Nat), 128 ^ k ≤ n → k < (num n).length
  | 0, n, h => num_len n
  | k + 1, n, h => by
    rw [Nat.pow_succ] at h
    have h0 : 0 < 128 ^ k := Nat.pow_pos (by decide)
    rw [num, dif_neg (by omega)]
    have := num_gt k (n / 128) (by omega)
    simp; omega
/-- A number that may be. -/
def nOk (l : List UInt8) : Bool := decide (l.length ≤ 5 ∧ vl l ≤ 2147483647)
theorem nOk_num (n : Nat) : nOk (num n) = decide (n ≤ 2147483647) := by
  unfold nOk
  rw [vl_num]
  by_cases h : n ≤ 2147483647
  · have := num_le 4 n (by omega)
    simp [h, this]
  · simp [h]
/-- The head as the program reads it. -/
def szA (d : List UInt8) : List UInt8 := d.take (ctN d)
def szR (d : List UInt8) : List UInt8 := if ctN d = 0 then [] else d.drop (ctN d)
def szE (d : List UInt8) : Nat := if ctN d = 0 ∨ ctN (szR d) = 0 then 4 else if nOk (szA d) = true ∧ nOk (szA (szR d)) = true then 0 else 3
def szF (d : List UInt8) : Nat := if szE d = 0 then vl (szA d) else 0
def szT (d : List UInt8) : Nat := if szE d = 0 then vl (szA (szR d)) else 0
def szD (d : List UInt8) : List UInt8 := if szE d = 0 then szR (szR d) else []
theorem szA_num (n : Nat) (r : List UInt8) : szA (num n ++ r) = num n := by
  unfold szA; rw [ctN_num]; exact List.take_left
theorem szR_num (n : Nat) (r : List UInt8) : szR (num n ++ r) = r := by
  have := num_len n
  unfold szR; rw [ctN_num, if_neg (by omega)]; exact List.drop_left
theorem szE_num (n m : Nat) (r : List UInt8) : szE (num n ++ (num m ++ r)) = if n ≤ 2147483647 ∧ m ≤ 2147483647 then 0 else 3 := by
  have h1 := num_len n
  have h2 := num_len m
  unfold szE
  rw [szR_num, ctN_num, ctN_num, if_neg (by omega), szA_num, szA_num, nOk_num, nOk_num]
  simp only [decide_eq_true_eq]
theorem szF_num {n m : Nat} (r : List UInt8) (h1 : n ≤ 2147483647) (h2 : m ≤ 2147483647) : szE (num n ++ (num m ++ r)) = 0 ∧ szF (num n ++ (num m ++ r)) = n ∧ szT (num n ++ (num m ++ r)) = m ∧ szD (num n ++ (num m ++ r)) = r := by
  have he := szE_num n m r
  rw [if_pos ⟨h1, h2⟩] at he
  unfold szF szT szD
  rw [he, if_pos rfl, if_pos rfl, if_pos rfl, szA_num, szR_num, szA_num, szR_num, vl_num, vl_num]
  exact ⟨rfl, rfl, rfl, rfl⟩
theorem szF_bad {n m : Nat} (r : List UInt8) (h : ¬ (n ≤ 2147483647 ∧ m ≤ 2147483647)) : szE (num n ++ (num m ++ r)) = 3 ∧ szF (num n ++ (num m ++ r)) = 0 ∧ szT (num n ++ (num m ++ r)) = 0 := by
  have he := szE_num n m r
  rw [if_neg h] at he
  unfold szF szT
  rw [he, if_neg (by decide), if_neg (by decide)]
  exact ⟨rfl, rfl, rfl⟩
theorem szE_cases (d : List UInt8) : szE d = 0 ∨ szE d = 3 ∨ szE d = 4 := by
  unfold szE; split
  · exact .inr (.inr rfl)
  · split
    · exact .inl rfl
    · exact .inr (.inl rfl)
theorem szA_len (d : List UInt8) : (szA d).length = ctN d := by
  have := ctN_le d
  unfold szA; rw [List.length_take]; omega
theorem szR_len (d : List UInt8) : (szR d).length ≤ d.length := by
  unfold szR; split <;> simp
theorem szF_le (d : List UInt8) : szF d ≤ 2147483647 ∧ szT d ≤ 2147483647 := by
  unfold szF szT
  by_cases h : szE d = 0
  · rw [if_pos h, if_pos h]
    unfold szE at h
    split at h
    · cases h
    · split at h
      · rename_i h2
        unfold nOk at h2
        simp only [decide_eq_true_eq] at h2
        exact ⟨h2.1.2, h2.2.2⟩
      · cases h
  · rw [if_neg h, if_neg h]; decide
theorem szD_len (d : List UInt8) : (szD d).length ≤ d.length := by
  have h1 := szR_len d
  have h2 := szR_len (szR d)
  unfold szD; split
  · omega
  · simp
/-- What the program's Apply tells. -/
def apP (base d : List UInt8) (most : Nat) : List UInt8 × Nat :=
  if szE d ≠ 0 then ([], szE d) else if szF d ≠ base.length then ([], 3) else if most < szT d then ([], 5)
  else ap base (szT d) (szD d).length (szD d) []
theorem apP_mk {base t D : List UInt8} (hb : base.length ≤ 2147483647) (ht : t.length ≤ 2147483647) (h : Mk base D t) {most : Nat} (hm : t.length ≤ most) :
    apP base (num base.length ++ (num t.length ++ D)) most = (t, 0) := by
  obtain ⟨h1, h2, h3, h4⟩ := szF_num D hb ht
  have h5 := h t.length [] [] (by simp)
  simp only [List.append_nil, List.nil_append, List.length_nil] at h5
  unfold apP
  rw [h1, h2, h3, h4, if_neg (by simp), if_neg (by simp), if_neg (by omega), h5, ap, if_neg (by omega)]
/-- The document's reading of a number that was written. -/
theorem rg_big : ∀ (k n : Nat) (b : List UInt8), 128 ^ k ≤ n → rg k (num n ++ b) = (0, 0, 3)
  | 0, n, b, h => rfl
  | k + 1, n, b, h => by
    rw [Nat.pow_succ] at h
    have h0 : 0 < 128 ^ k := Nat.pow_pos (by decide)
    have h2 : (UInt8.ofNat (n % 128 + 128)).toNat = n % 128 + 128 := by simp; omega
    have ih := rg_big k (n / 128) b (by omega)
    rw [num, dif_neg (by omega)]
    simp only [List.cons_append, rg, h2, ih]
    rw [if_neg (by omega), if_neg (by decide)]
theorem rn_big {n : Nat} (b : List UInt8) (h : 2147483647 < n) : rn (num n ++ b) = (0, 0, 3) := by
  by_cases h1 : n < 128 ^ 5
  · have h2 := (rg_num 5 n b h1).resolve_right (by decide)
    rw [rn, h2, if_pos (by simpa using h)]
  · have h2 := rg_big 5 n b (by omega)
    rw [rn, h2, if_neg (by decide)]
theorem hd_num {n m : Nat} (r : List UInt8) (h1 : n ≤ 2147483647) (h2 : m ≤ 2147483647) : hdE (num n ++ (num m ++ r)) = 0 ∧ hdF (num n ++ (num m ++ r)) = n ∧ hdT (num n ++ (num m ++ r)) = m := by
  have e1 := rn_num (n := n) (num m ++ r) h1
  have e2 := rn_num (n := m) r h2
  have d1 : (num n ++ (num m ++ r)).drop (num n).length = num m ++ r := List.drop_left
  simp only [hdE, hdF, hdT, e1, d1, e2, if_true, and_self]
theorem hd_bad {n m : Nat} (r : List UInt8) (h : ¬ (n ≤ 2147483647 ∧ m ≤ 2147483647)) : hdE (num n ++ (num m ++ r)) = 3 ∧ hdF (num n ++ (num m ++ r)) = 0 ∧ hdT (num n ++ (num m ++ r)) = 0 := by
  by_cases h1 : n ≤ 2147483647
  · have e1 := rn_num (n := n) (num m ++ r) h1
    have e2 := rn_big (n := m) r (by omega)
    have d1 : (num n ++ (num m ++ r)).drop (num n).length = num m ++ r := List.drop_left
    simp only [hdE, hdF, hdT, e1, d1, e2, if_true]
    simp
  · have e1 := rn_big (n := n) (num m ++ r) (by omega)
    simp [hdE, hdF, hdT, e1]
end Go.Dl
