/- Prefix codes, pure: a code's bits are read as its symbol; bits turned round twice; shares of a list by its symbols. It proves no statement by itself. No conditions. -/
import Derived.Test.YtkiaegkojlhaeaaDoorYg
namespace Go.Hf
open Go.Vx Go.Pm
set_option linter.all false
theorem hv_mir (w t : Nat) : ∀ n, hv w t n = mir (w / 2 ^ t) n
  | 0 => rfl
  | n + 1 => by
    rw [hv, mir, hv_mir w t n, Nat.div_div_eq_div_mul, ← Nat.pow_add]
theorem mir_mod (v : Nat) {m : Nat} : ∀ {n : Nat}, n ≤ m → mir (v % 2 ^ m) n = mir v n
  | 0, _ => rfl
  | n + 1, h => by
    rw [mir, mir, mir_mod v (show n ≤ m by omega)]
    congr 1
    obtain ⟨k, rfl⟩ : ∃ k, m = n + (k + 1) := ⟨m - n - 1, by omega⟩
    rw [Nat.pow_add, Nat.mod_mul_right_div_self]
    exact Nat.mod_mod_of_dvd _ (by rw [Nat.pow_succ]; exact Nat.dvd_mul_left 2 (2 ^ k))
/-- The bits of a number turned round. -/
theorem mir_bit (v : Nat) : ∀ (n j : Nat), j < n → mir v n / 2 ^ j % 2 = v / 2 ^ (n - 1 - j) % 2
  | 0, j, h => by omega
  | n + 1, 0, _ => by
    rw [mir, Nat.pow_zero, Nat.div_one, show n + 1 - 1 - 0 = n from by omega]
    omega
  | n + 1, j + 1, h => by
    have ih := mir_bit v n j (by omega)
    rw [mir, Nat.pow_succ, Nat.mul_comm (2 ^ j), ← Nat.div_div_eq_div_mul, show (2 * mir v n + v / 2 ^ n % 2) / 2 = mir v n from by omega, ih]
    congr 2
    congr 1
    omega
theorem mir_part (v n : Nat) : ∀ i, i ≤ n → mir (mir v n) i = v % 2 ^ n / 2 ^ (n - i)
  | 0, _ => by
    rw [mir, Nat.sub_zero, Nat.div_eq_of_lt (Nat.mod_lt _ (Nat.pow_pos (by decide)))]
  | i + 1, h => by
    rw [mir, mir_part v n i (by omega), mir_bit v n i (by omega)]
    have e : v % 2 ^ n / 2 ^ (n - (i + 1)) = v / 2 ^ (n - (i + 1)) % 2 ^ (i + 1) := by
      obtain ⟨k, rfl⟩ : ∃ k, n = k + (i + 1) := ⟨n - (i + 1), by omega⟩
      rw [show k + (i + 1) - (i + 1) = k from by omega, Nat.pow_add 2 k, Nat.mod_mul_right_div_self]
    have e2 : v % 2 ^ n / 2 ^ (n - i) = v / 2 ^ (n - (i + 1)) / 2 % 2 ^ i := by
      obtain ⟨k, rfl⟩ : ∃ k, n = k + (i + 1) := ⟨n - (i + 1), by omega⟩
      rw [show k + (i + 1) - (i + 1) = k from by omega, show k + (i + 1) - i = k + 1 from by omega, Nat.div_div_eq_div_mul, ← Nat.pow_succ,
        show k + (i + 1) = (k + 1) + i from by omega, Nat.pow_add 2 (k + 1) i, Nat.mod_mul_right_div_self]
    rw [e, e2, show n - 1 - i = n - (i + 1) from by omega, Nat.pow_succ, Nat.mul_comm (2 ^ i) 2, Nat.mod_mul]
    omega
theorem mir_mir (v n : Nat) : mir (mir v n) n = v % 2 ^ n := by
  rw [mir_part v n n (Nat.le_refl _), Nat.sub_self, Nat.pow_zero, Nat.div_one]
/-- Of the bits of a code: their beginnings. -/
theorem hv_pre (w t : Nat) : ∀ (k m : Nat), hv w t m = hv w t (m + k) / 2 ^ k
  | 0, m => by simp
  | k + 1, m => by
    rw [hv_pre w t k m, ← Nat.add_assoc, hv, Nat.pow_succ, Nat.mul_comm (2 ^ k), ← Nat.div_div_eq_div_mul]
    congr 1
    omega
theorem hit_iff {l : List Nat} {n v i : Nat} : hit l n v i = true ↔ l.getD i 0 = n ∧ 0 < n ∧ cd l i = v := by
  simp [hit, and_assoc]
theorem getD_some {l : List Nat} {i n : Nat} (h : l.getD i 0 = n) (h0 : 0 < n) : l[i]? = some n := by
  have hi := getD_lt (l := l) (i := i) (by omega)
  rw [← h]
  simp [List.getD, hi]
theorem symAt_some {l : List Nat} {i n : Nat} (hi : l[i]? = some n) (h0 : 0 < n) : symAt l n (cd l i) = some i := by
  have hg : l.getD i 0 = n := by simp [List.getD, hi]
  have hl := getD_lt (l := l) (i := i) (by omega)
  refine find_range hl (hit_iff.2 ⟨hg, h0, rfl⟩) fun j hj => ?_
  cases hh : hit l n (cd l i) j with
  | false => rfl
  | true =>
    obtain ⟨h1, h2, h3⟩ := hit_iff.1 hh
    have := cd_inj (getD_some h1 h2) hi (by omega) h3
    omega
theorem symAt_none {l : List Nat} {n v : Nat} (h : v < fs l n ∨ fs l n + cn l n ≤ v) : symAt l n v = none := by
  refine find_none fun j hj => ?_
  cases hh : hit l n v j with
  | false => rfl
  | true =>
    obtain ⟨h1, h2, h3⟩ := hit_iff.1 hh
    have := cd_in (getD_some h1 h2) (by omega)
    omega
theorem symAt_none0 {l : List Nat} {v : Nat} : symAt l 0 v = none := by
  refine find_none fun j hj => ?_
  simp [hit]
theorem extB_iff {l : List Nat} {n v : Nat} : extB l n v = true ↔ ext l n v := by
  unfold extB ext
  rw [List.any_eq_true]
  constructor
  · rintro ⟨i, hi, hf⟩
    simp only [far, Bool.and_eq_true, decide_eq_true_eq, beq_iff_eq] at hf
    exact ⟨i, l.getD i 0, getD_some rfl (by omega), hf.1, hf.2⟩
  · rintro ⟨i, m, hi, hm, he⟩
    have hg : l.getD i 0 = m := by simp [List.getD, hi]
    refine ⟨i, List.mem_range.2 (getD_lt (by omega)), ?_⟩
    simp only [far, hg, Bool.and_eq_true, decide_eq_true_eq, beq_iff_eq]
    exact ⟨hm, he⟩
/-- A code's bits are read as its symbol. -/
theorem rd_hit {l : List Nat} {i n w t z : Nat} (hi : l[i]? = some n) (h0 : 0 < n) (h15 : n ≤ 15) (hb : hv w t n = cd l i) (hz : t + n ≤ z) : rdS l w t z 16 0 = (i, 0, n) := by
  have key : ∀ m, m ≤ n → rdS l w t z 16 0 = rdS l w t z (16 - m) m := by
    intro m
    induction m with
    | zero => intro _; rfl
    | succ m ih =>
      intro hm
      rw [ih (by omega), show 16 - m = (16 - (m + 1)) + 1 from by omega, rdS]
      have hp : hv w t m = cd l i / 2 ^ (n - m) := by
        rw [← hb, hv_pre w t (n - m) m, show m + (n - m) = n from by omega]
      have hs : symAt l m (hv w t m) = none := by
        rcases Nat.eq_zero_or_pos m with h | h
        · subst h; exact symAt_none0
        · exact symAt_none (.inr (by rw [hp]; exact cd_prefix hi h (by omega)))
      have he : ¬ extB l m (hv w t m) = false := by
        have : extB l m (hv w t m) = true := extB_iff.2 ⟨i, n, hi, by omega, hp.symm⟩
        rw [this]; simp
      rw [hs]
      simp only
      rw [if_neg he, if_neg (by omega)]
  rw [key n (Nat.le_refl _), show 16 - n = (15 - n) + 1 from by omega, rdS, hb, symAt_some hi h0]

/-- The shares of a list, by the symbols that have a length. -/
theorem kS_range (l : List Nat) : kS l = (((List.range l.length).filter fun i => decide (0 < l.getD i 0)).map fun i => 2 ^ (15 - l.getD i 0)).sum := by
  have key : ∀ n, n ≤ l.length → kS (l.take n) = (((List.range n).filter fun i => decide (0 < l.getD i 0)).map fun i => 2 ^ (15 - l.getD i 0)).sum := by
    intro n
    induction n with
    | zero => intro _; rfl
    | succ n ih =>
      intro hn
      have hlt : n < l.length := by omega
      have hg : l.getD n 0 = l[n] := by simp [List.getD, hlt]
      rw [List.take_add_one, List.getElem?_eq_getElem hlt, kS_app, ih (by omega), List.range_succ, List.filter_append, List.map_append, List.sum_append]
      congr 1
      simp only [Option.toList, kS, ← hg]
      generalize hq : (fun i => decide (0 < l.getD i 0)) = q
      have hqn : q n = decide (0 < l.getD n 0) := by rw [← hq]
      by_cases h : 0 < l.getD n 0
      · rw [if_pos h, List.filter_cons, hqn, if_pos (by simpa using h)]
        rfl
      · rw [if_neg h, List.filter_cons, hqn, if_neg (by simpa using h)]
        rfl
  have := key l.length (Nat.le_refl _)
  rwa [List.take_length] at this
theorem kS_perm {l is : List Nat} (h : is.Perm ((List.range l.length).filter fun i => decide (0 < l.getD i 0))) : kS l = (is.map fun i => 2 ^ (15 - l.getD i 0)).sum := by
  rw [kS_range]
  exact ((h.map _).sum_nat).symm
theorem sumTo_map (f : Nat → Nat) (is : List Nat) : sumTo (fun r => f (is.getD r 0)) is.length = (is.map f).sum := by
  have key : ∀ n, n ≤ is.length → sumTo (fun r => f (is.getD r 0)) n = ((is.take n).map f).sum := by
    intro n
    induction n with
    | zero => intro _; rfl
    | succ n ih =>
      intro hn
      have hlt : n < is.length := by omega
      rw [sumTo, ih (by omega), List.take_add_one, List.getElem?_eq_getElem hlt, List.map_append, List.sum_append]
      simp [List.getD, hlt]
  have := key is.length (Nat.le_refl _)
  rwa [List.take_length] at this
theorem sumTo_mul (c : Nat) (f : Nat → Nat) : ∀ n, sumTo (fun r => c * f r) n = c * sumTo f n
  | 0 => rfl
  | n + 1 => by simp only [sumTo, sumTo_mul c f n, Nat.mul_add]
/-- Lengths that are a whole code of most bits are one of 15. -/
theorem kS_whole {l is : List Nat} {L : Nat} {g : Nat → Nat} (h : is.Perm ((List.range l.length).filter fun i => decide (0 < l.getD i 0))) (hL : L ≤ 15) (hg : ∀ r, r < is.length → l.getD (is.getD r 0) 0 = g r) (hb : ∀ r, r < is.length → g r ≤ L)
    (hw : sumTo (fun r => 2 ^ (L - g r)) is.length = 2 ^ L) : kS l = 32768 := by
  rw [kS_perm h, ← sumTo_map]
  have e : sumTo (fun r => 2 ^ (15 - l.getD (is.getD r 0) 0)) is.length = 2 ^ (15 - L) * sumTo (fun r => 2 ^ (L - g r)) is.length := by
    rw [← sumTo_mul]
    refine sumTo_congr fun r hr => ?_
    rw [hg r hr, ← Nat.pow_add]
    have := hb r hr
    congr 1
    omega
  rw [e, hw, ← Nat.pow_add, show 15 - L + L = 15 from by omega]
end Go.Hf
