/- Package-merge, pure: the lengths are a whole code, and what they cost. It proves no statement by itself. No conditions. -/
import Derived.Test.YtkiaegkojlhaeaaDoorYa
namespace Go.Pm
set_option linter.all false

/-- How many of the selections have a coin of rank r. -/
def ln (S : List Nat) (r : Nat) : Nat := (S.filter fun s => decide (r < s)).length
def sumTo (g : Nat → Nat) : Nat → Nat
  | 0 => 0
  | n + 1 => sumTo g n + g n
theorem sumTo_congr {g h : Nat → Nat} : ∀ {n : Nat}, (∀ i, i < n → g i = h i) → sumTo g n = sumTo h n
  | 0, _ => rfl
  | n + 1, hh => by
    have h1 := sumTo_congr (n := n) (fun i hi => hh i (by omega))
    simp only [sumTo, h1, hh n (by omega)]
theorem sumTo_add (g : Nat → Nat) (a : Nat) : ∀ b, sumTo g (a + b) = sumTo g a + sumTo (fun i => g (a + i)) b
  | 0 => rfl
  | b + 1 => by
    have h1 := sumTo_add g a b
    rw [← Nat.add_assoc]
    simp only [sumTo, h1]
    omega
theorem sumTo_const (c : Nat) : ∀ n, sumTo (fun _ => c) n = n * c
  | 0 => by simp [sumTo]
  | n + 1 => by simp only [sumTo, sumTo_const c n, Nat.add_mul, Nat.one_mul]
theorem sumTo_plus (g h : Nat → Nat) : ∀ n, sumTo (fun i => g i + h i) n = sumTo g n + sumTo h n
  | 0 => rfl
  | n + 1 => by simp only [sumTo, sumTo_plus g h n]; omega
theorem sumTo_le (g : Nat → Nat) : ∀ {n i : Nat}, i < n → g i ≤ sumTo g n
  | 0, i, h => by omega
  | n + 1, i, h => by
    simp only [sumTo]
    rcases Nat.lt_or_ge i n with h' | h'
    · have := sumTo_le g h'; omega
    · rw [show i = n from by omega]; omega
theorem sumTo_two (g : Nat → Nat) {n i j : Nat} (hi : i < n) (hj : j < n) (hne : i ≠ j) : g i + g j ≤ sumTo g n := by
  induction n with
  | zero => omega
  | succ n ih =>
    simp only [sumTo]
    by_cases h1 : i = n
    · have := sumTo_le g (show j < n by omega); subst h1; omega
    · by_cases h2 : j = n
      · have := sumTo_le g (show i < n by omega); subst h2; omega
      · have := ih (by omega) (by omega); omega

theorem down_tail {s : Nat} {R : List Nat} (h : down (s :: R)) : down R := by
  cases R with
  | nil => trivial
  | cons b r => exact h.2
theorem down_le : ∀ {R : List Nat} {s : Nat}, down (s :: R) → ∀ x ∈ R, x ≤ s
  | [], s, _, x, hx => by simp at hx
  | b :: r, s, h, x, hx => by
    rcases List.mem_cons.1 hx with rfl | hx
    · exact h.1
    · exact Nat.le_trans (down_le h.2 x hx) h.1
theorem ln_cons (s : Nat) (R : List Nat) (r : Nat) : ln (s :: R) r = (if r < s then 1 else 0) + ln R r := by
  unfold ln
  by_cases h : r < s
  · simp [h]; omega
  · simp [h]
theorem ln_zero {R : List Nat} {r : Nat} (h : ∀ x ∈ R, x ≤ r) : ln R r = 0 := by
  unfold ln
  rw [List.filter_eq_nil_iff.2 (fun x hx => by have := h x hx; simp; omega)]
  rfl
theorem ln_le (S : List Nat) (r : Nat) : ln S r ≤ S.length := List.length_filter_le _ _
/-- A symbol of a higher rank is in no more selections. -/
theorem ln_anti (S : List Nat) {r q : Nat} (h : r ≤ q) : ln S q ≤ ln S r := by
  induction S with
  | nil => simp [ln]
  | cons s R ih =>
    rw [ln_cons, ln_cons]
    split <;> split <;> omega

/-- The shares of all symbols, and those of the selections. -/
theorem shares : ∀ (S : List Nat) (n : Nat), down S → (∀ s ∈ S, s ≤ n) → sumTo (fun r => 2 ^ (S.length - ln S r)) n + kr S = n * 2 ^ S.length
  | [], n, _, _ => by simp [ln, kr, sumTo_const]
  | s :: R, n, hd, hn => by
    have hs : s ≤ n := hn s (by simp)
    have hR := down_le hd
    have ih := shares R s (down_tail hd) hR
    obtain ⟨j, rfl⟩ := Nat.le.dest hs
    rw [sumTo_add]
    have e1 : sumTo (fun r => 2 ^ ((s :: R).length - ln (s :: R) r)) s = sumTo (fun r => 2 ^ (R.length - ln R r)) s := by
      refine sumTo_congr fun r hr => ?_
      rw [ln_cons, if_pos hr, List.length_cons]
      congr 1
      omega
    have e2 : sumTo (fun i => 2 ^ ((s :: R).length - ln (s :: R) (s + i))) j = j * 2 ^ (R.length + 1) := by
      rw [← sumTo_const]
      refine sumTo_congr fun i hi => ?_
      rw [ln_cons, if_neg (by omega), ln_zero (fun x hx => by have := hR x hx; omega), List.length_cons]
      rfl
    rw [e1, e2, kr, List.length_cons, Nat.pow_succ]
    generalize sumTo (fun r => 2 ^ (R.length - ln R r)) s = x at *
    generalize 2 ^ R.length = y at *
    generalize kr R = z at *
    rw [Nat.add_mul, ← Nat.mul_assoc, ← Nat.mul_assoc]
    omega

section
variable {cs : List It} {lv : Nat → List It} (h : Lv cs lv)
include h in
theorem lv_length (k : Nat) : (lv (k + 1)).length = cs.length + (lv k).length / 2 := by
  have := (filter_perm isC (lv (k + 1))).length_eq
  rw [(h.next k).cs, (h.next k).ps] at this
  simpa [pairs_length] using this
include h in
theorem lv_room (hn : 0 < cs.length) : ∀ k, ∃ c, (lv (k + 1)).length + c = 2 * cs.length ∧ 1 ≤ c ∧ (c - 1) * 2 ^ k < cs.length
  | 0 => ⟨cs.length, by rw [lv_length h, h.zero]; simp; omega, hn, by omega⟩
  | k + 1 => by
    obtain ⟨c, h1, h2, h3⟩ := lv_room hn k
    refine ⟨(c + 1) / 2, by rw [lv_length h (k + 1)]; omega, by omega, ?_⟩
    have h4 : 2 * ((c + 1) / 2 - 1) ≤ c - 1 := by omega
    have h5 := Nat.mul_le_mul_right (2 ^ k) h4
    rw [Nat.pow_succ, Nat.mul_comm (2 ^ k), ← Nat.mul_assoc, Nat.mul_comm _ 2]
    omega
include h in
theorem lv_full (k : Nat) (hn : 0 < cs.length) (hk : cs.length ≤ 2 ^ (k + 1)) : 2 * cs.length - 2 ≤ (lv (k + 1)).length := by
  obtain ⟨c, h1, h2, h3⟩ := lv_room h hn k
  rw [Nat.pow_succ] at hk
  have h4 : c - 1 < 2 := by
    rcases Nat.lt_or_ge (c - 1) 2 with h' | h'
    · exact h'
    · have := Nat.mul_le_mul_right (2 ^ k) h'
      omega
  omega

theorem sel_all (hh : ∀ k m, sC lv (k + 1) m ≤ cs.length) : ∀ k m, ∀ s ∈ sel lv k m, s ≤ cs.length
  | 0, m, s, hs => by simp [sel] at hs
  | k + 1, m, s, hs => by
    simp only [sel, List.mem_cons] at hs
    rcases hs with rfl | hs
    · exact hh k m
    · exact sel_all hh k _ s hs
/-- The lengths of all symbols are a whole code. -/
theorem whole (h : Lv cs lv) (hp : ∀ x ∈ cs, 0 < x.w) (k : Nat) (hn : 1 ≤ cs.length) (hk : cs.length ≤ 2 ^ (k + 1)) :
    sumTo (fun r => 2 ^ (k + 1 - ln (sel lv (k + 1) (2 * cs.length - 2)) r)) cs.length = 2 ^ (k + 1) := by
  have h1 := shares (sel lv (k + 1) (2 * cs.length - 2)) cs.length (sel_down h hp _ _) (sel_all (sC_le h) _ _)
  rw [sel_length, kr_sel h k _ (lv_full h k hn hk)] at h1
  have e : (2 * cs.length - 2) * 2 ^ k + 2 ^ (k + 1) = cs.length * 2 ^ (k + 1) := by
    rw [Nat.pow_succ, show 2 ^ k * 2 = 2 * 2 ^ k from Nat.mul_comm _ _, ← Nat.mul_assoc]
    obtain ⟨j, hj⟩ : ∃ j, cs.length = j + 1 := ⟨cs.length - 1, by omega⟩
    rw [hj, show 2 * (j + 1) - 2 = 2 * j from by omega, show (j + 1) * 2 = 2 * j + 2 from by omega, Nat.add_mul]
  omega
/-- Every symbol is taken where there are two at least. -/
theorem taken (h : Lv cs lv) (hp : ∀ x ∈ cs, 0 < x.w) (k : Nat) (hn : 2 ≤ cs.length) (hk : cs.length ≤ 2 ^ (k + 1)) (r : Nat) (hr : r < cs.length) : 1 ≤ ln (sel lv (k + 1) (2 * cs.length - 2)) r := by
  have h1 := whole h hp k (by omega) hk
  rcases Nat.eq_zero_or_pos (ln (sel lv (k + 1) (2 * cs.length - 2)) r) with h0 | h0
  · exfalso
    obtain ⟨q, hq, hne⟩ : ∃ q, q < cs.length ∧ r ≠ q := by
      rcases Nat.eq_zero_or_pos r with h2 | h2
      · exact ⟨1, by omega, by omega⟩
      · exact ⟨0, by omega, by omega⟩
    have := sumTo_two (fun r => 2 ^ (k + 1 - ln (sel lv (k + 1) (2 * cs.length - 2)) r)) hr hq hne
    simp only [h0, Nat.sub_zero] at this
    have hpos : 0 < 2 ^ (k + 1 - ln (sel lv (k + 1) (2 * cs.length - 2)) q) := Nat.pow_pos (by decide)
    omega
  · exact h0

theorem cnt_coins (wt : Nat → Nat) (i : Nat) : ∀ (l : List Nat), l.Nodup → cnt i (l.map (coin wt)) = if i ∈ l then 1 else 0
  | [], _ => by simp [cnt]
  | j :: r, hn => by
    have hn2 := List.nodup_cons.1 hn
    have ih := cnt_coins wt i r hn2.2
    have e : cnt i ((j :: r).map (coin wt)) = (if i = j then 1 else 0) + cnt i (r.map (coin wt)) := by
      simp [cnt, coin]
    rw [e, ih]
    by_cases hij : i = j
    · subst hij; simp [hn2.1]
    · simp [hij]
/-- How often a symbol is among the first of a level. -/
theorem cnt_sel (wt : Nat → Nat) (is : List Nat) (hc : cs = is.map (coin wt)) (hn : is.Nodup) (h : Lv cs lv) {i r : Nat} (hr : is[r]? = some i) : ∀ k m, cnt i ((lv k).take m) = ln (sel lv k m) r
  | 0, m => by rw [h.zero]; simp [cnt, ln, sel]
  | k + 1, m => by
    rw [cnt_step h, cnt_sel wt is hc hn h hr k, sel, ln_cons]
    congr 1
    rw [hc, ← List.map_take, cnt_coins wt i _ (hn.sublist (List.take_sublist _ _))]
    have hrl : r < is.length := by
      rcases Nat.lt_or_ge r is.length with h' | h'
      · exact h'
      · simp [List.getElem?_eq_none h'] at hr
    have e : i ∈ is.take (sC lv (k + 1) m) ↔ r < sC lv (k + 1) m := by
      constructor
      · intro hm
        obtain ⟨t, ht⟩ := List.getElem?_of_mem hm
        rw [List.getElem?_take] at ht
        split at ht
        · rename_i htl
          have : t = r := by
            have htl2 : t < is.length := by
              rcases Nat.lt_or_ge t is.length with h' | h'
              · exact h'
              · simp [List.getElem?_eq_none h'] at ht
            rw [List.getElem?_eq_getElem htl2] at ht
            rw [List.getElem?_eq_getElem hrl] at hr
            have hx := Option.some.inj (ht.trans hr.symm)
            exact (List.getElem_inj hn).1 hx
          omega
        · cases ht
      · intro hlt
        exact List.mem_of_getElem? (i := r) (by rw [List.getElem?_take, if_pos hlt]; exact hr)
    simp only [e]
end
end Go.Pm
