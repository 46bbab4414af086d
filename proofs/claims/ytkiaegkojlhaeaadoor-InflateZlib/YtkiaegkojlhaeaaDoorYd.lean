/- Prefix codes, pure: lengths, shares, the first code of a length. It proves no statement by itself. No conditions. -/
import Derived.Test.YtkiaegkojlhaeaaDoorYc
namespace Go.Hf
set_option linter.all false

/-- All shares of a list of lengths, of 2^15. -/
def kS : List Nat → Nat
  | [] => 0
  | x :: r => (if 0 < x then 2 ^ (15 - x) else 0) + kS r
theorem kS_app (a b : List Nat) : kS (a ++ b) = kS a + kS b := by
  induction a with
  | nil => simp [kS]
  | cons x r ih => simp only [List.cons_append, kS, ih]; omega
theorem kS_le (l : List Nat) : kS l ≤ l.length * 16384 := by
  induction l with
  | nil => simp [kS]
  | cons x r ih =>
    have : (if 0 < x then 2 ^ (15 - x) else 0) ≤ 16384 := by
      split
      · exact Nat.le_trans (Nat.pow_le_pow_right (by decide) (show 15 - x ≤ 14 by omega)) (by decide)
      · omega
    simp only [kS, List.length_cons]
    omega
/-- How many have this length. -/
def cn (l : List Nat) (n : Nat) : Nat := (l.filter fun x => x == n).length
theorem cn_app (a b : List Nat) (n : Nat) : cn (a ++ b) n = cn a n + cn b n := by simp [cn]
theorem cn_cons (x : Nat) (r : List Nat) (n : Nat) : cn (x :: r) n = (if x = n then 1 else 0) + cn r n := by
  unfold cn
  by_cases h : x = n
  · simp [h]; omega
  · simp [h]
/-- The first code of a length. -/
def fs (l : List Nat) : Nat → Nat
  | 0 => 0
  | n + 1 => 2 * (fs l n + if n = 0 then 0 else cn l n)
theorem fs_one (l : List Nat) : fs l 1 = 0 := rfl
theorem fs_succ (l : List Nat) {n : Nat} (h : 0 < n) : fs l (n + 1) = 2 * (fs l n + cn l n) := by
  rw [fs, if_neg (by omega)]
/-- The shares of the lengths up to n. -/
def ks (l : List Nat) (n : Nat) : Nat := kS (l.filter fun x => decide (x ≤ n))
theorem ks_succ (l : List Nat) (n : Nat) : ks l (n + 1) = ks l n + cn l (n + 1) * 2 ^ (15 - (n + 1)) := by
  induction l with
  | nil => simp [ks, kS, cn]
  | cons x r ih =>
    unfold ks at *
    rw [cn_cons]
    rcases Nat.lt_trichotomy x (n + 1) with h | h | h
    · have h1 : x ≤ n + 1 := by omega
      have h2 : x ≤ n := by omega
      have h3 : x ≠ n + 1 := by omega
      simp only [List.filter_cons, h1, h2, h3, decide_true, if_true, kS, if_false, ih, Nat.zero_add]
      omega
    · subst h
      have h2 : ¬ n + 1 ≤ n := by omega
      simp only [List.filter_cons, Nat.le_refl, h2, decide_true, decide_false, if_true, Bool.false_eq_true, if_false, kS, ih, Nat.zero_lt_succ, Nat.add_mul, Nat.one_mul]
      omega
    · have h1 : ¬ x ≤ n + 1 := by omega
      have h2 : ¬ x ≤ n := by omega
      have h3 : x ≠ n + 1 := by omega
      simp only [List.filter_cons, h1, h2, h3, decide_false, Bool.false_eq_true, if_false, ih, Nat.zero_add]
theorem ks_zero (l : List Nat) : ks l 0 = 0 := by
  induction l with
  | nil => rfl
  | cons x r ih =>
    unfold ks at *
    by_cases h : x ≤ 0
    · simp only [List.filter_cons, h, decide_true, if_true, kS, ih]
      rw [if_neg (by omega)]
    · simp only [List.filter_cons, h, decide_false, Bool.false_eq_true, if_false, ih]
theorem ks_all {l : List Nat} {n : Nat} (h : ∀ x ∈ l, x ≤ n) : ks l n = kS l := by
  unfold ks
  rw [List.filter_eq_self.2 (fun x hx => by simpa using h x hx)]
theorem ks_mono (l : List Nat) {a b : Nat} (h : a ≤ b) : ks l a ≤ ks l b := by
  induction b with
  | zero => rw [Nat.le_zero.1 h]; exact Nat.le_refl _
  | succ b ih =>
    rcases Nat.lt_or_ge a (b + 1) with h' | h'
    · rw [ks_succ]; have := ih (by omega); omega
    · rw [show a = b + 1 from by omega]; exact Nat.le_refl _
theorem ks_le (l : List Nat) (n : Nat) : ks l n ≤ kS l := by
  have key : ∀ l : List Nat, kS (l.filter fun x => decide (x ≤ n)) ≤ kS l := by
    intro l
    induction l with
    | nil => exact Nat.le_refl _
    | cons x r ih =>
      by_cases h : x ≤ n
      · simp only [List.filter_cons, h, decide_true, if_true, kS]; omega
      · simp only [List.filter_cons, h, decide_false, Bool.false_eq_true, if_false, kS]; omega
  exact key l
/-- Where the codes of a length end. -/
theorem fs_end (l : List Nat) : ∀ n, 1 ≤ n → n ≤ 15 → (fs l n + cn l n) * 2 ^ (15 - n) = ks l n
  | 0, h, _ => by omega
  | 1, _, _ => by
    have h : ks l 1 = ks l 0 + cn l 1 * 2 ^ (15 - 1) := ks_succ l 0
    rw [ks_zero] at h
    rw [fs_one, Nat.zero_add]
    omega
  | n + 2, _, h2 => by
    have ih := fs_end l (n + 1) (by omega) (by omega)
    rw [fs_succ l (by omega), ks_succ, ← ih, Nat.add_mul]
    congr 1
    rw [show 15 - (n + 1) = 15 - (n + 1 + 1) + 1 from by omega, Nat.pow_succ]
    generalize fs l (n + 1) + cn l (n + 1) = x
    generalize 2 ^ (15 - (n + 1 + 1)) = y
    rw [Nat.mul_comm 2 x, Nat.mul_assoc, Nat.mul_comm 2 y]
/-- The codes of a length fit. -/
theorem fs_fit {l : List Nat} (hk : kS l ≤ 32768) {n : Nat} (h1 : 1 ≤ n) (h2 : n ≤ 15) : fs l n + cn l n ≤ 2 ^ n := by
  have h := fs_end l n h1 h2
  have h3 := ks_le l n
  have h4 : (fs l n + cn l n) * 2 ^ (15 - n) ≤ 2 ^ n * 2 ^ (15 - n) := by
    rw [h, ← Nat.pow_add, show n + (15 - n) = 15 from by omega]
    exact Nat.le_trans h3 hk
  exact Nat.le_of_mul_le_mul_right h4 (Nat.pow_pos (by decide))
/-- A symbol's code. -/
def cd (l : List Nat) (i : Nat) : Nat := if l.getD i 0 = 0 then 0 else fs l (l.getD i 0) + cn (l.take i) (l.getD i 0)
def cds (l : List Nat) : List Nat := (List.range l.length).map (cd l)
theorem cn_take_lt {l : List Nat} {i n : Nat} (hi : l[i]? = some n) : cn (l.take i) n < cn l n := by
  have hlt : i < l.length := by
    rcases Nat.lt_or_ge i l.length with h | h
    · exact h
    · simp [List.getElem?_eq_none h] at hi
  have e : l = l.take i ++ (n :: l.drop (i + 1)) := by
    rw [List.getElem?_eq_getElem hlt] at hi
    rw [← Option.some.inj hi, ← List.drop_eq_getElem_cons hlt, List.take_append_drop]
  have := congrArg (fun x => cn x n) e
  simp only [cn_app, cn_cons, if_true] at this
  omega
/-- Of a symbol with a code: where its code lies. -/
theorem cd_in {l : List Nat} {i n : Nat} (hi : l[i]? = some n) (h0 : n ≠ 0) : fs l n ≤ cd l i ∧ cd l i < fs l n + cn l n := by
  have hg : l.getD i 0 = n := by simp [List.getD, hi]
  have := cn_take_lt hi
  unfold cd
  rw [hg, if_neg h0]
  omega
theorem cn_take_mono (l : List Nat) (n : Nat) {i j : Nat} (h : i ≤ j) : cn (l.take i) n ≤ cn (l.take j) n := by
  have : l.take j = l.take i ++ (l.drop i).take (j - i) := by
    rw [List.take_drop, show i + (j - i) = j from by omega]
    have h1 : l.take i = (l.take j).take i := by rw [List.take_take, Nat.min_eq_left h]
    rw [h1, List.take_append_drop]
  rw [this, cn_app]
  omega
/-- Two symbols of one length have two codes. -/
theorem cd_inj {l : List Nat} {i j n : Nat} (hi : l[i]? = some n) (hj : l[j]? = some n) (h0 : n ≠ 0) (he : cd l i = cd l j) : i = j := by
  have key : ∀ {i j : Nat}, l[i]? = some n → l[j]? = some n → i < j → cd l i < cd l j := by
    intro i j hi hj hlt
    have hg : l.getD i 0 = n := by simp [List.getD, hi]
    have hg2 : l.getD j 0 = n := by simp [List.getD, hj]
    have h1 : cn (l.take (i + 1)) n = cn (l.take i) n + 1 := by
      rw [List.take_add_one, hi, cn_app]
      simp [cn]
    have h2 := cn_take_mono l n (show i + 1 ≤ j from hlt)
    unfold cd
    rw [hg, hg2, if_neg h0, if_neg h0]
    omega
  rcases Nat.lt_trichotomy i j with h | h | h
  · have := key hi hj h; omega
  · exact h
  · have := key hj hi h; omega
/-- Each number between is some symbol's code. -/
theorem cd_surj {l : List Nat} {n v : Nat} (h0 : n ≠ 0) (h1 : fs l n ≤ v) (h2 : v < fs l n + cn l n) : ∃ i, l[i]? = some n ∧ cd l i = v := by
  have key : ∀ (l : List Nat) (k : Nat), k < cn l n → ∃ i, l[i]? = some n ∧ cn (l.take i) n = k := by
    intro l
    induction l with
    | nil => intro k hk; simp [cn] at hk
    | cons x r ih =>
      intro k hk
      rw [cn_cons] at hk
      by_cases hx : x = n
      · rw [if_pos hx] at hk
        rcases Nat.eq_zero_or_pos k with h | h
        · exact ⟨0, by simp [hx], by simp [cn, h]⟩
        · obtain ⟨i, hi, hc⟩ := ih (k - 1) (by omega)
          exact ⟨i + 1, by simpa using hi, by rw [List.take_succ_cons, cn_cons, if_pos hx, hc]; omega⟩
      · rw [if_neg hx, Nat.zero_add] at hk
        obtain ⟨i, hi, hc⟩ := ih k hk
        exact ⟨i + 1, by simpa using hi, by rw [List.take_succ_cons, cn_cons, if_neg hx, hc]; omega⟩
  obtain ⟨i, hi, hc⟩ := key l (v - fs l n) (by omega)
  have hg : l.getD i 0 = n := by simp [List.getD, hi]
  refine ⟨i, hi, ?_⟩
  unfold cd
  rw [hg, if_neg h0, hc]
  omega
/-- No code of a longer length begins with a code, or with a number ahead of one. -/
theorem fs_later (l : List Nat) {n : Nat} (h0 : 0 < n) : ∀ k, (fs l n + cn l n) * 2 ^ (k + 1) ≤ fs l (n + k + 1)
  | 0 => by rw [fs_succ l (by omega)]; simp; omega
  | k + 1 => by
    have ih := fs_later l h0 k
    rw [show n + (k + 1) + 1 = (n + k + 1) + 1 from by omega, fs_succ l (by omega), Nat.pow_succ, ← Nat.mul_assoc]
    omega
theorem cd_prefix {l : List Nat} {i n m : Nat} (hi : l[i]? = some m) (h0 : 0 < n) (hm : n < m) : fs l n + cn l n ≤ cd l i / 2 ^ (m - n) := by
  obtain ⟨k, rfl⟩ : ∃ k, m = n + k + 1 := ⟨m - n - 1, by omega⟩
  have h1 := fs_later l h0 k
  have h2 := (cd_in hi (by omega)).1
  rw [Nat.le_div_iff_mul_le (Nat.pow_pos (by decide)), show n + k + 1 - n = k + 1 from by omega]
  omega
/-- Some longer code begins with these n bits. -/
def ext (l : List Nat) (n v : Nat) : Prop := ∃ (i m : Nat), l[i]? = some m ∧ n < m ∧ cd l i / 2 ^ (m - n) = v
theorem exists_len {l : List Nat} {m : Nat} (h : 0 < cn l m) : ∃ i : Nat, l[i]? = some m := by
  unfold cn at h
  obtain ⟨x, hx⟩ : ∃ x, x ∈ l.filter fun x => x == m := ⟨_, List.getElem_mem h⟩
  obtain ⟨h1, h2⟩ := List.mem_filter.1 hx
  have : x = m := by simpa using h2
  subst this
  exact List.getElem?_of_mem h1
theorem ext_iff {l : List Nat} (hk : kS l ≤ 32768) (hl : ∀ x ∈ l, x ≤ 15) {n v : Nat} (hn : n ≤ 15) : ext l n v ↔ ((if n = 0 then 0 else fs l n + cn l n) ≤ v ∧ v * 2 ^ (15 - n) < kS l) := by
  have hend : ∀ m, 1 ≤ m → m ≤ 15 → (fs l m + cn l m) * 2 ^ (15 - m) ≤ kS l := fun m h1 h2 => by rw [fs_end l m h1 h2]; exact ks_le l m
  constructor
  · rintro ⟨i, m, hi, hm, rfl⟩
    have hm15 := hl m (List.mem_of_getElem? hi)
    obtain ⟨c1, c2⟩ := cd_in hi (by omega)
    refine ⟨?_, ?_⟩
    · split
      · exact Nat.zero_le _
      · exact cd_prefix hi (by omega) hm
    · have h1 := hend m (by omega) hm15
      have h2 : cd l i / 2 ^ (m - n) * 2 ^ (15 - n) ≤ cd l i * 2 ^ (15 - m) := by
        rw [show 15 - n = (m - n) + (15 - m) from by omega, Nat.pow_add, ← Nat.mul_assoc]
        exact Nat.mul_le_mul_right _ (Nat.div_mul_le_self _ _)
      have h3 : (cd l i + 1) * 2 ^ (15 - m) ≤ (fs l m + cn l m) * 2 ^ (15 - m) := Nat.mul_le_mul_right _ c2
      have h4 : 0 < 2 ^ (15 - m) := Nat.pow_pos (by decide)
      rw [Nat.add_mul] at h3
      omega
  · rintro ⟨h1, h2⟩
    -- the first length whose codes reach beyond v
    have hex : ∃ m, n < m ∧ m ≤ 15 ∧ v * 2 ^ (15 - n) < ks l m := by
      refine ⟨15, ?_, Nat.le_refl _, by rw [ks_all hl]; exact h2⟩
      rcases Nat.lt_or_ge n 15 with h | h
      · exact h
      · exfalso
        have hn15 : n = 15 := by omega
        subst hn15
        rw [if_neg (by omega)] at h1
        have h3 := fs_end l 15 (by omega) (by omega)
        rw [ks_all hl] at h3
        simp at h3 h2
        omega
    have hmin : ∃ m, n < m ∧ m ≤ 15 ∧ v * 2 ^ (15 - n) < ks l m ∧ ∀ q, n < q → q < m → ks l q ≤ v * 2 ^ (15 - n) := by
      obtain ⟨m, a1, a2, a3⟩ := hex
      have key : ∀ m, n < m → m ≤ 15 → v * 2 ^ (15 - n) < ks l m → ∃ m, n < m ∧ m ≤ 15 ∧ v * 2 ^ (15 - n) < ks l m ∧ ∀ q, n < q → q < m → ks l q ≤ v * 2 ^ (15 - n) := by
        intro m
        induction m with
        | zero => intro h; omega
        | succ m ih =>
          intro b1 b2 b3
          by_cases hc : n < m ∧ v * 2 ^ (15 - n) < ks l m
          · exact ih hc.1 (by omega) hc.2
          · refine ⟨m + 1, b1, b2, b3, fun q c1 c2 => ?_⟩
            have : ks l q ≤ ks l m := ks_mono l (by omega)
            have h5 : ¬ v * 2 ^ (15 - n) < ks l m := fun h => hc ⟨by omega, h⟩
            omega
      exact key m a1 a2 a3
    obtain ⟨m, m1, m2, m3, m4⟩ := hmin
    have hlow : ks l (m - 1) ≤ v * 2 ^ (15 - n) := by
      rcases Nat.lt_or_ge n (m - 1) with h | h
      · exact m4 (m - 1) h (by omega)
      · have hmn : m - 1 = n := by omega
        rw [hmn]
        rcases Nat.eq_zero_or_pos n with h0 | h0
        · subst h0; rw [ks_zero]; exact Nat.zero_le _
        · rw [if_neg (by omega)] at h1
          rw [← fs_end l n h0 hn]
          exact Nat.mul_le_mul_right _ h1
    have hstep : ks l m = ks l (m - 1) + cn l m * 2 ^ (15 - m) := by
      obtain ⟨q, rfl⟩ : ∃ q, m = q + 1 := ⟨m - 1, by omega⟩
      exact ks_succ l q
    have hfe := fs_end l m (by omega) m2
    -- the code of length m that begins with v and goes on with zeros
    have hp : v * 2 ^ (15 - n) = v * 2 ^ (m - n) * 2 ^ (15 - m) := by
      rw [Nat.mul_assoc, ← Nat.pow_add, show m - n + (15 - m) = 15 - n from by omega]
    have hpos : 0 < 2 ^ (15 - m) := Nat.pow_pos (by decide)
    have g1 : fs l m ≤ v * 2 ^ (m - n) := by
      have : fs l m * 2 ^ (15 - m) ≤ v * 2 ^ (m - n) * 2 ^ (15 - m) := by
        rw [← hp]
        rw [Nat.add_mul] at hfe
        omega
      exact Nat.le_of_mul_le_mul_right this hpos
    have g2 : v * 2 ^ (m - n) < fs l m + cn l m := by
      have : v * 2 ^ (m - n) * 2 ^ (15 - m) < (fs l m + cn l m) * 2 ^ (15 - m) := by rw [← hp, hfe]; exact m3
      exact Nat.lt_of_mul_lt_mul_right this
    obtain ⟨i, hi, hc⟩ := cd_surj (show m ≠ 0 by omega) g1 g2
    refine ⟨i, m, hi, m1, ?_⟩
    rw [hc, Nat.mul_div_cancel _ (Nat.pow_pos (by decide))]
end Go.Hf
