/- Sorting in place, pure: swaps, rotations, merges. It proves no statement by itself. No conditions. -/
import Derived.Test.YteebdaoanfnkgaaVc
namespace Go.So
set_option linter.all false
variable {α : Type}
/-- Two places change what they hold. -/
def swp (f : Nat → α) (i j : Nat) : Nat → α := fun k => if k = i then f j else if k = j then f i else f k
def upd (f : Nat → α) (i : Nat) (y : α) : Nat → α := fun k => if k = i then y else f k
theorem upd_swp (f : Nat → α) (i j : Nat) : upd (upd f i (f j)) j (f i) = swp f i j := by
  funext k
  simp only [upd, swp]
  by_cases h1 : k = j
  · by_cases h2 : k = i
    · subst h1; subst h2; simp
    · rw [if_pos h1, if_neg h2, if_pos h1]
  · rw [if_neg h1]
    by_cases h2 : k = i
    · rw [if_pos h2, if_pos h2]
    · rw [if_neg h2, if_neg h2, if_neg h1]
/-- Swaps of places from a on, below b. -/
inductive Mv (a b : Nat) : (Nat → α) → (Nat → α) → Prop
  | refl (f) : Mv a b f f
  | step {f g i j} : Mv a b f g → a ≤ i → i < b → a ≤ j → j < b → Mv a b f (swp g i j)
theorem Mv.one {a b i j : Nat} (f : Nat → α) (h1 : a ≤ i) (h2 : i < b) (h3 : a ≤ j) (h4 : j < b) : Mv a b f (swp f i j) := .step (.refl f) h1 h2 h3 h4
theorem Mv.trans {a b : Nat} {f g h : Nat → α} (h1 : Mv a b f g) (h2 : Mv a b g h) : Mv a b f h := by
  induction h2 with
  | refl => exact h1
  | step _ p q r s ih => exact ih.step p q r s
theorem Mv.mono {a b c d : Nat} {f g : Nat → α} (h : Mv a b f g) (h1 : c ≤ a) (h2 : b ≤ d) : Mv c d f g := by
  induction h with
  | refl => exact .refl _
  | step _ p q r s ih => exact ih.step (by omega) (by omega) (by omega) (by omega)
theorem Mv.out {a b : Nat} {f g : Nat → α} (h : Mv a b f g) {k : Nat} (hk : k < a ∨ b ≤ k) : g k = f k := by
  induction h with
  | refl => rfl
  | step _ p q r s ih =>
    simp only [swp]
    rw [if_neg (by omega), if_neg (by omega)]
    exact ih
theorem Mv.all {a b : Nat} {f g : Nat → α} (h : Mv a b f g) {p : α → Prop} (hp : ∀ k, a ≤ k → k < b → p (f k)) : ∀ k, a ≤ k → k < b → p (g k) := by
  induction h with
  | refl => exact hp
  | @step g i j _ h1 h2 h3 h4 ih =>
    intro k hk1 hk2
    simp only [swp]
    split
    · exact ih j h3 h4
    · split
      · exact ih i h1 h2
      · exact ih k hk1 hk2
theorem swp_perm (f : Nat → α) {i j n : Nat} (hi : i < n) (hj : j < n) : ((List.range n).map (swp f i j)).Perm ((List.range n).map f) := by
  have e : swp f i j = fun k => f (swp id i j k) := by
    funext k
    simp only [swp, id]
    split
    · rfl
    · split <;> rfl
  have hs : ((List.range n).map (swp id i j)).Perm (List.range n) := by
    refine (List.perm_ext_iff_of_nodup ?_ List.nodup_range).2 fun x => ?_
    · refine List.Pairwise.map _ (fun a b hab => ?_) List.nodup_range
      intro he
      apply hab
      simp only [swp, id] at he
      split at he <;> split at he <;> (try split at he) <;> (try split at he) <;> omega
    · simp only [List.mem_map, List.mem_range]
      constructor
      · rintro ⟨k, hk, rfl⟩
        simp only [swp, id]
        split
        · exact hj
        · split
          · exact hi
          · exact hk
      · intro hx
        refine ⟨swp id i j x, ?_, ?_⟩
        · simp only [swp, id]
          split
          · exact hj
          · split
            · exact hi
            · exact hx
        · simp only [swp, id]
          split <;> (try split) <;> (try split) <;> (try split) <;> omega
  have e2 : (List.range n).map (fun k => f (swp id i j k)) = ((List.range n).map (swp id i j)).map f := by rw [List.map_map]; rfl
  rw [e, e2]
  exact hs.map f
theorem Mv.perm {a b n : Nat} {f g : Nat → α} (h : Mv a b f g) (hb : b ≤ n) : ((List.range n).map g).Perm ((List.range n).map f) := by
  induction h with
  | refl => exact .refl _
  | step _ p q r s ih => exact (swp_perm _ (by omega) (by omega)).trans ih

/-- Swaps of two rows of n places. -/
def swr (f : Nat → α) (a b : Nat) : Nat → Nat → α
  | 0 => f
  | n + 1 => swp (swr f a b n) (a + n) (b + n)
theorem swr_mv (f : Nat → α) {a b c d : Nat} : ∀ n, c ≤ a → c ≤ b → a + n ≤ d → b + n ≤ d → Mv c d f (swr f a b n)
  | 0, _, _, _, _ => .refl f
  | n + 1, h1, h2, h3, h4 => (swr_mv f n h1 h2 (by omega) (by omega)).step (by omega) (by omega) (by omega) (by omega)
theorem swr_at (f : Nat → α) {a b : Nat} : ∀ n, a + n ≤ b → ∀ k, swr f a b n k = if a ≤ k ∧ k < a + n then f (k - a + b) else if b ≤ k ∧ k < b + n then f (k - b + a) else f k
  | 0, _, k => by
    simp only [swr]
    rw [if_neg (by omega), if_neg (by omega)]
  | n + 1, h, k => by
    simp only [swr, swp]
    by_cases h1 : k = a + n
    · rw [if_pos h1, swr_at f n (by omega), if_neg (by omega), if_neg (by omega), if_pos (by omega)]
      congr 1; omega
    · rw [if_neg h1]
      by_cases h2 : k = b + n
      · rw [if_pos h2, swr_at f n (by omega), if_neg (by omega), if_neg (by omega), if_neg (by omega), if_pos (by omega)]
        congr 1; omega
      · rw [if_neg h2, swr_at f n (by omega)]
        have eA : (a ≤ k ∧ k < a + n) = (a ≤ k ∧ k < a + (n + 1)) := by apply propext; omega
        have eB : (b ≤ k ∧ k < b + n) = (b ≤ k ∧ k < b + (n + 1)) := by apply propext; omega
        simp only [eA, eB]
/-- Two neighbouring blocks change places. -/
def rot (f : Nat → α) (a m b : Nat) : Nat → α := fun k => if a ≤ k ∧ k < a + (b - m) then f (k - a + m) else if a + (b - m) ≤ k ∧ k < b then f (k - (b - m)) else f k
theorem rot_more (f : Nat → α) {m i j : Nat} (hj : j < i) (hi : i ≤ m) (h0 : 0 < j) : rot (swr f (m - i) m j) (m - (i - j)) m (m + j) = rot f (m - i) m (m + j) := by
  funext k
  simp only [rot]
  have hs := swr_at f (a := m - i) (b := m) j (by omega)
  by_cases c1 : k < m - i
  · rw [if_neg (by omega), if_neg (by omega), hs, if_neg (by omega), if_neg (by omega), if_neg (by omega), if_neg (by omega)]
  by_cases c2 : k < m - i + j
  · rw [if_neg (by omega), if_neg (by omega), hs, if_pos (by omega), if_pos (by omega)]
  by_cases c3 : k < m - i + j + j
  · rw [if_pos (by omega), hs, if_neg (by omega), if_pos (by omega), if_neg (by omega), if_pos (by omega)]
    congr 1; omega
  by_cases c4 : k < m + j
  · rw [if_neg (by omega), if_pos (by omega), hs, if_neg (by omega), if_neg (by omega), if_neg (by omega), if_pos (by omega)]
  · rw [if_neg (by omega), if_neg (by omega), hs, if_neg (by omega), if_neg (by omega), if_neg (by omega), if_neg (by omega)]
theorem rot_less (f : Nat → α) {m i j : Nat} (hj : i < j) (hi : i ≤ m) (h0 : 0 < i) : rot (swr f (m - i) (m + j - i) i) (m - i) m (m + (j - i)) = rot f (m - i) m (m + j) := by
  funext k
  simp only [rot]
  have hs := swr_at f (a := m - i) (b := m + j - i) i (by omega)
  by_cases c1 : k < m - i
  · rw [if_neg (by omega), if_neg (by omega), hs, if_neg (by omega), if_neg (by omega), if_neg (by omega), if_neg (by omega)]
  by_cases c2 : k < m - i + (j - i)
  · rw [if_pos (by omega), hs, if_neg (by omega), if_neg (by omega), if_pos (by omega)]
  by_cases c3 : k < m + (j - i)
  · rw [if_neg (by omega), if_pos (by omega), hs, if_pos (by omega), if_pos (by omega)]
    congr 1; omega
  by_cases c4 : k < m + j
  · rw [if_neg (by omega), if_neg (by omega), hs, if_neg (by omega), if_pos (by omega), if_neg (by omega), if_pos (by omega)]
    congr 1; omega
  · rw [if_neg (by omega), if_neg (by omega), hs, if_neg (by omega), if_neg (by omega), if_neg (by omega), if_neg (by omega)]
theorem rot_same (f : Nat → α) {m i : Nat} (hi : i ≤ m) : swr f (m - i) m i = rot f (m - i) m (m + i) := by
  funext k
  simp only [rot]
  have e : m + i - m = i := by omega
  rw [swr_at f i (by omega), e]
  repeat' split
  all_goals first
    | rfl
    | (exfalso; omega)
    | (congr 1; omega)

/-- In order from a on, below b. -/
def Srt (key : α → Nat) (a b : Nat) (f : Nat → α) : Prop := ∀ i j, a ≤ i → i ≤ j → j < b → key (f i) ≤ key (f j)
theorem Srt.sub {key : α → Nat} {a b c d : Nat} {f : Nat → α} (h : Srt key a b f) (h1 : a ≤ c) (h2 : d ≤ b) : Srt key c d f := fun i j p q r => h i j (by omega) q (by omega)
theorem Srt.join {key : α → Nat} {a m b : Nat} {f : Nat → α} (h1 : Srt key a m f) (h2 : Srt key m b f) (h3 : ∀ i j, a ≤ i → i < m → m ≤ j → j < b → key (f i) ≤ key (f j)) : Srt key a b f := by
  intro i j hi hij hj
  by_cases c : j < m
  · exact h1 i j hi hij c
  by_cases c' : i < m
  · exact h3 i j hi c' (by omega) hj
  · exact h2 i j (by omega) hij hj
theorem Srt.congr {key : α → Nat} {a b : Nat} {f g : Nat → α} (h : Srt key a b f) (he : ∀ k, a ≤ k → k < b → g k = f k) : Srt key a b g := fun i j p q r => by
  rw [he i p (by omega), he j (by omega) r]; exact h i j p q r
end Go.So
