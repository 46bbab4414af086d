/- The plain model of package fs: names in order, files, the journal; what each call makes of it. No program is named here. No conditions. -/
import Derived.Lib.Bytealg
namespace Go.Vx
open Go
set_option linter.all false

def kcmp (a b : ByteArray) : Int := Lib.compareBytes a.data.toList b.data.toList

theorem cb_eq : ∀ (a b : List UInt8), Lib.compareBytes a b = 0 ↔ a = b
  | [], [] => by simp [Lib.compareBytes]
  | [], _ :: _ => by simp [Lib.compareBytes]
  | _ :: _, [] => by simp [Lib.compareBytes]
  | a :: as, b :: bs => by
    unfold Lib.compareBytes
    have ih := cb_eq as bs
    by_cases h1 : a < b
    · have : a ≠ b := by intro e; subst e; exact absurd h1 (UInt8.lt_irrefl a)
      simp [h1, this]
    · by_cases h2 : b < a
      · have : a ≠ b := by intro e; subst e; exact absurd h2 (UInt8.lt_irrefl a)
        simp [h1, h2, this]
      · have : a = b := UInt8.le_antisymm (UInt8.not_lt.1 h2) (UInt8.not_lt.1 h1)
        subst this
        simp [h1, ih]
theorem cb_neg : ∀ (a b : List UInt8), Lib.compareBytes a b < 0 ↔ 0 < Lib.compareBytes b a
  | [], [] => by simp [Lib.compareBytes]
  | [], _ :: _ => by simp [Lib.compareBytes]
  | _ :: _, [] => by simp [Lib.compareBytes]
  | a :: as, b :: bs => by
    unfold Lib.compareBytes
    have ih := cb_neg as bs
    by_cases h1 : a < b
    · have h2 : ¬ b < a := fun h => absurd (UInt8.lt_trans h1 h) (UInt8.lt_irrefl a)
      simp [h1, h2]
    · by_cases h2 : b < a
      · simp [h1, h2]
      · simp [h1, h2, ih]
theorem cb_trans : ∀ (a b c : List UInt8), Lib.compareBytes a b < 0 → Lib.compareBytes b c < 0 → Lib.compareBytes a c < 0
  | [], [], _, h, _ => by simp [Lib.compareBytes] at h
  | [], _ :: _, [], _, h => by simp [Lib.compareBytes] at h
  | [], _ :: _, _ :: _, _, _ => by simp [Lib.compareBytes]
  | _ :: _, [], _, h, _ => by simp [Lib.compareBytes] at h
  | _ :: _, _ :: _, [], _, h => by simp [Lib.compareBytes] at h
  | a :: as, b :: bs, c :: cs, h1, h2 => by
    have ih := cb_trans as bs cs
    unfold Lib.compareBytes at h1 h2 ⊢
    by_cases e1 : a < b
    · by_cases e2 : b < c
      · have := UInt8.lt_trans e1 e2; simp [this]
      · by_cases e3 : c < b
        · simp [e2, e3] at h2
        · have : b = c := UInt8.le_antisymm (UInt8.not_lt.1 e3) (UInt8.not_lt.1 e2)
          subst this; simp [e1]
    · by_cases e1' : b < a
      · simp [e1, e1'] at h1
      · have : a = b := UInt8.le_antisymm (UInt8.not_lt.1 e1') (UInt8.not_lt.1 e1)
        subst this
        by_cases e2 : a < c
        · simp [e2]
        · by_cases e3 : c < a
          · simp [e2, e3] at h2
          · simp [e1] at h1
            simp [e2, e3] at h2 ⊢
            exact ih h1 h2
theorem kcmp_eq {a b : ByteArray} : kcmp a b = 0 ↔ a = b := by
  unfold kcmp
  rw [cb_eq]
  constructor
  · intro h; cases a; cases b; simp only [ByteArray.mk.injEq]; exact Array.ext' h
  · intro h; rw [h]
theorem kcmp_neg {a b : ByteArray} : kcmp a b < 0 ↔ 0 < kcmp b a := cb_neg _ _
theorem kcmp_trans {a b c : ByteArray} (h1 : kcmp a b < 0) (h2 : kcmp b c < 0) : kcmp a c < 0 := cb_trans _ _ _ h1 h2
theorem kcmp_irrefl {a : ByteArray} : ¬ kcmp a a < 0 := by have : kcmp a a = 0 := kcmp_eq.2 rfl; omega

/-- An entry: a name and the number of its file. -/
structure En where
  name : ByteArray
  file : Nat

/-- Ascending by name. -/
def Asc : List En → Prop
  | [] => True
  | e :: r => (∀ x ∈ r, kcmp e.name x.name < 0) ∧ Asc r

/-- How many names are below s. -/
def pos : List En → ByteArray → Nat
  | [], _ => 0
  | e :: r, s => if kcmp e.name s < 0 then pos r s + 1 else 0
def has (l : List En) (s : ByteArray) : Bool := l.any fun e => decide (e.name = s)

theorem pos_le : ∀ (l : List En) (s : ByteArray), pos l s ≤ l.length
  | [], _ => by simp [pos]
  | e :: r, s => by unfold pos; have := pos_le r s; split <;> simp <;> omega

theorem pos_spec : ∀ {l : List En} {s : ByteArray} {k : Nat} {e : En}, Asc l → l[k]? = some e → (kcmp e.name s < 0 ↔ k < pos l s)
  | [], _, _, _, _, h => by simp at h
  | x :: r, s, 0, e, ha, h => by
    simp at h; subst h
    unfold pos; split <;> simp_all
  | x :: r, s, k + 1, e, ha, h => by
    have hr : r[k]? = some e := by simpa using h
    have hm : e ∈ r := List.mem_of_getElem? hr
    have ih := pos_spec (s := s) ha.2 hr
    unfold pos
    split
    · rw [ih]; omega
    · rename_i hx
      constructor
      · intro he; exact absurd (kcmp_trans (ha.1 e hm) he) hx
      · intro h0; omega

/-- The only place that parts the names below s from the others. -/
theorem pos_unique {l : List En} {s : ByteArray} {i : Nat} (ha : Asc l) (hi : i ≤ l.length) (h1 : ∀ k e, k < i → l[k]? = some e → kcmp e.name s < 0) (h2 : ∀ k e, i ≤ k → l[k]? = some e → ¬ kcmp e.name s < 0) : pos l s = i := by
  have hp := pos_le l s
  rcases Nat.lt_trichotomy (pos l s) i with h | h | h
  · have hlt : pos l s < l.length := by omega
    have hg : l[pos l s]? = some l[pos l s] := by simp [hlt]
    have := (pos_spec (s := s) ha hg).1 (h1 _ _ h hg)
    omega
  · exact h
  · have hlt : i < l.length := by omega
    have hg : l[i]? = some l[i] := by simp [hlt]
    exact absurd ((pos_spec (s := s) ha hg).2 h) (h2 _ _ (Nat.le_refl _) hg)

theorem asc_get : ∀ {l : List En} {i j : Nat} {a b : En}, Asc l → i < j → l[i]? = some a → l[j]? = some b → kcmp a.name b.name < 0
  | [], _, _, _, _, _, _, h, _ => by simp at h
  | x :: r, 0, j + 1, a, b, ha, _, h1, h2 => by
    simp at h1; subst h1
    exact ha.1 b (List.mem_of_getElem? (by simpa using h2))
  | x :: r, i + 1, j + 1, a, b, ha, hij, h1, h2 => asc_get (i := i) (j := j) ha.2 (by omega) (by simpa using h1) (by simpa using h2)
  | x :: r, i, 0, a, b, ha, hij, h1, h2 => by omega

theorem pos_at {l : List En} {e : En} {k : Nat} (ha : Asc l) (hk : l[k]? = some e) : pos l e.name = k := by
  have hlt : k < l.length := by
    rcases Nat.lt_or_ge k l.length with h | h
    · exact h
    · simp [List.getElem?_eq_none h] at hk
  refine pos_unique ha (by omega) (fun j x hj hx => asc_get ha hj hx hk) (fun j x hj hx h => ?_)
  rcases Nat.lt_or_ge k j with h2 | h2
  · have h3 := asc_get ha h2 hk hx
    rw [kcmp_neg] at h3; omega
  · have : j = k := by omega
    subst this
    rw [hk] at hx; cases hx
    exact kcmp_irrefl h

theorem has_iff {l : List En} {s : ByteArray} (ha : Asc l) : has l s = true ↔ ∃ e, l[pos l s]? = some e ∧ kcmp e.name s = 0 := by
  unfold has
  rw [List.any_eq_true]
  constructor
  · rintro ⟨e, hm, he⟩
    simp at he
    subst he
    obtain ⟨k, hk⟩ := List.getElem?_of_mem hm
    exact ⟨e, by rw [pos_at ha hk]; exact hk, kcmp_eq.2 rfl⟩
  · rintro ⟨e, hk, hz⟩
    exact ⟨e, List.mem_of_getElem? hk, by simpa using kcmp_eq.1 hz⟩
end Go.Vx
