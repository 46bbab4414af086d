/- The same bits read twice, under other bounds. It proves no statement by itself. No conditions. -/
import Derived.Test.YtkiaegkojlhaeaaDoorIt
namespace Go.Hf
open Go.Vx
set_option linter.all false
theorem hv_same {w w' t n : Nat} (h : w / 2 ^ t % 2 ^ n = w' / 2 ^ t % 2 ^ n) : hv w t n = hv w' t n := by
  rw [hv_mir, hv_mir, ← mir_mod (w / 2 ^ t) (Nat.le_refl n), ← mir_mod (w' / 2 ^ t) (Nat.le_refl n), h]
theorem rdS_sim {l : List Nat} {w w' t z z' i m : Nat} (hg : ∀ n, t + n ≤ z → t + n ≤ z' → hv w t n = hv w' t n) : ∀ f n, t + n ≤ z → t + n ≤ z' → rdS l w t z f n = (i, 0, m) →
    (rdS l w' t z' f n = (i, 0, m) ∧ t + m ≤ z') ∨ ((rdS l w' t z' f n).2.1 = 4 ∧ z' < t + m)
  | 0, n, h1, h2, h => by simp [rdS] at h
  | f + 1, n, h1, h2, h => by
    rw [rdS] at h ⊢
    rw [← hg n h1 h2]
    cases hs : symAt l n (hv w t n) with
    | some j =>
      rw [hs] at h
      simp only at h ⊢
      injection h with e1 e2
      injection e2 with e3 e4
      subst e1 e4
      exact .inl ⟨rfl, h2⟩
    | none =>
      rw [hs] at h
      simp only at h ⊢
      by_cases hx : extB l n (hv w t n) = false
      · rw [if_pos hx] at h; simp at h
      · rw [if_neg hx] at h ⊢
        by_cases hz : z ≤ t + n
        · rw [if_pos hz] at h; simp at h
        · rw [if_neg hz] at h
          by_cases hz' : z' ≤ t + n
          · rw [if_pos hz']
            refine .inr ⟨rfl, ?_⟩
            have : n < m := rdS_gt f (n + 1) h
            omega
          · rw [if_neg hz']
            exact rdS_sim hg f (n + 1) (by omega) (by omega) h
where
  rdS_gt {l : List Nat} {w t z i m : Nat} : ∀ f n, rdS l w t z f n = (i, 0, m) → n ≤ m
    | 0, n, h => by simp [rdS] at h
    | f + 1, n, h => by
      rw [rdS] at h
      cases hs : symAt l n (hv w t n) with
      | some j => rw [hs] at h; simp only at h; injection h with e1 e2; injection e2 with e3 e4; omega
      | none =>
        rw [hs] at h
        simp only at h
        split at h
        · simp at h
        · split at h
          · simp at h
          · have := rdS_gt f (n + 1) h; omega
end Go.Hf
namespace Go.If
open Go.Vx Go.Hf
set_option linter.all false
/-- The same bits, as far as both go. -/
def Ag (d d' : List UInt8) : Prop := ∀ t n, t + n ≤ 8 * d.length → t + n ≤ 8 * d'.length → val d / 2 ^ t % 2 ^ n = val d' / 2 ^ t % 2 ^ n
structure Ok (d : List UInt8) (most : Nat) (s : S6) : Prop where
  e : s.e = 0
  t : s.t ≤ 8 * d.length
  o : s.out.length ≤ most
/-- The second reading, where the first went well: the same, or at its end, or too much. -/
def Sm (d' : List UInt8) (most' : Nat) (s1 s1' : S6) : Prop :=
  (s1' = s1 ∧ Ok d' most' s1) ∨ (s1'.e = 4 ∧ 8 * d'.length < s1.t) ∨ (s1'.e = 5 ∧ most' < s1.out.length)
theorem Sm.err {d' : List UInt8} {most' : Nat} {s1 s1' s2 s2' : S6} (h : (s1'.e = 4 ∧ 8 * d'.length < s1.t) ∨ (s1'.e = 5 ∧ most' < s1.out.length)) (hl : Le s1 s2) (he : s1'.e ≠ 0 → s2'.e = s1'.e) : Sm d' most' s2 s2' := by
  rcases h with ⟨h1, h2⟩ | ⟨h1, h2⟩
  · exact .inr (.inl ⟨by rw [he (by rw [h1]; decide), h1], Nat.lt_of_lt_of_le h2 hl.t⟩)
  · exact .inr (.inr ⟨by rw [he (by rw [h1]; decide), h1], Nat.lt_of_lt_of_le h2 hl.o⟩)
section
variable [W0] {d d' : List UInt8} {most most' : Nat}
theorem tk_sim (hg : Ag d d') {s : S6} {n : Nat} (h : Ok d most s) (h' : Ok d' most' s) (hA : (tk d s n).e = 0) : Sm d' most' (tk d s n) (tk d' s n) ∧ ((tk d' s n).e = 0 → tv d' s n = tv d s n) := by
  have hc : s.t + n ≤ 8 * d.length := by
    by_cases hc : s.t + n ≤ 8 * d.length
    · exact hc
    · rw [tk_no hc h.e] at hA; cases hA
  by_cases hc' : s.t + n ≤ 8 * d'.length
  · rw [tk_ok hc, tk_ok hc']
    exact ⟨.inl ⟨rfl, h'.e, hc', h'.o⟩, fun _ => by rw [tv_ok hc, tv_ok hc', hg _ _ hc hc']⟩
  · rw [tk_ok hc, tk_no hc' h.e]
    exact ⟨.inr (.inl ⟨rfl, by simp only; omega⟩), fun hh => by cases hh⟩
theorem sy_sim (hg : Ag d d') {s : S6} {l : List Nat} (h : Ok d most s) (h' : Ok d' most' s) (hA : (sy d s l).e = 0) : Sm d' most' (sy d s l) (sy d' s l) ∧ ((sy d' s l).e = 0 → sv d' s l = sv d s l) := by
  have e1 : ∀ d : List UInt8, sy d s l = ⟨s.t + (rdS l (val d) s.t (8 * d.length) 16 0).2.2, s.out, (rdS l (val d) s.t (8 * d.length) 16 0).2.1⟩ := fun d => by unfold sy fl; rw [if_pos h.e, if_pos (by exact h.e)]
  have e2 : ∀ d : List UInt8, sv d s l = (rdS l (val d) s.t (8 * d.length) 16 0).1 := fun d => by unfold sv; rw [if_pos h.e]
  rw [e1 d, e1 d', e2 d, e2 d']
  rw [e1 d] at hA
  simp only at hA
  obtain ⟨y, hr⟩ : ∃ y, rdS l (val d) s.t (8 * d.length) 16 0 = y := ⟨_, rfl⟩
  obtain ⟨i, x, m⟩ := y
  rw [hr] at hA
  simp only at hA
  subst hA
  have hsim := rdS_sim (z' := 8 * d'.length) (w' := val d') (fun n h1 h2 => hv_same (hg _ _ h1 h2)) 16 0 (by have := h.t; omega) (by have := h'.t; omega) hr
  rw [hr]
  rcases hsim with ⟨q, q2⟩ | ⟨q, q2⟩
  · rw [q]
    exact ⟨.inl ⟨rfl, rfl, q2, h'.o⟩, fun _ => rfl⟩
  · exact ⟨.inr (.inl ⟨q, q2⟩), fun hh => by simp only at hh; rw [q] at hh; cases hh⟩
theorem pt_sim {s : S6} {c : UInt8} (h : Ok d most s) (h' : Ok d' most' s) (hA : (pt most s c).e = 0) : Sm d' most' (pt most s c) (pt most' s c) := by
  have hc : s.out.length < most := by
    by_cases hc : s.out.length < most
    · exact hc
    · rw [pt_no (by omega), fl_e, if_pos h.e] at hA; cases hA
  rw [pt_ok hc]
  by_cases hc' : s.out.length < most'
  · rw [pt_ok hc']
    exact .inl ⟨rfl, h'.e, h'.t, by simp; omega⟩
  · rw [pt_no (by omega)]
    exact .inr (.inr ⟨by rw [fl_e, if_pos h.e], by simp; omega⟩)
/-- A reading keeps its own bounds. -/
theorem Sm.self {s1 : S6} (h : Sm d most s1 s1) (he : s1.e = 0) : Ok d most s1 := by
  rcases h with ⟨_, h⟩ | ⟨h, _⟩ | ⟨h, _⟩
  · exact h
  · rw [he] at h; cases h
  · rw [he] at h; cases h
theorem Ag.refl : Ag d d := fun _ _ _ _ => rfl
theorem cpL_sim {far : Nat} : ∀ n (s : S6), Ok d most s → Ok d' most' s → (cpL most far n s).e = 0 → Sm d' most' (cpL most far n s) (cpL most' far n s)
  | 0, s, h, h', _ => .inl ⟨rfl, h'⟩
  | n + 1, s, h, h', hA => by
    rw [cpL, if_pos h.e] at hA ⊢
    rw [cpL, if_pos h.e]
    generalize s.out.getD (s.out.length - far) 0 = c at hA ⊢
    have hp : (pt most s c).e = 0 := by
      by_cases hp : (pt most s c).e = 0
      · exact hp
      · rw [cpL_err hp] at hA; exact hA
    have h1 := (pt_sim (d' := d) (most' := most) h h hp).self hp
    rcases pt_sim (d' := d') (most' := most') h h' hp with ⟨q, q2⟩ | q
    · rw [q]; exact cpL_sim n _ h1 q2 hA
    · exact Sm.err q (cpL_le _ _ _ _) (fun he => by rw [cpL_err he])
end
end Go.If
