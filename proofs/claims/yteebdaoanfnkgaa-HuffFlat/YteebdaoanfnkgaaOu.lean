/- HuffFlat's body: true at any counts. It proves no statement by itself. No conditions. -/
import Derived.Test.YteebdaoanfnkgaaOp
import Derived.Test.YteebdaoanfnkgaaZc
namespace Go.Proofs.Yteebdaoanfnkgaa
open Go Go.Vx Go.So Go.Hf Go.Pm
variable [W0]
set_option maxRecDepth 4000
set_option linter.all false
/-- Counts that are alike make lengths that differ by one. -/
theorem LenOf.alike {cs lens : List Nat} {M c : Nat} (h : LenOf cs M lens) (hc : 0 < c) (ha : ∀ i, cs.getD i 0 = 0 ∨ cs.getD i 0 = c) :
    ∃ K, (∀ i, i < cs.length → 0 < cs.getD i 0 → lens.getD i 0 = K ∨ lens.getD i 0 = K + 1) ∧ (Go.Hf.pos cs cs.length).length < 2 ^ (K + 1) ∧
      ((∀ i, i < cs.length → 0 < cs.getD i 0 → lens.getD i 0 = K) → (Go.Hf.pos cs cs.length).length ≤ 2 ^ K) ∧ ((Go.Hf.pos cs cs.length).length = 1 → ∀ i, i < cs.length → 0 < cs.getD i 0 → lens.getD i 0 = 1) := by
  have hm1 := h.m1
  obtain ⟨N, g, hN, hcn, hNM, hone, htwo⟩ := h.ex
  rw [← hN]
  by_cases h2 : 2 ≤ N
  · obtain ⟨lv, hlv, hln⟩ := htwo h2
    have hcl := coinsOf_length (fun i => cs.getD i 0) g N
    have hfull : 2 * (N - 1) ≤ (lv M).length := by
      obtain ⟨k, rfl⟩ : ∃ k, M = k + 1 := ⟨M - 1, by omega⟩
      have := lv_full hlv k (by omega) (by omega)
      omega
    obtain ⟨K, h3, h4, h5⟩ := flat hlv hc (fun x hx => by
      obtain ⟨r, hr, rfl⟩ := List.mem_map.1 hx
      have h6 := (hcn.sy r (List.mem_range.1 hr)).2.1
      have h7 := ha (g r).1
      show cs.getD (g r).1 0 = c
      omega) M 1 (Nat.le_refl _) (by omega) (by omega) (by rw [hcl]; exact hfull)
    rw [hcl] at h3 h4 h5
    rw [Nat.one_mul] at h3 h4
    have hon : ∀ r, r < N → lens.getD (g r).1 0 = K + (if r < 2 * (N - 1 * 2 ^ K) then 1 else 0) := fun r hr => by
      rw [hln r hr, show 2 * N - 2 = 2 * (N - 1) from by omega]
      exact h5 r hr
    refine ⟨K, fun i hi h0 => ?_, h4, fun hall => ?_, fun h1 => by omega⟩
    · obtain ⟨r, hr, rfl⟩ := hcn.onto i hi h0
      rw [hon r hr]
      split
      · exact .inr rfl
      · exact .inl rfl
    · have h6 := hcn.sy 0 (by omega)
      have h7 := hall _ h6.1 h6.2.1
      rw [hon 0 (by omega), Nat.one_mul] at h7
      split at h7 <;> omega
  · refine ⟨1, fun i hi h0 => ?_, ?_, fun _ => ?_, fun h1 i hi h0 => ?_⟩
    · obtain ⟨r, hr, rfl⟩ := hcn.onto i hi h0
      exact .inl (hone (by omega) r hr)
    · show N < 4; omega
    · show N ≤ 2; omega
    · obtain ⟨r, hr, rfl⟩ := hcn.onto i hi h0
      exact hone h1 r hr
omit [W0] in
/-- The counts: one value, or none. -/
def cF (bs : List Bool) (k j : Nat) : Nat := if bs.getD j false then 0 else k
omit [W0] in
def clF (bs : List Bool) (k i : Nat) : List Nat := (List.range i).map (cF bs k)
omit [W0] in
def sm (l : List Nat) : Nat := (l.filter fun x => decide (0 < x)).length
theorem clF_length (bs : List Bool) (k i : Nat) : (clF bs k i).length = i := by simp [clF]
theorem clF_step (bs : List Bool) (k i : Nat) : clF bs k (i + 1) = clF bs k i ++ [cF bs k i] := by simp [clF, List.range_succ]
theorem clF_getD (bs : List Bool) (k : Nat) {n i : Nat} (h : i < n) : (clF bs k n).getD i 0 = cF bs k i := by simp [clF, List.getD, List.getElem?_range h]
theorem sm_le (l : List Nat) : sm l ≤ l.length := List.length_filter_le _ _
theorem sm_on (l : List Nat) {x : Nat} (h : 0 < x) : sm (l ++ [x]) = sm l + 1 := by simp [sm, List.filter_cons, h]
theorem sm_off (l : List Nat) : sm (l ++ [0]) = sm l := by simp [sm]
omit [W0] in
/-- The least and the greatest length so far. -/
structure Lh (lens : List Nat) (i lo hi : Nat) : Prop where
  all : ∀ j, j < i → 0 < lens.getD j 0 → lo ≤ lens.getD j 0 ∧ lens.getD j 0 ≤ hi
  at_ : (lo = 99 ∧ hi = 0) ∨ ((∃ j, j < i ∧ 0 < lens.getD j 0 ∧ lens.getD j 0 = lo) ∧ ∃ j, j < i ∧ 0 < lens.getD j 0 ∧ lens.getD j 0 = hi)
theorem Lh.skip {lens : List Nat} {i lo hi : Nat} (h : Lh lens i lo hi) (h0 : ¬ 0 < lens.getD i 0) : Lh lens (i + 1) lo hi where
  all j hj hp := by
    by_cases e : j = i
    · subst e; exact absurd hp h0
    · exact h.all j (by omega) hp
  at_ := by
    rcases h.at_ with h1 | ⟨⟨j, h1, h2, h3⟩, q, h4, h5, h6⟩
    · exact .inl h1
    · exact .inr ⟨⟨j, by omega, h2, h3⟩, q, by omega, h5, h6⟩
theorem Lh.step {lens : List Nat} {i lo hi : Nat} (h : Lh lens i lo hi) (h0 : 0 < lens.getD i 0) (h15 : lens.getD i 0 ≤ 15) : Lh lens (i + 1) (min lo (lens.getD i 0)) (max hi (lens.getD i 0)) where
  all j hj hp := by
    by_cases e : j = i
    · subst e; omega
    · have := h.all j (by omega) hp
      omega
  at_ := by
    refine .inr ?_
    rcases h.at_ with ⟨rfl, rfl⟩ | ⟨⟨j, h1, h2, h3⟩, q, h4, h5, h6⟩
    · exact ⟨⟨i, by omega, h0, by omega⟩, i, by omega, h0, by omega⟩
    · constructor
      · rcases Nat.le_total lo (lens.getD i 0) with h7 | h7
        · exact ⟨j, by omega, h2, by omega⟩
        · exact ⟨i, by omega, h0, by omega⟩
      · rcases Nat.le_total hi (lens.getD i 0) with h7 | h7
        · exact ⟨i, by omega, h0, by omega⟩
        · exact ⟨q, by omega, h5, by omega⟩
end Go.Proofs.Yteebdaoanfnkgaa
