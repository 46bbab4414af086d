/- A match of the fixed codes, written and read. It proves no statement by itself. No conditions. -/
import Derived.Test.YtkiaegkojlhaeaaDoorMb
namespace Go.If
open Go.Vx Go.Hf
set_option linter.all false
/-- What a match makes. -/
def cpW (far : Nat) : Nat → List UInt8 → List UInt8
  | 0, o => o
  | k + 1, o => cpW far k (o ++ [o.getD (o.length - far) 0])
theorem cpL_fit (most far : Nat) : ∀ n s, s.e = 0 → s.out.length + n ≤ most → cpL most far n s = ⟨s.t, cpW far n s.out, 0⟩
  | 0, s, he, _ => by
    obtain ⟨t, o, e⟩ := s
    simp only at he
    subst he
    rfl
  | n + 1, s, he, h => by
    rw [cpL, if_pos he, pt_ok (by omega), cpL_fit most far n ⟨s.t, s.out ++ [s.out.getD (s.out.length - far) 0], s.e⟩ he (by simp; omega)]
    rfl
theorem fxD_cd : ∀ i, i < 4 → cd fxD i = i ∧ fxD[i]? = some 5 := by decide
theorem ln_small : ∀ k, k < 8 → baB 3 4 8 k = 3 + k ∧ exB k 4 8 = 0 := by decide
theorem ds_small : ∀ k, k < 4 → baB 1 2 4 k = 1 + k ∧ exB k 2 4 = 0 := by decide
/-- The bits behind the text: a length, a distance, the end. -/
def mtI (n far : Nat) : List (Nat × Nat) := [(mir (n - 2) 7, 7), (mir (far - 1) 5, 5), (0, 7)]
theorem fxC_len [W0] {n : Nat} (h1 : 3 ≤ n) (h2 : n ≤ 10) : fxC (254 + n) = (mir (n - 2) 7, 7) := by
  have h3 : fxK (254 + n) = n - 2 := by unfold fxK; rw [if_neg (by omega), if_neg (by omega), if_pos (by omega)]; omega
  have h4 : fxN (254 + n) = 7 := by unfold fxN; rw [if_pos (by omega)]
  unfold fxC
  rw [fx_cd' (by omega), h3, h4]
theorem match_at [W0] {d : List UInt8} {most n far f : Nat} {s : S6} (he : s.e = 0) (h1 : 3 ≤ n) (h2 : n ≤ 10) (h3 : 1 ≤ far) (h4 : far ≤ 4) (h : At d s.t (itV (mtI n far)) (itL (mtI n far))) (hm : s.out.length ≤ most) :
    cdC d most fxL fxD (f + 2) s = if s.out.length < far then ⟨s.t + 12, s.out, 3⟩ else if most < s.out.length + n then cpL most far n ⟨s.t + 12, s.out, 0⟩ else ⟨s.t + 19, cpW far n s.out, 0⟩ := by
  change At d s.t (mir (n - 2) 7 + 2 ^ 7 * (mir (far - 1) 5 + 2 ^ 5 * (0 + 2 ^ 7 * 0))) (7 + (5 + (7 + 0))) at h
  obtain ⟨a1, a2⟩ := h.split (mir_lt _ _)
  obtain ⟨a3, a4⟩ := a2.split (mir_lt _ _)
  have b1 : At d s.t (fxC (254 + n)).1 (fxC (254 + n)).2 := by rw [fxC_len h1 h2]; exact a1
  obtain ⟨s1, s2⟩ := sy_fx he (by omega) b1
  have h7 : fxN (254 + n) = 7 := by unfold fxN; rw [if_pos (by omega)]
  rw [h7] at s1
  have hd4 := fxD_cd (far - 1) (by omega)
  have b2 : At d (⟨s.t + 7, s.out, 0⟩ : S6).t (mir (cd fxD (far - 1)) 5) 5 := by rw [hd4.1]; exact a3
  obtain ⟨s3, s4⟩ := sy_at (s := ⟨s.t + 7, s.out, 0⟩) (l := fxD) (i := far - 1) (n := 5) rfl hd4.2 (by decide) (by decide) (by rw [hd4.1]; omega) b2
  have hlb : lnB (254 + n) = (n, 0) := by
    have := ln_small (n - 3) (by omega)
    unfold lnB
    rw [if_neg (by omega), show 254 + n - 257 = n - 3 from by omega, this.1, this.2]
    congr 1
    omega
  have ht7 : s.t + 7 ≤ 8 * d.length := a1.2
  have hds := ds_small (far - 1) (by omega)
  have hS : dsS d fxD ⟨s.t + 7, s.out, 0⟩ = ⟨s.t + 12, s.out, 0⟩ := by
    unfold dsS
    rw [s3, s4, if_neg (by simp), if_neg (by omega), hds.2, tk_zero (by simp only; have := a3.2; omega)]
  have hV : dsV d fxD ⟨s.t + 7, s.out, 0⟩ = far := by
    unfold dsV
    rw [s3, s4, hds.1, hds.2, tv_zero]
    omega
  rw [cdC, if_neg (fun hh => hh he), s1, s2, if_neg (by simp), if_neg (by omega), if_neg (by omega)]
  have hmt := mtS_ok (d := d) (most := most) (k := 254 + n) (dl := fxD) (s := ⟨s.t + 7, s.out, 0⟩) (by omega)
  rw [hlb] at hmt
  rw [tk_zero (by exact ht7), tv_zero, hS, hV] at hmt
  rw [hmt rfl]
  simp only
  by_cases c1 : s.out.length < far
  · rw [if_pos c1, if_pos c1]
    have e3 : (fl (⟨s.t + 12, s.out, 0⟩ : S6) 3) = ⟨s.t + 12, s.out, 3⟩ := by unfold fl; rw [if_pos rfl]
    rw [e3, cpL_err (show (3 : Nat) ≠ 0 by decide), cdC_err (show (3 : Nat) ≠ 0 by decide)]
  · rw [if_neg c1, if_neg c1]
    by_cases c2 : most < s.out.length + n
    · rw [if_pos c2]
      have h5 := cpL_over most far n ⟨s.t + 12, s.out, 0⟩ rfl hm c2
      simp only [Nat.add_zero]
      rw [cdC_err (show (cpL most far n ⟨s.t + 12, s.out, 0⟩).e ≠ 0 by rw [h5]; decide)]
    · rw [if_neg c2]
      simp only [Nat.add_zero]
      rw [cpL_fit most far n ⟨s.t + 12, s.out, 0⟩ rfl (by simp only; omega), fixed_end (s := ⟨s.t + 12, cpW far n s.out, 0⟩) rfl (show At d (s.t + 12) 0 7 from a4)]
theorem match_raw [W0] (b : List UInt8) {n far most : Nat} (h1 : 3 ≤ n) (h2 : n ≤ 10) (h3 : 1 ≤ far) (h4 : far ≤ 4) (hm : b.length ≤ most) :
    ∃ R, rawS (leB (itV ((3, 3) :: (fxB b ++ mtI n far))) ((itL ((3, 3) :: (fxB b ++ mtI n far)) + 7) / 8)) most = R ∧ (b.length < far → R.e = 3) ∧ (far ≤ b.length → most < b.length + n → R.e = 5) ∧ (far ≤ b.length → b.length + n ≤ most → R.e = 0 ∧ R.out = cpW far n b) := by
  have ha := at_all (a := (3, 3) :: (fxB b ++ mtI n far)) (by
    intro x hx
    rcases List.mem_cons.1 hx with rfl | hx
    · decide
    · rcases List.mem_append.1 hx with hx | hx
      · exact fxB_lt b x hx
      · simp only [mtI, List.mem_cons, List.not_mem_nil, or_false] at hx
        rcases hx with rfl | rfl | rfl
        · exact mir_lt _ _
        · exact mir_lt _ _
        · decide)
  generalize hd : leB (itV ((3, 3) :: (fxB b ++ mtI n far))) ((itL ((3, 3) :: (fxB b ++ mtI n far)) + 7) / 8) = d at ha ⊢
  change At d 0 (3 + 2 ^ 3 * itV (fxB b ++ mtI n far)) (3 + itL (fxB b ++ mtI n far)) at ha
  have h5 := (ha.split (by decide)).2
  rw [itV_app, itL_app] at h5
  have hle := h5.2
  have hge := fxB_ge b
  have hml : itL (mtI n far) = 19 := rfl
  have h6 := cdC_lits d most b ⟨3, [], 0⟩ (8 * d.length + 1) (itV (mtI n far)) (itL (mtI n far)) rfl (by omega) (by simp; exact hm) h5
  obtain ⟨g, hg⟩ : ∃ g, 8 * d.length + 1 - b.length = g + 2 := ⟨8 * d.length - 1 - b.length, by omega⟩
  rw [hg] at h6
  have h7 := match_at (d := d) (most := most) (n := n) (far := far) (f := g) (s := ⟨3 + itL (fxB b), b, 0⟩) rfl h1 h2 h3 h4 h6.2 hm
  have h8 := h6.1.trans h7
  refine ⟨_, fixed_head ha h8, fun c => ?_, fun c c2 => ?_, fun c c2 => ?_⟩
  · simp only; rw [if_pos c]
  · simp only; rw [if_neg (by omega), if_pos c2]; exact cpL_over most far n _ rfl hm c2
  · simp only; rw [if_neg (by omega), if_neg (by omega)]; exact ⟨rfl, rfl⟩
end Go.If
