/- What is written by codes, as bits. It proves no statement by itself. No conditions. -/
import Derived.Test.YteebdaoanfnkgaaOp
import Derived.Test.YteebdaoanfnkgaaYj
namespace Go.Hf
open Go.Vx Go.Pm
set_option linter.all false
/-- Bits behind do not change what is read. -/
theorem hv_high (V T x t : Nat) : ∀ n, t + n ≤ T → hv (V + 2 ^ T * x) t n = hv V t n
  | 0, _ => rfl
  | n + 1, h => by
    rw [hv, hv, hv_high V T x t n (by omega)]
    congr 1
    obtain ⟨k, rfl⟩ : ∃ k, T = (t + n) + (k + 1) := ⟨T - (t + n) - 1, by omega⟩
    have e : V + 2 ^ (t + n + (k + 1)) * x = V + 2 ^ (t + n) * (2 * (2 ^ k * x)) := by
      rw [Nat.pow_add 2 (t + n), Nat.pow_succ 2 k]
      congr 1
      rw [Nat.mul_assoc, Nat.mul_comm (2 ^ k) 2, Nat.mul_assoc]
    rw [e, Nat.add_mul_div_left _ _ (Nat.pow_pos (by decide))]
    omega
/-- A code that is written behind the others is read there. -/
theorem hv_new {V T c n : Nat} (hV : V < 2 ^ T) (hc : c < 2 ^ n) : hv (V + 2 ^ T * mir c n) T n = c := by
  rw [hv_mir, Nat.add_mul_div_left _ _ (Nat.pow_pos (by decide)), Nat.div_eq_of_lt hV, Nat.zero_add, mir_mir, Nat.mod_eq_of_lt hc]
/-- How many bits. -/
def bT (l : List Nat) (S : List Nat) : Nat := (S.map fun s => l.getD s 0).sum
theorem bT_app (l S : List Nat) (s : Nat) : bT l (S ++ [s]) = bT l S + l.getD s 0 := by simp [bT]
theorem bT_take (l S : List Nat) {j : Nat} (hj : j < S.length) : bT l (S.take (j + 1)) = bT l (S.take j) + l.getD (S.getD j 0) 0 := by
  have e : S.getD j 0 = S[j] := by simp [List.getD, hj]
  rw [List.take_add_one, List.getElem?_eq_getElem hj, e]
  exact bT_app l _ _
theorem bT_le (l S : List Nat) : ∀ j, bT l (S.take j) ≤ bT l S := by
  intro j
  have : bT l S = bT l (S.take j) + bT l (S.drop j) := by
    unfold bT
    conv => lhs; rw [← List.take_append_drop j S]
    rw [List.map_append, List.sum_append]
  omega
theorem bT_bound (l : List Nat) (h : ∀ i, l.getD i 0 ≤ 15) : ∀ S : List Nat, bT l S ≤ 15 * S.length
  | [] => by simp [bT]
  | s :: r => by
    have ih := bT_bound l h r
    have := h s
    simp only [bT, List.map_cons, List.sum_cons, List.length_cons] at *
    omega
/-- What was written: the symbols' codes, one behind the other. -/
structure Wrt (l S : List Nat) (V : Nat) : Prop where
  lt : V < 2 ^ bT l S
  in_ : ∀ s ∈ S, s < l.length ∧ 0 < l.getD s 0
  rd : ∀ j, j < S.length → hv V (bT l (S.take j)) (l.getD (S.getD j 0) 0) = cd l (S.getD j 0)
theorem Wrt.nil (l : List Nat) : Wrt l [] 0 := ⟨by simp [bT], fun s h => (by cases h), fun j h => (by simp at h)⟩
theorem cd_fit {l : List Nat} (hk : kS l ≤ 32768) (h15 : ∀ i, l.getD i 0 ≤ 15) {s : Nat} (hs : s < l.length) (h0 : 0 < l.getD s 0) : cd l s < 2 ^ l.getD s 0 := by
  have hi : l[s]? = some (l.getD s 0) := by simp [List.getD, hs]
  exact Nat.lt_of_lt_of_le (cd_in hi (by omega)).2 (fs_fit hk h0 (h15 s))
theorem Wrt.snoc [W0] {l S : List Nat} {V s : Nat} (h : Wrt l S V) (hk : kS l ≤ 32768) (h15 : ∀ i, l.getD i 0 ≤ 15) (hs : s < l.length) (h0 : 0 < l.getD s 0) : Wrt l (S ++ [s]) (V + 2 ^ bT l S * mir (cd l s) (l.getD s 0)) where
  lt := by
    rw [bT_app, Nat.pow_add]
    have h1 := h.lt
    have h2 := mir_lt (cd l s) (l.getD s 0)
    have h3 : 2 ^ bT l S * (mir (cd l s) (l.getD s 0) + 1) ≤ 2 ^ bT l S * 2 ^ l.getD s 0 := Nat.mul_le_mul_left _ h2
    rw [Nat.mul_add, Nat.mul_one] at h3
    omega
  in_ x hx := by
    rcases List.mem_append.1 hx with h1 | h1
    · exact h.in_ x h1
    · rw [List.mem_singleton.1 h1]; exact ⟨hs, h0⟩
  rd j hj := by
    rw [List.length_append, List.length_singleton] at hj
    by_cases e : j = S.length
    · subst e
      have e1 : (S ++ [s]).getD S.length 0 = s := by simp [List.getD]
      have e2 : (S ++ [s]).take S.length = S := by simp
      rw [e1, e2]
      exact hv_new h.lt (cd_fit hk h15 hs h0)
    · have hj' : j < S.length := by omega
      have e1 : (S ++ [s]).getD j 0 = S.getD j 0 := by simp only [List.getD, List.getElem?_append_left hj']
      have e2 : (S ++ [s]).take j = S.take j := by rw [List.take_append_of_le_length (by omega)]
      rw [e1, e2, hv_high _ _ _ _ _ (by
        have h1 := bT_take l S hj'
        have h2 := bT_le l S (j + 1)
        omega)]
      exact h.rd j hj'
end Go.Hf
namespace Go.Proofs.Yteebdaoanfnkgaa
open Go Go.Vx Go.So Go.Hf Go.Pm
variable [W0]
set_option maxRecDepth 4000
set_option linter.all false
/-- The codes of the lengths fit. -/
theorem LenOf.fits {cs lens : List Nat} {M : Nat} (h : LenOf cs M lens) : kS lens ≤ 32768 := by
  by_cases h2 : 2 ≤ (Go.Hf.pos cs cs.length).length
  · exact Nat.le_of_eq (h.all h2)
  · have hpos := fun i => h.pos (i := i)
    have hlen := h.len
    obtain ⟨N, g, hN, hcn, hNM, hone, htwo⟩ := h.ex
    rw [← hN] at h2
    have hp : ((List.range N).map fun r => (g r).1).Perm ((List.range lens.length).filter fun i => decide (0 < lens.getD i 0)) := by
      refine hcn.perm.trans (List.Perm.of_eq ?_)
      rw [hlen]
      refine List.filter_congr fun i hi => ?_
      exact decide_eq_decide.2 (hpos i (List.mem_range.1 hi)).symm
    rw [kS_perm hp]
    rcases Nat.eq_zero_or_pos N with h0 | h0
    · subst h0; simp
    · obtain rfl : N = 1 := by omega
      have h3 := hone rfl 0 (by omega)
      show ((([0].map fun r => (g r).1).map fun i => 2 ^ (15 - lens.getD i 0)).sum) ≤ _
      simp only [List.map_cons, List.map_nil, List.sum_cons, List.sum_nil, h3]
      decide
end Go.Proofs.Yteebdaoanfnkgaa
