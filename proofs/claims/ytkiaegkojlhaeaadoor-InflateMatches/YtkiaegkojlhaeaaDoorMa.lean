/- Streams written bit by bit, read as the document says. It proves no statement by itself. No conditions. -/
import Derived.Test.YtkiaegkojlhaeaaDoorIt
namespace Go.If
open Go.Vx Go.Hf
set_option linter.all false
/-- n bits at t that make v. -/
def At (d : List UInt8) (t v n : Nat) : Prop := val d / 2 ^ t % 2 ^ n = v ∧ t + n ≤ 8 * d.length
theorem tk_at [W0] {d : List UInt8} {s : S6} {v n : Nat} (h : At d s.t v n) : tk d s n = ⟨s.t + n, s.out, s.e⟩ ∧ tv d s n = v := ⟨tk_ok h.2, by rw [tv_ok h.2]; exact h.1⟩
theorem At.split {d : List UInt8} {t v n r m : Nat} (h : At d t (v + 2 ^ n * r) (n + m)) (hv : v < 2 ^ n) : At d t v n ∧ At d (t + n) r m := by
  obtain ⟨h1, h2⟩ := h
  rw [Nat.pow_add, Nat.mod_mul] at h1
  generalize hx : val d / 2 ^ t = x at h1
  have hp : 0 < 2 ^ n := Nat.pow_pos (by decide)
  have hlt := Nat.mod_lt x hp
  have e1 : x % 2 ^ n = v := by
    have h3 := congrArg (· % 2 ^ n) h1
    simp only [Nat.add_mul_mod_self_left] at h3
    rwa [Nat.mod_eq_of_lt hlt, Nat.mod_eq_of_lt hv] at h3
  have e2 : x / 2 ^ n % 2 ^ m = r := by
    rw [e1] at h1
    have h4 : 2 ^ n * (x / 2 ^ n % 2 ^ m) = 2 ^ n * r := by omega
    exact Nat.eq_of_mul_eq_mul_left hp h4
  refine ⟨⟨by rw [hx]; exact e1, by omega⟩, ⟨?_, by omega⟩⟩
  rw [Nat.pow_add, ← Nat.div_div_eq_div_mul, hx]
  exact e2
theorem sy_at [W0] {d : List UInt8} {s : S6} {l : List Nat} {i n : Nat} (he : s.e = 0) (hi : l[i]? = some n) (h0 : 0 < n) (h15 : n ≤ 15) (hc : cd l i < 2 ^ n) (h : At d s.t (mir (cd l i) n) n) :
    sy d s l = ⟨s.t + n, s.out, 0⟩ ∧ sv d s l = i := by
  have hb : hv (val d) s.t n = cd l i := by
    rw [hv_mir, ← mir_mod (val d / 2 ^ s.t) (Nat.le_refl n), h.1, mir_mir, Nat.mod_eq_of_lt hc]
  have hr := rd_hit (z := 8 * d.length) hi h0 h15 hb h.2
  unfold sy sv fl
  rw [if_pos he, if_pos (by exact he), if_pos he, hr]
  exact ⟨rfl, rfl⟩
def itV : List (Nat × Nat) → Nat
  | [] => 0
  | x :: r => x.1 + 2 ^ x.2 * itV r
def itL : List (Nat × Nat) → Nat
  | [] => 0
  | x :: r => x.2 + itL r
theorem itL_app : ∀ a b : List (Nat × Nat), itL (a ++ b) = itL a + itL b
  | [], b => by simp [itL]
  | x :: a, b => by rw [List.cons_append, itL, itL, itL_app a b]; omega
theorem itV_app : ∀ a b : List (Nat × Nat), itV (a ++ b) = itV a + 2 ^ itL a * itV b
  | [], b => by simp [itV, itL]
  | x :: a, b => by
    rw [List.cons_append, itV, itV, itL, itV_app a b, Nat.mul_add, Nat.pow_add, Nat.mul_assoc]
    omega
theorem itV_lt : ∀ {a : List (Nat × Nat)}, (∀ x ∈ a, x.1 < 2 ^ x.2) → itV a < 2 ^ itL a
  | [], _ => by simp [itV, itL]
  | x :: a, h => by
    have h1 := h x List.mem_cons_self
    have h2 := itV_lt (a := a) (fun y hy => h y (List.mem_cons_of_mem _ hy))
    rw [itV, itL, Nat.pow_add]
    have h3 : 2 ^ x.2 * (itV a + 1) ≤ 2 ^ x.2 * 2 ^ itL a := Nat.mul_le_mul_left _ h2
    rw [Nat.mul_add] at h3
    omega
/-- What was written, read. -/
theorem at_all [W0] {a : List (Nat × Nat)} (h : ∀ x ∈ a, x.1 < 2 ^ x.2) : At (leB (itV a) ((itL a + 7) / 8)) 0 (itV a) (itL a) := by
  have hlt := itV_lt h
  have hle : itL a ≤ 8 * ((itL a + 7) / 8) := by omega
  have h2 : itV a < 2 ^ (8 * ((itL a + 7) / 8)) := Nat.lt_of_lt_of_le hlt (Nat.pow_le_pow_right (by decide) hle)
  refine ⟨?_, by rw [leB_length]; omega⟩
  rw [val_leB, Nat.mod_eq_of_lt h2, Nat.pow_zero, Nat.div_one, Nat.mod_eq_of_lt hlt]
/-- A symbol of the fixed codes. -/
def fxC (c : Nat) : Nat × Nat := (mir (cd fxL c) (fxN c), fxN c)
def fxK (c : Nat) : Nat := if c < 144 then 48 + c else if c < 256 then 400 + c - 144 else if c < 280 then c - 256 else 192 + c - 280
theorem fx_cd : ((List.range 288).all fun c => cd fxL c == fxK c) = true := by kernel_rfl
theorem fx_cd' {c : Nat} (h : c < 288) : cd fxL c = fxK c := by
  have := List.all_eq_true.1 fx_cd c (List.mem_range.2 h)
  exact eq_of_beq this
theorem fxN_le (c : Nat) : 7 ≤ fxN c ∧ fxN c ≤ 9 := by
  unfold fxN
  repeat' split
  all_goals omega
theorem fx_lt {c : Nat} (h : c < 288) : cd fxL c < 2 ^ fxN c := by
  rw [fx_cd' h]
  unfold fxK fxN
  repeat' split
  all_goals omega
theorem fx_get {c : Nat} (h : c < 288) : fxL[c]? = some (fxN c) := by simp [fxL, h]
theorem fxC_lt [W0] (c : Nat) : (fxC c).1 < 2 ^ (fxC c).2 := mir_lt _ _
def fxB (b : List UInt8) : List (Nat × Nat) := b.map fun c => fxC c.toNat
theorem fxB_lt [W0] (b : List UInt8) : ∀ x ∈ fxB b, x.1 < 2 ^ x.2 := by
  intro x hx
  obtain ⟨c, _, rfl⟩ := List.mem_map.1 hx
  exact fxC_lt _
theorem fxB_le : ∀ b : List UInt8, itL (fxB b) ≤ 9 * b.length
  | [] => Nat.le_refl _
  | c :: r => by
    have h1 := fxB_le r
    have h2 := (fxN_le c.toNat).2
    show (fxC c.toNat).2 + itL (fxB r) ≤ _
    rw [List.length_cons]
    show fxN c.toNat + _ ≤ _
    omega
/-- A symbol of the fixed codes, read. -/
theorem sy_fx [W0] {d : List UInt8} {s : S6} {c : Nat} (he : s.e = 0) (hc : c < 288) (h : At d s.t (fxC c).1 (fxC c).2) : sy d s fxL = ⟨s.t + fxN c, s.out, 0⟩ ∧ sv d s fxL = c :=
  sy_at he (fx_get hc) (by have := fxN_le c; omega) (by have := fxN_le c; omega) (fx_lt hc) h
theorem cdC_lits [W0] (d : List UInt8) (most : Nat) : ∀ (b : List UInt8) (s : S6) (f r m : Nat), s.e = 0 → b.length ≤ f → s.out.length + b.length ≤ most → At d s.t (itV (fxB b) + 2 ^ itL (fxB b) * r) (itL (fxB b) + m) →
    cdC d most fxL fxD f s = cdC d most fxL fxD (f - b.length) ⟨s.t + itL (fxB b), s.out ++ b, 0⟩ ∧ At d (s.t + itL (fxB b)) r m
  | [], s, f, r, m, he, hf, ho, h => by
    have e : (⟨s.t + itL (fxB []), s.out ++ [], 0⟩ : S6) = s := by
      obtain ⟨t, o, e⟩ := s
      simp only at he
      subst he
      simp [fxB, itL]
    refine ⟨by rw [e]; rfl, ?_⟩
    have := h.split (v := 0) (n := 0) (by decide)
    simpa [fxB, itL, itV] using h
  | c :: b, s, f, r, m, he, hf, ho, h => by
    obtain ⟨g, rfl⟩ : ∃ g, f = g + 1 := ⟨f - 1, by simp at hf; omega⟩
    have hsp : At d s.t ((fxC c.toNat).1 + 2 ^ (fxC c.toNat).2 * (itV (fxB b) + 2 ^ itL (fxB b) * r)) ((fxC c.toNat).2 + (itL (fxB b) + m)) := by
      have e1 : itV (fxB (c :: b)) + 2 ^ itL (fxB (c :: b)) * r = (fxC c.toNat).1 + 2 ^ (fxC c.toNat).2 * (itV (fxB b) + 2 ^ itL (fxB b) * r) := by
        show (fxC c.toNat).1 + 2 ^ (fxC c.toNat).2 * itV (fxB b) + 2 ^ ((fxC c.toNat).2 + itL (fxB b)) * r = _
        rw [Nat.pow_add, Nat.mul_add, Nat.mul_assoc]
        omega
      have e2 : itL (fxB (c :: b)) + m = (fxC c.toNat).2 + (itL (fxB b) + m) := by
        show (fxC c.toNat).2 + itL (fxB b) + m = _
        omega
      rw [e1, e2] at h
      exact h
    obtain ⟨h1, h2⟩ := hsp.split (fxC_lt _)
    have hc := c.toNat_lt
    obtain ⟨hs1, hs2⟩ := sy_fx he (by omega) h1
    rw [cdC, if_neg (fun hh => hh he), hs1, hs2, if_neg (by simp), if_pos hc, pt_ok (by simp at ho ⊢; omega)]
    have ih := cdC_lits d most b ⟨s.t + fxN c.toNat, s.out ++ [UInt8.ofNat c.toNat], 0⟩ g r m rfl (by simp at hf; omega) (by simp at ho ⊢; omega) h2
    rw [ih.1]
    simp only
    have e3 : s.t + fxN c.toNat + itL (fxB b) = s.t + itL (fxB (c :: b)) := by
      show s.t + fxN c.toNat + itL (fxB b) = s.t + ((fxC c.toNat).2 + itL (fxB b))
      show _ = s.t + (fxN c.toNat + itL (fxB b))
      omega
    refine ⟨?_, by rw [← e3]; exact ih.2⟩
    rw [e3, UInt8.ofNat_toNat]
    simp
end Go.If
