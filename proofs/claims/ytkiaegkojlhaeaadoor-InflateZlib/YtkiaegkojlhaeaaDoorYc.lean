/- Package-merge, pure: what the lengths cost; counts that are alike. It proves no statement by itself. No conditions. -/
import Derived.Test.YtkiaegkojlhaeaaDoorYb
namespace Go.Pm
set_option linter.all false

section
variable {cs : List It} {lv : Nat → List It} (h : Lv cs lv)
theorem wor_take (cs : List It) (d : It) : ∀ (s n : Nat), s ≤ n → n ≤ cs.length → wor (cs.take s) = sumTo (fun r => (cs.getD r d).w * (if r < s then 1 else 0)) n := by
  intro s n hs hn
  obtain ⟨j, rfl⟩ := Nat.le.dest hs
  rw [sumTo_add]
  have e2 : sumTo (fun i => (cs.getD (s + i) d).w * (if s + i < s then 1 else 0)) j = 0 := by
    rw [sumTo_congr (h := fun _ => 0) (fun i _ => by rw [if_neg (by omega), Nat.mul_zero]), sumTo_const, Nat.mul_zero]
  rw [e2, Nat.add_zero]
  have key : ∀ t, t ≤ s → wor (cs.take t) = sumTo (fun r => (cs.getD r d).w * (if r < s then 1 else 0)) t := by
    intro t
    induction t with
    | zero => intro _; rfl
    | succ t ih =>
      intro ht
      have htl : t < cs.length := by omega
      rw [List.take_add_one, List.getElem?_eq_getElem htl, wor_app, ih (by omega), sumTo, if_pos (by omega)]
      simp [wor, List.getD, htl]
  exact key s (Nat.le_refl _)
include h in
/-- What the lengths cost is what the selected ones are worth. -/
theorem cost (d : It) : ∀ k m, sumTo (fun r => (cs.getD r d).w * ln (sel lv k m) r) cs.length = wor ((lv k).take m)
  | 0, m => by
    rw [h.zero, sumTo_congr (h := fun _ => 0) (fun i _ => by simp [sel, ln]), sumTo_const]
    simp [wor]
  | k + 1, m => by
    rw [wor_step h, ← cost d k, wor_take cs d _ cs.length (sC_le h k m) (Nat.le_refl _), ← sumTo_plus]
    refine sumTo_congr fun r _ => ?_
    rw [sel, ln_cons, Nat.mul_add]

/-- Packages of coins of one worth are worth more than a coin. -/
theorem pack_more {c : Nat} (h : Lv cs lv) (hc : 0 < c) (he : ∀ x ∈ cs, x.w = c) : ∀ k, ∀ y ∈ lv k, isC y = false → c < y.w
  | 0, y, hy, _ => by rw [h.zero] at hy; simp at hy
  | k + 1, y, hy, hyc => by
    have hm : y ∈ (lv (k + 1)).filter fun x => !isC x := List.mem_filter.2 ⟨hy, by simp [hyc]⟩
    rw [(h.next k).ps] at hm
    have hall : ∀ z ∈ lv k, c ≤ z.w := by
      intro z hz
      cases k with
      | zero => rw [h.zero] at hz; simp at hz
      | succ k =>
        cases hzc : isC z with
        | true =>
          have hz2 : z ∈ (lv (k + 1)).filter isC := List.mem_filter.2 ⟨hz, hzc⟩
          rw [(h.next k).cs] at hz2
          exact Nat.le_of_eq (he z hz2).symm
        | false => exact Nat.le_of_lt (pack_more h hc he (k + 1) z hz hzc)
    have key : ∀ (l : List It), (∀ z ∈ l, c ≤ z.w) → ∀ z ∈ pairs l, c < z.w := by
      intro l
      induction l using pairs.induct with
      | case1 a b r ihr =>
        intro hl z hz
        simp only [pairs, List.mem_cons] at hz
        rcases hz with rfl | hz
        · have := hl a (by simp); have := hl b (by simp); simp only [pack]; omega
        · exact ihr (fun z hz => hl z (by simp [hz])) z hz
      | case2 l hl2 =>
        intro _ z hz
        rw [pairs] at hz
        · simp at hz
        · exact hl2
    exact key _ hall y hm
theorem flat_sC {c : Nat} (h : Lv cs lv) (hc : 0 < c) (he : ∀ x ∈ cs, x.w = c) (k m : Nat) (hm : m ≤ (lv (k + 1)).length) : sC lv (k + 1) m = min m cs.length := by
  have h1 := sp lv (k + 1) m hm
  have h2 := sC_le h k m
  rcases Nat.lt_or_ge (sC lv (k + 1) m) (min m cs.length) with hlt | hge
  · exfalso
    have hp : 0 < pC lv (k + 1) m := by omega
    obtain ⟨y, hy⟩ : ∃ y, y ∈ ((lv (k + 1)).take m).filter fun x => !isC x := by
      have : 0 < (((lv (k + 1)).take m).filter fun x => !isC x).length := hp
      exact ⟨_, List.getElem_mem this⟩
    obtain ⟨hy1, hyc⟩ := List.mem_filter.1 hy
    have hyw := pack_more h hc he (k + 1) y (List.mem_of_mem_take hy1) (by simpa using hyc)
    obtain ⟨x, hx⟩ : ∃ x, cs[sC lv (k + 1) m]? = some x := ⟨cs[sC lv (k + 1) m]'(by omega), by simp⟩
    have hxd : x ∈ (lv (k + 1)).drop m := by
      have e : cs = ((lv (k + 1)).take m).filter isC ++ ((lv (k + 1)).drop m).filter isC := by
        rw [← List.filter_append, List.take_append_drop, (h.next k).cs]
      have hl : (((lv (k + 1)).take m).filter isC).length = sC lv (k + 1) m := rfl
      have hx' := hx
      rw [e, List.getElem?_append_right (by omega), hl, Nat.sub_self] at hx'
      exact (List.mem_filter.1 (List.mem_of_getElem? hx')).1
    have hxw := he x (List.mem_of_getElem? hx)
    have hup := (h.next k).up
    rw [← List.take_append_drop m (lv (k + 1)), List.pairwise_append] at hup
    have := hup.2.2 y hy1 x hxd
    omega
  · omega
theorem sel_none (lv : Nat → List It) (r : Nat) : ∀ k, ln (sel lv k 0) r = 0
  | 0 => rfl
  | k + 1 => by
    have e : sC lv (k + 1) 0 = 0 := by simp [sC]
    have e2 : pC lv (k + 1) 0 = 0 := by simp [pC]
    rw [sel, ln_cons, e, e2, Nat.mul_zero, sel_none lv r k]
    simp
/-- Counts that are alike: two lengths that differ by one. -/
theorem flat {c : Nat} (h : Lv cs lv) (hc : 0 < c) (he : ∀ x ∈ cs, x.w = c) : ∀ (k t : Nat), 1 ≤ t → t ≤ cs.length → cs.length ≤ t * 2 ^ k → 2 * (cs.length - t) ≤ (lv k).length →
    ∃ K, t * 2 ^ K ≤ cs.length ∧ cs.length < t * 2 ^ (K + 1) ∧ ∀ r, r < cs.length → ln (sel lv k (2 * (cs.length - t))) r = K + (if r < 2 * (cs.length - t * 2 ^ K) then 1 else 0)
  | 0, t, h1, h2, h3, h4 => by
    rw [Nat.pow_zero, Nat.mul_one] at h3
    refine ⟨0, by omega, by simp; omega, fun r hr => ?_⟩
    simp [sel, ln]
    omega
  | k + 1, t, h1, h2, h3, h4 => by
    have hs := flat_sC h hc he k _ h4
    have hsp := sp lv (k + 1) _ h4
    have hp2 := pC_two h k (2 * (cs.length - t))
    rcases Nat.lt_or_ge cs.length (2 * t) with hlt | hge
    · refine ⟨0, by simpa using h2, by rw [Nat.pow_one]; omega, fun r hr => ?_⟩
      have e1 : sC lv (k + 1) (2 * (cs.length - t)) = 2 * (cs.length - t) := by omega
      have e2 : pC lv (k + 1) (2 * (cs.length - t)) = 0 := by omega
      rw [sel, ln_cons, e1, e2, Nat.mul_zero, sel_none, Nat.pow_zero, Nat.mul_one]
      omega
    · have e1 : sC lv (k + 1) (2 * (cs.length - t)) = cs.length := by omega
      have e2 : pC lv (k + 1) (2 * (cs.length - t)) = cs.length - 2 * t := by omega
      rw [e2] at hp2
      obtain ⟨K, g1, g2, g3⟩ := flat h hc he k (2 * t) (by omega) hge (by rw [Nat.pow_succ] at h3; rw [Nat.mul_comm 2 t, Nat.mul_assoc, Nat.mul_comm 2]; exact h3) hp2
      have f : ∀ q, 2 * t * 2 ^ q = t * 2 ^ (q + 1) := fun q => by rw [Nat.pow_succ, Nat.mul_comm 2 t, Nat.mul_assoc, Nat.mul_comm 2]
      rw [f] at g1 g2
      refine ⟨K + 1, g1, g2, fun r hr => ?_⟩
      rw [sel, ln_cons, e1, e2, if_pos hr, g3 r hr, f]
      omega
end

/- worths alone -/
def psum : List Nat → List Nat
  | a :: b :: r => (a + b) :: psum r
  | _ => []
theorem pairs_w : ∀ l : List It, (pairs l).map It.w = psum (l.map It.w)
  | [] => rfl
  | [_] => rfl
  | a :: b :: r => by simp only [pairs, List.map_cons, psum, pairs_w r, pack]
/-- The levels' worths. -/
structure Lw (ws : List Nat) (lw : Nat → List Nat) : Prop where
  zero : lw 0 = []
  up : ∀ k, (lw (k + 1)).Pairwise fun a b => a ≤ b
  perm : ∀ k, (lw (k + 1)).Perm (ws ++ psum (lw k))
theorem Lv.lw {cs : List It} {lv : Nat → List It} (h : Lv cs lv) : Lw (cs.map It.w) (fun k => (lv k).map It.w) where
  zero := by rw [h.zero]; rfl
  up k := by
    rw [List.pairwise_map]
    exact (h.next k).up
  perm k := by
    have := (filter_perm isC (lv (k + 1))).map It.w
    rw [(h.next k).cs, (h.next k).ps, List.map_append, pairs_w] at this
    exact this
theorem Lw.same {ws ws' : List Nat} {lw lw' : Nat → List Nat} (h : Lw ws lw) (h' : Lw ws' lw') (hp : ws.Perm ws') : ∀ k, lw k = lw' k
  | 0 => by rw [h.zero, h'.zero]
  | k + 1 => by
    have ih := Lw.same h h' hp k
    have p : (lw (k + 1)).Perm (lw' (k + 1)) := (h.perm k).trans (((hp.append (by rw [ih])).trans (h'.perm k).symm))
    exact List.Perm.eq_of_pairwise (fun a b _ _ h1 h2 => Nat.le_antisymm h1 h2) (h.up k) (h'.up k) p
end Go.Pm
