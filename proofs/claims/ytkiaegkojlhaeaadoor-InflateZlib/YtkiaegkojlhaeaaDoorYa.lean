/- Package-merge, pure: lists of coins and packages, level by level; how often a symbol is taken. It proves no statement by itself. No conditions. -/
import Derived.Test.YtkiaegkojlhaeaaDoorBa
namespace Go.Pm
set_option linter.all false

/-- A coin of a symbol, or a package: its worth, its symbol, how often each symbol is in it. -/
structure It where
  w : Nat
  c : Option Nat
  f : Nat → Nat
def isC (x : It) : Bool := x.c.isSome
def coin (wt : Nat → Nat) (i : Nat) : It := ⟨wt i, some i, fun j => if j = i then 1 else 0⟩
def pack (a b : It) : It := ⟨a.w + b.w, none, fun i => a.f i + b.f i⟩
def pairs : List It → List It
  | a :: b :: r => pack a b :: pairs r
  | _ => []
/-- How often a symbol is in a list. -/
def cnt (i : Nat) (l : List It) : Nat := (l.map fun x => x.f i).sum
/-- A list's worth. -/
def wor (l : List It) : Nat := (l.map It.w).sum
/-- Coins and packages in one list, by worth, each in their own order. -/
structure Mg (cs ps A : List It) : Prop where
  up : A.Pairwise fun a b => a.w ≤ b.w
  cs : A.filter isC = cs
  ps : A.filter (fun x => !isC x) = ps

theorem pairs_length : ∀ l : List It, (pairs l).length = l.length / 2
  | [] => rfl
  | [_] => by simp [pairs]
  | a :: b :: r => by
    have := pairs_length r
    simp only [pairs, List.length_cons, this]
    omega
theorem pairs_isC : ∀ (l : List It), ∀ x ∈ pairs l, isC x = false
  | [], x, h => by simp [pairs] at h
  | [_], x, h => by simp [pairs] at h
  | a :: b :: r, x, h => by
    simp only [pairs, List.mem_cons] at h
    rcases h with rfl | h
    · rfl
    · exact pairs_isC r x h
theorem pairs_take : ∀ (l : List It) (p : Nat), p ≤ (pairs l).length → (pairs l).take p = pairs (l.take (2 * p))
  | l, 0, _ => by simp [pairs]
  | [], p + 1, h => by simp [pairs] at h
  | [_], p + 1, h => by simp [pairs] at h
  | a :: b :: r, p + 1, h => by
    have h' : p ≤ (pairs r).length := by simpa [pairs] using h
    have e : 2 * (p + 1) = 2 * p + 1 + 1 := by omega
    simp only [pairs, List.take_succ_cons, e, pairs_take r p h']
theorem cnt_pairs (i : Nat) : ∀ (l : List It), l.length % 2 = 0 → cnt i (pairs l) = cnt i l
  | [], _ => rfl
  | [_], h => by simp at h
  | a :: b :: r, h => by
    have := cnt_pairs i r (by simp at h ⊢; omega)
    simp only [cnt, pairs, List.map_cons, List.sum_cons, pack] at *
    omega
theorem wor_pairs : ∀ (l : List It), l.length % 2 = 0 → wor (pairs l) = wor l
  | [], _ => rfl
  | [_], h => by simp at h
  | a :: b :: r, h => by
    have := wor_pairs r (by simp at h ⊢; omega)
    simp only [wor, pairs, List.map_cons, List.sum_cons, pack] at *
    omega
theorem cnt_app (i : Nat) (a b : List It) : cnt i (a ++ b) = cnt i a + cnt i b := by simp [cnt]
theorem wor_app (a b : List It) : wor (a ++ b) = wor a + wor b := by simp [wor]
theorem cnt_perm {i : Nat} {a b : List It} (h : a.Perm b) : cnt i a = cnt i b := (h.map _).sum_nat
theorem wor_perm {a b : List It} (h : a.Perm b) : wor a = wor b := (h.map _).sum_nat
theorem take_filter {α : Type} (q : α → Bool) : ∀ (l : List α) (m : Nat), (l.take m).filter q = (l.filter q).take ((l.take m).filter q).length
  | [], m => by simp
  | x :: r, 0 => by simp
  | x :: r, m + 1 => by
    simp only [List.take_succ_cons, List.filter_cons]
    have ih := take_filter q r m
    split
    · simp only [List.length_cons, List.take_succ_cons]
      rw [← ih]
    · exact ih
theorem filter_perm {α : Type} (q : α → Bool) : ∀ l : List α, l.Perm (l.filter q ++ l.filter fun x => !q x)
  | [] => .refl _
  | x :: r => by
    have ih := filter_perm q r
    cases h : q x with
    | true => simp only [List.filter_cons, h, if_true, Bool.not_true, Bool.false_eq_true, if_false, List.cons_append]; exact ih.cons x
    | false =>
      simp only [List.filter_cons, h, Bool.not_false, if_true, Bool.false_eq_true, if_false]
      exact (ih.cons x).trans List.perm_middle.symm

/-- The levels: lv 0 is empty, each next one is the coins and the packages of the one before. -/
structure Lv (cs : List It) (lv : Nat → List It) : Prop where
  zero : lv 0 = []
  next : ∀ k, Mg cs (pairs (lv k)) (lv (k + 1))

section
variable {cs : List It} {lv : Nat → List It} (h : Lv cs lv)
/-- Of the first m of a level: coins, packages. -/
def sC (lv : Nat → List It) (k m : Nat) : Nat := (((lv k).take m).filter isC).length
def pC (lv : Nat → List It) (k m : Nat) : Nat := (((lv k).take m).filter fun x => !isC x).length
/-- The numbers of coins taken, from the last level down. -/
def sel (lv : Nat → List It) : Nat → Nat → List Nat
  | 0, _ => []
  | k + 1, m => sC lv (k + 1) m :: sel lv k (2 * pC lv (k + 1) m)

theorem sp (lv : Nat → List It) (k m : Nat) (hm : m ≤ (lv k).length) : sC lv k m + pC lv k m = m := by
  have := (filter_perm isC ((lv k).take m)).length_eq
  simp only [List.length_append, List.length_take] at this
  unfold sC pC
  omega
include h in
theorem coins_of (k m : Nat) : ((lv (k + 1)).take m).filter isC = cs.take (sC lv (k + 1) m) := by
  have := take_filter isC (lv (k + 1)) m
  rw [(h.next k).cs] at this
  exact this
include h in
theorem packs_of (k m : Nat) : ((lv (k + 1)).take m).filter (fun x => !isC x) = (pairs (lv k)).take (pC lv (k + 1) m) := by
  have := take_filter (fun x => !isC x) (lv (k + 1)) m
  rw [(h.next k).ps] at this
  exact this
include h in
theorem pC_le (k m : Nat) : pC lv (k + 1) m ≤ (pairs (lv k)).length := by
  rw [← (h.next k).ps]
  unfold pC
  exact ((List.take_sublist m (lv (k + 1))).filter _).length_le
include h in
theorem sC_le (k m : Nat) : sC lv (k + 1) m ≤ cs.length := by
  rw [← (h.next k).cs]
  unfold sC
  exact ((List.take_sublist m (lv (k + 1))).filter _).length_le
include h in
theorem pC_two (k m : Nat) : 2 * pC lv (k + 1) m ≤ (lv k).length := by
  have := pC_le h k m
  rw [pairs_length] at this
  omega
include h in
theorem cnt_step (i k m : Nat) : cnt i ((lv (k + 1)).take m) = cnt i (cs.take (sC lv (k + 1) m)) + cnt i ((lv k).take (2 * pC lv (k + 1) m)) := by
  have h2 := pC_two h k m
  rw [cnt_perm (filter_perm isC _), cnt_app, coins_of h, packs_of h, pairs_take _ _ (pC_le h k m), cnt_pairs]
  rw [List.length_take]
  omega
include h in
theorem wor_step (k m : Nat) : wor ((lv (k + 1)).take m) = wor (cs.take (sC lv (k + 1) m)) + wor ((lv k).take (2 * pC lv (k + 1) m)) := by
  have h2 := pC_two h k m
  rw [wor_perm (filter_perm isC _), wor_app, coins_of h, packs_of h, pairs_take _ _ (pC_le h k m), wor_pairs]
  rw [List.length_take]
  omega

/-- The sum of the selections' shares. -/
def kr : List Nat → Nat
  | [] => 0
  | s :: r => s * 2 ^ r.length + kr r
theorem sel_length (lv : Nat → List It) : ∀ k m, (sel lv k m).length = k
  | 0, _ => rfl
  | k + 1, m => by simp [sel, sel_length lv k]
include h in
theorem kr_sel : ∀ k m, m ≤ (lv (k + 1)).length → kr (sel lv (k + 1) m) = m * 2 ^ k
  | 0, m, hm => by
    have h1 := sp lv 1 m hm
    have h2 := pC_le h 0 m
    rw [h.zero] at h2
    simp [pairs] at h2
    simp only [sel, kr, List.length_nil]
    simp only [Nat.zero_add] at h2 ⊢
    omega
  | k + 1, m, hm => by
    have h1 := sp lv (k + 2) m hm
    have h2 := pC_two h (k + 1) m
    have ih := kr_sel k _ h2
    rw [sel, kr, ih, sel_length, Nat.pow_succ]
    rw [show 2 * pC lv (k + 1 + 1) m * 2 ^ k = pC lv (k + 1 + 1) m * (2 ^ k * 2) from by rw [Nat.mul_comm 2, Nat.mul_assoc, Nat.mul_comm 2], ← Nat.add_mul, h1]

/-- From the last level down there are never more coins. -/
def down : List Nat → Prop
  | [] => True
  | [_] => True
  | a :: b :: r => b ≤ a ∧ down (b :: r)
theorem mem_pairs : ∀ {l : List It} {t : Nat} {x : It}, l[t]? = some x → (h2 : t < 2 * (pairs l).length) → (hp : ∀ y ∈ l, 0 < y.w) → ∃ y, (pairs l)[t / 2]? = some y ∧ x.w < y.w
  | [], t, x, h, _, _ => by simp at h
  | [_], t, x, h, h2, _ => by simp [pairs] at h2
  | a :: b :: r, 0, x, h, _, hp => by
    simp at h; subst h
    have := hp b (by simp)
    exact ⟨pack a b, rfl, by simp only [pack]; omega⟩
  | a :: b :: r, 1, x, h, _, hp => by
    simp at h; subst h
    have := hp a (by simp)
    exact ⟨pack a b, rfl, by simp only [pack]; omega⟩
  | a :: b :: r, t + 2, x, h, h2, hp => by
    have h' : r[t]? = some x := by simpa using h
    obtain ⟨y, hy, hw⟩ := mem_pairs h' (by simp [pairs] at h2; omega) (fun y hy => hp y (by simp [hy]))
    refine ⟨y, ?_, hw⟩
    rw [show (t + 2) / 2 = t / 2 + 1 from by omega]
    simpa [pairs] using hy
include h in
theorem pos (hp : ∀ x ∈ cs, 0 < x.w) : ∀ k, ∀ y ∈ lv k, 0 < y.w
  | 0, y, hy => by rw [h.zero] at hy; simp at hy
  | k + 1, y, hy => by
    cases hc : isC y with
    | true =>
      have : y ∈ (lv (k + 1)).filter isC := List.mem_filter.2 ⟨hy, hc⟩
      rw [(h.next k).cs] at this
      exact hp y this
    | false =>
      have : y ∈ (lv (k + 1)).filter fun x => !isC x := List.mem_filter.2 ⟨hy, by simp [hc]⟩
      rw [(h.next k).ps] at this
      have ih := pos hp k
      have key : ∀ (l : List It), (∀ z ∈ l, 0 < z.w) → ∀ z ∈ pairs l, 0 < z.w := by
        intro l
        induction l using pairs.induct with
        | case1 a b r ihr =>
          intro hl z hz
          simp only [pairs, List.mem_cons] at hz
          rcases hz with rfl | hz
          · have := hl a (by simp); simp only [pack]; omega
          · exact ihr (fun z hz => hl z (by simp [hz])) z hz
        | case2 l hl2 =>
          intro _ z hz
          rw [pairs] at hz
          · simp at hz
          · exact hl2
      exact key _ ih y this
include h in
theorem sel_down2 (hp : ∀ x ∈ cs, 0 < x.w) (k m : Nat) : sC lv (k + 1) (2 * pC lv (k + 2) m) ≤ sC lv (k + 2) m := by
  rcases Nat.lt_or_ge (sC lv (k + 2) m) (sC lv (k + 1) (2 * pC lv (k + 2) m)) with hlt | hle
  · exfalso
    have hn := sC_le h k (2 * pC lv (k + 2) m)
    have hcs : sC lv (k + 2) m < cs.length := by omega
    -- the coin that comes next
    obtain ⟨x, hx⟩ : ∃ x, cs[sC lv (k + 2) m]? = some x := ⟨cs[sC lv (k + 2) m], by simp [hcs]⟩
    have hin : x ∈ ((lv (k + 1)).take (2 * pC lv (k + 2) m)).filter isC := by
      rw [coins_of h]
      refine List.mem_of_getElem? (i := sC lv (k + 2) m) ?_
      rw [List.getElem?_take, if_pos hlt]; exact hx
    obtain ⟨hin1, hxc⟩ := List.mem_filter.1 hin
    obtain ⟨t, ht⟩ := List.getElem?_of_mem hin1
    rw [List.getElem?_take] at ht
    split at ht
    · rename_i htl
      have h2 : pC lv (k + 2) m ≤ (pairs (lv (k + 1))).length := pC_le h (k + 1) m
      have hpk : ((lv (k + 2)).take m).filter (fun x => !isC x) = (pairs (lv (k + 1))).take (pC lv (k + 2) m) := packs_of h (k + 1) m
      obtain ⟨y, hy, hyw⟩ := mem_pairs ht (by omega) (pos h hp (k + 1))
      have hym : y ∈ ((lv (k + 2)).take m).filter fun x => !isC x := by
        rw [hpk]
        refine List.mem_of_getElem? (i := t / 2) ?_
        rw [List.getElem?_take, if_pos (by omega)]; exact hy
      have hy1 := (List.mem_filter.1 hym).1
      -- the coin stands behind
      have hxd : x ∈ (lv (k + 2)).drop m := by
        have e : cs = ((lv (k + 2)).take m).filter isC ++ ((lv (k + 2)).drop m).filter isC := by
          rw [← List.filter_append, List.take_append_drop, (h.next (k + 1)).cs]
        have hl : (((lv (k + 2)).take m).filter isC).length = sC lv (k + 2) m := rfl
        rw [e, List.getElem?_append_right (by omega), hl, Nat.sub_self] at hx
        exact (List.mem_filter.1 (List.mem_of_getElem? hx)).1
      have hup := (h.next (k + 1)).up
      rw [← List.take_append_drop m (lv (k + 1 + 1)), List.pairwise_append] at hup
      have := hup.2.2 y hy1 x hxd
      omega
    · cases ht
  · exact hle
include h in
theorem sel_down (hp : ∀ x ∈ cs, 0 < x.w) : ∀ k m, down (sel lv k m)
  | 0, _ => trivial
  | 1, _ => trivial
  | k + 2, m => ⟨sel_down2 h hp k m, sel_down hp (k + 1) _⟩
end
end Go.Pm
