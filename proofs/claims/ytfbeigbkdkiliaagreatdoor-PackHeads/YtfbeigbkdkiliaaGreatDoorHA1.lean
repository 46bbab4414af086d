/- Contracts and facts on the way to the top. It proves no statement by itself. No conditions. -/
import Derived.KernelRfl
import Derived.WalkKit
import Derived.StillTail
import Derived.OrdersHeld
import Derived.Lib.Bytealg
import Derived.Lib.Overlaps
import Derived.Lib.UnsafeStr
import Derived.Laws.BytesArg
import Derived.Scope
import Derived.ProofKit
import Derived.OpenShut
import Derived.JoinedCond
import Derived.Below
import Derived.Laws.IdiomStrings
import Derived.ArgAppend
import Derived.Deep.Upon
import Derived.WideKeyArr
import Derived.RangeFuncRecord
import Derived.OrdersIn
import Derived.Deep.DeepHandedRow
import Derived.Lib.LaidTab
import Derived.SizedLaws
import Derived.Lib.LaidU8T
import Derived.Shelf.Vars
import Derived.Test.YtfbeigbkdkiliaaGreatDoorRows
import Derived.Test.YtfbeigbkdkiliaaGreatDoorCards
import Derived.Test.YtfbeigbkdkiliaaGreatDoorTie
namespace Go.Df
end Go.Df
namespace Go.Dl
end Go.Dl
namespace Go.Hf
end Go.Hf
namespace Go.If
end Go.If
namespace Go.Pk
end Go.Pk
namespace Go.Pm
end Go.Pm
namespace Go.Vx
end Go.Vx
set_option linter.all false
namespace Go.Dl
def rg : Nat → List UInt8 → Nat × Nat × Nat
  | 0, _ => (0, 0, 3)
  | _ + 1, [] => (0, 0, 4)
  | k + 1, c :: b => if c.toNat < 128 then (c.toNat, 1, 0) else
      if (rg k b).2.2 = 0 then (c.toNat % 128 + 128 * (rg k b).1, (rg k b).2.1 + 1, 0) else (0, 0, (rg k b).2.2)
def rn (b : List UInt8) : Nat × Nat × Nat := if (rg 5 b).2.2 = 0 ∧ 2147483647 < (rg 5 b).1 then (0, 0, 3) else rg 5 b
def fd : Nat → Nat → List UInt8 → Option (Nat × List UInt8)
  | _, 0, d => some (0, d)
  | b, n + 1, d => if b % 2 = 0 then (fd (b / 2) n d).map (fun x => (256 * x.1, x.2)) else
      match d with
      | [] => none
      | c :: d => (fd (b / 2) n d).map (fun x => (c.toNat + 256 * x.1, x.2))
theorem fd_even {b : Nat} (n : Nat) (d : List UInt8) (h : b % 2 = 0) : fd b (n + 1) d = (fd (b / 2) n d).map (fun x => (256 * x.1, x.2)) := by
  exact if_pos h
theorem fd_nil {b : Nat} (n : Nat) (h : ¬ b % 2 = 0) : fd b (n + 1) [] = none := by
  exact if_neg h
theorem fd_cons {b : Nat} (n : Nat) (c : UInt8) (d : List UInt8) (h : ¬ b % 2 = 0) : fd b (n + 1) (c :: d) = (fd (b / 2) n d).map (fun x => (c.toNat + 256 * x.1, x.2)) := by
  exact if_neg h
def ap (base : List UInt8) (to : Nat) : Nat → List UInt8 → List UInt8 → List UInt8 × Nat
  | 0, _, out => if out.length < to then ([], 3) else (out, 0)
  | _ + 1, [], out => if out.length < to then ([], 3) else (out, 0)
  | k + 1, c :: d, out =>
    if c.toNat = 0 then ([], 3)
    else if c.toNat < 128 then
      if to - out.length < c.toNat then ([], 3)
      else if d.length < c.toNat then ([], 4)
      else ap base to k (d.drop c.toNat) (out ++ d.take c.toNat)
    else match fd (c.toNat % 16) 4 d with
      | none => ([], 4)
      | some x => match fd (c.toNat / 16 % 8) 3 x.2 with
        | none => ([], 4)
        | some y =>
          if base.length < x.1 ∨ base.length - x.1 < (if y.1 = 0 then 65536 else y.1) ∨ to - out.length < (if y.1 = 0 then 65536 else y.1) then ([], 3)
          else ap base to k y.2 (out ++ (base.drop x.1).take (if y.1 = 0 then 65536 else y.1))
theorem fd_le : ∀ (n b : Nat) (d : List UInt8) (x : Nat × List UInt8), fd b n d = some x → x.2.length ≤ d.length ∧ x.1 < 256 ^ n
  | 0, b, d, x, h => by simp [fd] at h; subst h; simp
  | n + 1, b, d, x, h => by
    by_cases hb : b % 2 = 0
    · rw [fd_even n d hb] at h
      cases hy : fd (b / 2) n d with
      | none => rw [hy] at h; simp at h
      | some y =>
        rw [hy] at h; simp at h; subst h
        have := fd_le n _ d y hy
        rw [Nat.pow_succ]; exact ⟨this.1, by have := this.2; simp only; omega⟩
    · cases d with
      | nil => rw [fd_nil n hb] at h; simp at h
      | cons c d =>
        rw [fd_cons n c d hb] at h
        cases hy : fd (b / 2) n d with
        | none => rw [hy] at h; simp at h
        | some y =>
          rw [hy] at h; simp at h; subst h
          have := fd_le n _ d y hy
          have hc := c.toNat_lt
          rw [Nat.pow_succ]; exact ⟨by simp; omega, by have := this.2; simp only; omega⟩
theorem ap_fuel (base : List UInt8) (to : Nat) : ∀ (k j : Nat) (d out : List UInt8), d.length ≤ k → d.length ≤ j → ap base to k d out = ap base to j d out
  | 0, 0, d, out, _, _ => rfl
  | 0, j + 1, d, out, h, _ => by
    cases d with
    | nil => rfl
    | cons c d => simp at h
  | k + 1, 0, d, out, _, h => by
    cases d with
    | nil => rfl
    | cons c d => simp at h
  | k + 1, j + 1, [], out, _, _ => rfl
  | k + 1, j + 1, c :: d, out, hk, hj => by
    simp only [List.length_cons] at hk hj
    rw [ap, ap]
    split
    · rfl
    · split
      · split
        · rfl
        · split
          · rfl
          · exact ap_fuel base to k j _ _ (by simp; omega) (by simp; omega)
      · cases h1 : fd (c.toNat % 16) 4 d with
        | none => rfl
        | some x =>
          simp only
          have l1 := (fd_le _ _ _ _ h1).1
          cases h2 : fd (c.toNat / 16 % 8) 3 x.2 with
          | none => rfl
          | some y =>
            simp only
            have l2 := (fd_le _ _ _ _ h2).1
            generalize (if y.1 = 0 then 65536 else y.1) = w
            rw [ap_fuel base to k j y.2 _ (by omega) (by omega)]
def Mk (base D out : List UInt8) : Prop := ∀ (to : Nat) (pre rest : List UInt8), pre.length + out.length ≤ to →
  ap base to (D ++ rest).length (D ++ rest) pre = ap base to rest.length rest (pre ++ out)
theorem Mk.nil (base : List UInt8) : Mk base [] [] := fun to pre rest h => by simp
theorem Mk.app {base D out E more : List UInt8} (h : Mk base D out) (g : Mk base E more) : Mk base (D ++ E) (out ++ more) := fun to pre rest hl => by
  have h1 := h to pre (E ++ rest) (by simp at hl; omega)
  have h2 := g to (pre ++ out) rest (by simp at hl ⊢; omega)
  rw [List.append_assoc, h1, h2, List.append_assoc]
def enc : Nat → Nat → Nat → List UInt8
  | _, 0, _ => []
  | b, n + 1, v => if b % 2 = 0 then enc (b / 2) n (v / 256) else UInt8.ofNat (v % 256) :: enc (b / 2) n (v / 256)
end Go.Dl
set_option linter.all false
namespace Go.Dl
def ctN : List UInt8 → Nat
  | [] => 0
  | c :: b => if c.toNat < 128 then 1 else if ctN b = 0 then 0 else ctN b + 1
def vl : List UInt8 → Nat
  | [] => 0
  | c :: b => c.toNat % 128 + 128 * vl b
theorem ctN_le : ∀ b, ctN b ≤ b.length
  | [] => Nat.le_refl _
  | c :: b => by
    have := ctN_le b
    rw [ctN]; split
    · simp
    · split <;> simp <;> omega
end Go.Dl
namespace Go.Pk
set_option linter.all false
open Go.Dl
def hT (c n : Nat) : List UInt8 := if h : n = 0 then [UInt8.ofNat c] else UInt8.ofNat (c + 128) :: hT (n % 128) (n / 128)
termination_by n
decreasing_by omega
def hd (kind n : Nat) : List UInt8 := hT (kind % 8 * 16 + n % 16) (n / 16)
theorem hT_nil (c : Nat) : hT c 0 = [UInt8.ofNat c] := by rw [hT]; exact dif_pos rfl
theorem hT_cons (c n : Nat) (h : n ≠ 0) : hT c n = UInt8.ofNat (c + 128) :: hT (n % 128) (n / 128) := by rw [hT]; exact dif_neg h
theorem hT_len : ∀ (k c n : Nat), n < 128 ^ k → (hT c n).length ≤ k + 1
  | 0, c, n, h => by
    have : n = 0 := by simpa using h
    subst this; rw [hT_nil]; exact Nat.le_refl _
  | k + 1, c, n, h => by
    by_cases h0 : n = 0
    · subst h0; rw [hT_nil]; simp
    · rw [hT_cons c n h0, List.length_cons]
      have := hT_len k (n % 128) (n / 128) (by rw [Nat.pow_succ] at h; omega)
      omega
def bg : Nat → Nat → List UInt8 → Nat × Nat × Nat
  | 0, _, _ => (0, 0, 3)
  | _ + 1, _, [] => (0, 0, 4)
  | k + 1, v, c :: b => if c.toNat < 128 then (v + c.toNat, 1, 0) else
      if (bg k ((v + c.toNat % 128 + 1) * 128) b).2.2 = 0 then ((bg k ((v + c.toNat % 128 + 1) * 128) b).1, (bg k ((v + c.toNat % 128 + 1) * 128) b).2.1 + 1, 0)
      else (0, 0, (bg k ((v + c.toNat % 128 + 1) * 128) b).2.2)
theorem bg_cons (k v : Nat) (c : UInt8) (b : List UInt8) : bg (k + 1) v (c :: b) = if c.toNat < 128 then (v + c.toNat, 1, 0) else
      if (bg k ((v + c.toNat % 128 + 1) * 128) b).2.2 = 0 then ((bg k ((v + c.toNat % 128 + 1) * 128) b).1, (bg k ((v + c.toNat % 128 + 1) * 128) b).2.1 + 1, 0)
      else (0, 0, (bg k ((v + c.toNat % 128 + 1) * 128) b).2.2) := rfl
def hL : Nat → Nat → Nat → Nat → List UInt8 → Nat × Nat × Nat × Nat
  | 0, _, _, _, _ => (0, 0, 0, 3)
  | _ + 1, _, _, _, [] => (0, 0, 0, 4)
  | k + 1, kind, size, i, c :: b =>
    if c.toNat < 128 then
      if 2147483647 < size + c.toNat % 128 * 2 ^ (4 + 7 * (i - 1)) then (0, 0, 0, 3)
      else if 65536 < size + c.toNat % 128 * 2 ^ (4 + 7 * (i - 1)) then (0, 0, 0, 5)
      else (kind, size + c.toNat % 128 * 2 ^ (4 + 7 * (i - 1)), i + 1, 0)
    else hL k kind (size + c.toNat % 128 * 2 ^ (4 + 7 * (i - 1))) (i + 1) b
end Go.Pk
namespace Go.Pk
set_option linter.all false
def bwH (m : Nat) : List UInt8 := if h : m < 128 then [UInt8.ofNat (m + 128)] else bwH (m / 128 - 1) ++ [UInt8.ofNat (m % 128 + 128)]
termination_by m
decreasing_by omega
def bw (n : Nat) : List UInt8 := if n < 128 then [UInt8.ofNat n] else bwH (n / 128 - 1) ++ [UInt8.ofNat (n % 128)]
def shB (L : Nat) (r : Nat × Nat × Nat) : Nat × Nat × Nat := if r.2.2 = 0 then (r.1, r.2.1 + L, 0) else (0, 0, r.2.2)
theorem shB_sh (A B : Nat) (r : Nat × Nat × Nat) : shB A (shB B r) = shB (A + B) r := by
  unfold shB
  by_cases h : r.2.2 = 0
  · rw [if_pos h, if_pos rfl, if_pos h]; simp only [Prod.mk.injEq, and_true, true_and]; omega
  · rw [if_neg h, if_neg h, if_neg h]
theorem bwH_one {m : Nat} (h : m < 128) : bwH m = [UInt8.ofNat (m + 128)] := by rw [bwH]; exact dif_pos h
theorem bwH_more {m : Nat} (h : ¬ m < 128) : bwH m = bwH (m / 128 - 1) ++ [UInt8.ofNat (m % 128 + 128)] := by rw [bwH]; exact dif_neg h
theorem bg_step (k v : Nat) (c : UInt8) (b : List UInt8) (h : ¬ c.toNat < 128) : bg (k + 1) v (c :: b) = shB 1 (bg k ((v + c.toNat % 128 + 1) * 128) b) := by
  rw [bg_cons, if_neg h]; rfl
theorem bwH_len : ∀ (f m : Nat), m < 128 ^ f → 1 ≤ (bwH m).length ∧ (bwH m).length ≤ f + 1
  | 0, m, h => by
    have : m = 0 := by simpa using h
    subst this; rw [bwH_one (by decide)]; exact ⟨Nat.le_refl _, by simp⟩
  | f + 1, m, h => by
    by_cases h1 : m < 128
    · rw [bwH_one h1]; exact ⟨Nat.le_refl _, by simp⟩
    · have ih := bwH_len f (m / 128 - 1) (by rw [Nat.pow_succ] at h; omega)
      rw [bwH_more h1, List.length_append, List.length_cons, List.length_nil]
      omega
theorem bg_bwH : ∀ (f m k : Nat) (rest : List UInt8), m < 128 ^ f → bg (k + (bwH m).length) 0 (bwH m ++ rest) = shB (bwH m).length (bg k ((m + 1) * 128) rest)
  | f, m, k, rest, h => by
    by_cases h1 : m < 128
    · rw [bwH_one h1]
      have e : (UInt8.ofNat (m + 128)).toNat = m + 128 := by simp; omega
      show bg (k + 1) 0 (UInt8.ofNat (m + 128) :: rest) = _
      rw [bg_step _ _ _ _ (by omega), e, show (0 + (m + 128) % 128 + 1) * 128 = (m + 1) * 128 by omega]
      rfl
    · match f, h with
      | 0, h => exfalso; simp at h; omega
      | f + 1, h =>
        have ih := bg_bwH f (m / 128 - 1) (k + 1) (UInt8.ofNat (m % 128 + 128) :: rest) (by rw [Nat.pow_succ] at h; omega)
        have e : (UInt8.ofNat (m % 128 + 128)).toNat = m % 128 + 128 := by simp; omega
        rw [bwH_more h1, List.length_append, List.append_assoc, List.cons_append, List.nil_append]
        rw [show k + ((bwH (m / 128 - 1)).length + [UInt8.ofNat (m % 128 + 128)].length) = k + 1 + (bwH (m / 128 - 1)).length by simp; omega, ih, bg_step _ _ _ _ (by omega), shB_sh, e]
        rw [show ((m / 128 - 1 + 1) * 128 + (m % 128 + 128) % 128 + 1) * 128 = (m + 1) * 128 by omega]
        rfl
theorem bg_bw (n : Nat) (rest : List UInt8) (hn : n ≤ 1073741824) : bg 5 0 (bw n ++ rest) = (n, (bw n).length, 0) ∧ (bw n).length ≤ 5 := by
  unfold bw
  by_cases h : n < 128
  · rw [if_pos h]
    have e : (UInt8.ofNat n).toNat = n := by simp; omega
    refine ⟨?_, by simp⟩
    show bg (4 + 1) 0 (UInt8.ofNat n :: rest) = _
    rw [bg_cons, e, if_pos h]
    simp
  · rw [if_neg h]
    have hl := bwH_len 4 (n / 128 - 1) (by omega)
    have hl4 : (bwH (n / 128 - 1)).length ≤ 4 := by
      have st : ∀ m, (m < 128 ∧ (bwH m).length = 1) ∨ (¬ m < 128 ∧ (bwH m).length = (bwH (m / 128 - 1)).length + 1) := fun m => by
        by_cases q : m < 128
        · left; rw [bwH_one q]; exact ⟨q, rfl⟩
        · right; conv => rhs; lhs; rw [bwH_more q]
          exact ⟨q, by simp⟩
      obtain ⟨m0, e0⟩ : ∃ m, m = n / 128 - 1 := ⟨_, rfl⟩
      obtain ⟨m1, e1⟩ : ∃ m, m = m0 / 128 - 1 := ⟨_, rfl⟩
      obtain ⟨m2, e2⟩ : ∃ m, m = m1 / 128 - 1 := ⟨_, rfl⟩
      have s0 := st m0
      have s1 := st m1
      have s2 := st m2
      have s3 := st (m2 / 128 - 1)
      rw [← e1] at s0
      rw [← e2] at s1
      rw [← e0]
      omega
    have h5 := bg_bwH 4 (n / 128 - 1) (5 - (bwH (n / 128 - 1)).length) (UInt8.ofNat (n % 128) :: rest) (by omega)
    rw [show 5 - (bwH (n / 128 - 1)).length + (bwH (n / 128 - 1)).length = 5 by omega] at h5
    have e : (UInt8.ofNat (n % 128)).toNat = n % 128 := by simp; omega
    refine ⟨?_, by rw [List.length_append, List.length_cons, List.length_nil]; omega⟩
    rw [List.append_assoc, List.cons_append, List.nil_append, h5, show 5 - (bwH (n / 128 - 1)).length = 4 - (bwH (n / 128 - 1)).length + 1 by omega, bg_cons, e, if_pos (by omega)]
    unfold shB
    rw [if_pos rfl, List.length_append, List.length_cons, List.length_nil]
    simp only [Prod.mk.injEq, and_true]
    omega
end Go.Pk
namespace Go.Pk
set_option linter.all false
open Go.Dl
def pkK (d : List UInt8) : Nat := (d.getD 0 0).toNat % 128 / 16
def pkS (d : List UInt8) : Nat := (d.getD 0 0).toNat % 16 + 16 * vl ((d.take (ctN d)).drop 1)
def pkE (d : List UInt8) : Nat :=
  if d = [] then 4
  else if pkK d = 0 ∨ pkK d = 5 then 3
  else if ctN d = 0 then 4
  else if 5 < ctN d then 3
  else if 2147483647 < pkS d then 3
  else if 65536 < pkS d then 5 else 0
def poF (v : Nat) (g : List UInt8) : Nat := g.foldl (fun v x => (v + 1) * 128 + x.toNat % 128) v
def poV (g : List UInt8) : Nat := poF ((g.getD 0 0).toNat % 128) (g.drop 1)
theorem ctN_cons (c : UInt8) (b : List UInt8) : ctN (c :: b) = if c.toNat < 128 then 1 else if ctN b = 0 then 0 else ctN b + 1 := rfl
theorem ctN_all : ∀ (g : List UInt8) (r : List UInt8), (∀ x ∈ g, 128 ≤ x.toNat) → ctN (g ++ r) = if ctN r = 0 then 0 else g.length + ctN r
  | [], r, _ => by
    show ctN r = _
    split
    · assumption
    · simp
  | x :: g, r, h => by
    have hx := h x (List.mem_cons_self ..)
    have ih := ctN_all g r (fun y hy => h y (List.mem_cons_of_mem _ hy))
    rw [List.cons_append, ctN_cons, if_neg (by omega), ih]
    by_cases h0 : ctN r = 0
    · rw [if_pos h0, if_pos rfl, if_pos h0]
    · rw [if_neg h0, if_neg (by omega), if_neg h0, List.length_cons]; omega
theorem poF_snoc (v : Nat) (g : List UInt8) (x : UInt8) : poF v (g ++ [x]) = (poF v g + 1) * 128 + x.toNat % 128 := by simp [poF]
theorem poV_snoc (g : List UInt8) (x : UInt8) (h : g ≠ []) : poV (g ++ [x]) = (poV g + 1) * 128 + x.toNat % 128 := by
  cases g with
  | nil => exact absurd rfl h
  | cons c g =>
    show poF (c.toNat % 128) (g ++ [x]) = (poF (c.toNat % 128) g + 1) * 128 + x.toNat % 128
    exact poF_snoc _ _ _
theorem bwH_all : ∀ (f m : Nat), m < 128 ^ f → (∀ x ∈ bwH m, 128 ≤ x.toNat) ∧ poV (bwH m) = m ∧ bwH m ≠ []
  | 0, m, h => by
    have : m = 0 := by simpa using h
    subst this
    rw [bwH_one (by decide)]
    exact ⟨by simp, rfl, by simp⟩
  | f + 1, m, h => by
    by_cases h1 : m < 128
    · rw [bwH_one h1]
      have e : (UInt8.ofNat (m + 128)).toNat = m + 128 := by simp; omega
      refine ⟨fun x hx => by simp only [List.mem_singleton] at hx; subst hx; omega, ?_, by simp⟩
      show (UInt8.ofNat (m + 128)).toNat % 128 = m
      omega
    · have ih := bwH_all f (m / 128 - 1) (by rw [Nat.pow_succ] at h; omega)
      have e : (UInt8.ofNat (m % 128 + 128)).toNat = m % 128 + 128 := by simp; omega
      rw [bwH_more h1]
      refine ⟨fun x hx => ?_, ?_, by simp⟩
      · rcases List.mem_append.1 hx with h2 | h2
        · exact ih.1 x h2
        · simp only [List.mem_singleton] at h2; subst h2; omega
      · rw [poV_snoc _ _ ih.2.2, ih.2.1, e]; omega
theorem bw_pos (n : Nat) : 1 ≤ (bw n).length := by
  unfold bw; split <;> simp
theorem bw_read (n : Nat) (rest : List UInt8) (hn : n ≤ 1073741824) : ctN (bw n ++ rest) = (bw n).length ∧ (bw n).length ≤ 5 ∧ poV (bw n) = n := by
  refine ⟨?_, (bg_bw n [] hn).2, ?_⟩
  · unfold bw
    by_cases h : n < 128
    · rw [if_pos h, List.cons_append, List.nil_append, ctN_cons, if_pos (by simp; omega)]; rfl
    · have ha := bwH_all 4 (n / 128 - 1) (by omega)
      have e : ctN (UInt8.ofNat (n % 128) :: rest) = 1 := by rw [ctN_cons, if_pos (by simp; omega)]
      rw [if_neg h, List.append_assoc, List.cons_append, List.nil_append, ctN_all _ _ ha.1, e, if_neg (by decide), List.length_append]; rfl
  · unfold bw
    by_cases h : n < 128
    · rw [if_pos h]
      show (UInt8.ofNat n).toNat % 128 = n
      simp; omega
    · have ha := bwH_all 4 (n / 128 - 1) (by omega)
      have e : (UInt8.ofNat (n % 128)).toNat = n % 128 := by simp; omega
      rw [if_neg h, poV_snoc _ _ ha.2.2, ha.2.1, e]; omega
end Go.Pk
namespace Go.Vx
open Go
set_option linter.all false
abbrev Chunk := List (Nat × Obj)
class W0 where
  os : Os
  output : Array (Nat × ByteArray)
variable [W0]
def Holds (w : World) (L : List Chunk) : Prop :=
  (L.flatten.map Prod.fst).Nodup ∧ (∀ x ∈ L.flatten, w.heap[x.1]? = some x.2) ∧ w.os = W0.os ∧ w.output = W0.output
omit [W0] in
/-- A block of cells that may be written. -/
def cl (l : List Value) (T : TypeId) : Obj := .cells l.toArray T (0, 0)
theorem Holds.lt {w : World} {L : List Chunk} (h : Holds w L) {x : Nat × Obj} (hx : x ∈ L.flatten) : x.1 < w.heap.size := by
  have := h.2.1 x hx
  rcases Nat.lt_or_ge x.1 w.heap.size with h' | h'
  · exact h'
  · simp [Array.getElem?_eq_none h'] at this
theorem Holds.same {w w' : World} {L : List Chunk} (h : Holds w L) (hh : w'.heap = w.heap) (ho : w'.os = w.os) (hq : w'.output = w.output) : Holds w' L :=
  ⟨h.1, fun x hx => by rw [hh]; exact h.2.1 x hx, ho.trans h.2.2.1, hq.trans h.2.2.2⟩
theorem Holds.perm {w : World} {L L' : List Chunk} (h : Holds w L) (hp : L.Perm L') : Holds w L' := by
  have hf : L.flatten.Perm L'.flatten := hp.flatten
  exact ⟨(hf.map Prod.fst).nodup_iff.1 h.1, fun x hx => h.2.1 x (hf.mem_iff.2 hx), h.2.2⟩
theorem Holds.alloc {w : World} {L : List Chunk} (h : Holds w L) (o : Obj) : Holds (w.alloc o) ([(w.heap.size, o)] :: L) := by
  refine ⟨?_, ?_, h.2.2⟩
  · simp only [List.flatten_cons, List.map_cons, List.singleton_append, List.nodup_cons]
    refine ⟨?_, h.1⟩
    intro hm
    obtain ⟨x, hx, he⟩ := List.mem_map.1 hm
    have := h.lt hx
    omega
  · intro x hx
    simp only [List.flatten_cons, List.mem_append, List.mem_singleton] at hx
    rcases hx with rfl | hx
    · show (w.heap.push o)[w.heap.size]? = some o
      simp
    · have := h.lt hx
      show (w.heap.push o)[x.1]? = some x.2
      rw [Array.getElem?_push, if_neg (by omega)]
      exact h.2.1 x hx
omit [W0] in
/-- Some chunk holds the block. -/
def Fnd (L : List Chunk) (b : Nat) (o : Obj) : Prop := (b, o) ∈ L.flatten
theorem Fnd.here {L : List Chunk} {b : Nat} {o : Obj} : Fnd ([(b, o)] :: L) b o := by simp [Fnd]
theorem Fnd.there {L : List Chunk} {C : Chunk} {b : Nat} {o : Obj} (h : Fnd L b o) : Fnd (C :: L) b o := by
  simp only [Fnd, List.flatten_cons, List.mem_append] at *; exact .inr h
theorem Fnd.mem {L : List Chunk} {C : Chunk} {b : Nat} {o : Obj} (h : (b, o) ∈ C) : Fnd (C :: L) b o := by
  simp only [Fnd, List.flatten_cons, List.mem_append]; exact .inl h
theorem Fnd.get {w : World} {L : List Chunk} {b : Nat} {o : Obj} (h : Fnd L b o) (hH : Holds w L) : w.heap[b]? = some o := hH.2.1 _ h
omit [W0] in
/-- A chunk of one block is turned. -/
inductive Upd : List Chunk → Nat → Obj → Obj → List Chunk → Prop
  | here {L b o o'} : Upd ([(b, o)] :: L) b o o' ([(b, o')] :: L)
  | there {C L L' b o o'} : Upd L b o o' L' → Upd (C :: L) b o o' (C :: L')
theorem Upd.fnd {L L' : List Chunk} {b : Nat} {o o' : Obj} (h : Upd L b o o' L') : Fnd L b o := by
  induction h with
  | here => exact .here
  | there _ ih => exact .there ih
theorem Upd.keys {L L' : List Chunk} {b : Nat} {o o' : Obj} (h : Upd L b o o' L') : L'.flatten.map Prod.fst = L.flatten.map Prod.fst := by
  induction h with
  | here => simp
  | there _ ih => simp [ih]
theorem Upd.mem {L L' : List Chunk} {b : Nat} {o o' : Obj} (h : Upd L b o o' L') (hn : (L.flatten.map Prod.fst).Nodup) :
    ∀ x ∈ L'.flatten, x = (b, o') ∨ (x.1 ≠ b ∧ x ∈ L.flatten) := by
  induction h with
  | @here L b o o' =>
    intro x hx
    simp only [List.flatten_cons, List.singleton_append, List.mem_cons, List.map_cons, List.nodup_cons] at *
    rcases hx with rfl | hx
    · exact .inl rfl
    · refine .inr ⟨fun he => hn.1 ?_, .inr hx⟩
      rw [← he]; exact List.mem_map_of_mem hx
  | @there C L L' b o o' hu ih =>
    intro x hx
    simp only [List.flatten_cons, List.mem_append, List.map_append] at *
    rw [List.nodup_append] at hn
    rcases hx with hx | hx
    · refine .inr ⟨fun he => ?_, .inl hx⟩
      have := hu.fnd
      exact hn.2.2 x.1 (List.mem_map_of_mem hx) b (List.mem_map_of_mem (f := Prod.fst) this) he
    · rcases ih hn.2.1 x hx with h | h
      · exact .inl h
      · exact .inr ⟨h.1, .inr h.2⟩
theorem Holds.upd {w w' : World} {L L' : List Chunk} {b : Nat} {o o' : Obj} (h : Holds w L) (hu : Upd L b o o' L')
    (hb : w'.heap[b]? = some o') (ho : ∀ c, c ≠ b → w'.heap[c]? = w.heap[c]?) (hos : w'.os = w.os) (hq : w'.output = w.output) : Holds w' L' := by
  refine ⟨by rw [hu.keys]; exact h.1, fun x hx => ?_, hos.trans h.2.2.1, hq.trans h.2.2.2⟩
  rcases hu.mem h.1 x hx with rfl | ⟨hne, hm⟩
  · exact hb
  · rw [ho _ hne]; exact h.2.1 x hm
omit [W0] in
/-- A chunk is taken out. -/
inductive Take : Chunk → List Chunk → List Chunk → Prop
  | here {C L} : Take C (C :: L) L
  | there {C D L L'} : Take C L L' → Take C (D :: L) (D :: L')
theorem Take.perm {C : Chunk} {L L' : List Chunk} (h : Take C L L') : L.Perm (C :: L') := by
  induction h with
  | here => exact .refl _
  | there _ ih => exact (ih.cons _).trans (.swap _ _ _)
theorem Holds.take {w : World} {C : Chunk} {L L' : List Chunk} (h : Holds w L) (ht : Take C L L') : Holds w (C :: L') := h.perm ht.perm
theorem Holds.split {w : World} {C D : Chunk} {L : List Chunk} : Holds w ((C ++ D) :: L) ↔ Holds w (C :: D :: L) := by
  simp [Holds, List.append_assoc]
theorem Holds.nil {w : World} {L : List Chunk} : Holds w ([] :: L) ↔ Holds w L := by simp [Holds]
theorem Holds.drop {w : World} {C : Chunk} {L : List Chunk} (h : Holds w (C :: L)) : Holds w L := by
  refine ⟨?_, fun x hx => h.2.1 x (by simp only [List.flatten_cons, List.mem_append]; exact .inr hx), h.2.2⟩
  have := h.1
  simp only [List.flatten_cons, List.map_append, List.nodup_append] at this
  exact this.2.1
omit [W0] in
def aggB (P : Program) (t : TypeId) : Bool := match P.underlying t with | some (.struct _) | some (.array _ _) | none => true | _ => false
omit [W0] in
def aggT (P : Program) (t : TypeId) : Bool := match P.underlying t with | some (.struct _) | some (.array _ _) => true | _ => false
omit [W0] in
/-- The function has a body that is run. -/
def bodyB (P : Program) (f : FuncId) : Bool := match P.funcs[f]? with
  | some fn => fn.name != "runtime.NumGoroutine" && fn.body.isSome
  | none => false
omit [W0] in
class NA (P : Program) (t : Nat) : Prop where out : aggB P t = false
omit [W0] in
class AG (P : Program) (t : Nat) (k : outParam Nat) : Prop where out : aggT P t = true ∧ (P.info? t).map (·.size) = some k
omit [W0] in
class SZ (P : Program) (t : Nat) (k : outParam Nat) : Prop where out : (P.info? t).map (·.size) = some k
omit [W0] in
def fldOff (P : Program) (s f : Nat) : Option Nat := match P.underlying s with
  | some (.struct fs) => match fs[f]? with
    | some fd => match P.info? fd.type with
      | some i => if Nat.blt 0 i.size then some fd.offset else none
      | none => none
    | none => none
  | _ => none
omit [W0] in
class FO (P : Program) (s f : Nat) (k : outParam Nat) : Prop where out : fldOff P s f = some k
omit [W0] in
def slcOf (P : Program) (T : Nat) : Option (Nat × Nat × Nat) := match P.underlying T with
  | some (.slice e) => match P.info? e with
    | some i => if Nat.blt 0 i.size then some (e, i.size, i.bytes) else none
    | none => none
  | _ => none
omit [W0] in
class SL (P : Program) (T : Nat) (e : outParam Nat) (k : outParam Nat) (by_ : outParam Nat) : Prop where out : slcOf P T = some (e, k, by_)
omit [W0] in
class ST (P : Program) (T : Nat) : Prop where out : P.underlying T = some .string
omit [W0] in
class ZV (P : Program) (t : Nat) (z : outParam Value) : Prop where out : (P.info? t).map (·.zero) = some (some z)
omit [W0] in
class IK (P : Program) (t : Nat) (k : outParam IntKind) : Prop where out : P.underlying t = some (.int k)
omit [W0] in
class BD (P : Program) (f : Nat) : Prop where out : bodyB P f = true
omit [W0] in
def notIface (P : Program) (t : Nat) : Bool := match P.underlying t with | some (.interface _) | none => false | _ => true
omit [W0] in
class NI (P : Program) (t : Nat) : Prop where out : notIface P t = true
omit [W0] in
/-- The cell of a list. -/
def nth : List Value → Nat → Option Value
  | [], _ => none
  | v :: _, 0 => some v
  | _ :: r, i + 1 => nth r i
theorem nth_eq : ∀ (l : List Value) (i : Nat), nth l i = l[i]?
  | [], i => by simp [nth]
  | v :: r, 0 => by simp [nth]
  | v :: r, i + 1 => by simp [nth, nth_eq r i]
omit [W0] in
def lk : List (Nat × Value) → Nat → Option Value
  | [], _ => none
  | (t, v) :: r, n => bif Nat.beq t n then some v else lk r n
omit [W0] in
def ev (M : List (Nat × Value)) : Operand → Option Value
  | .tmp t => lk M t
  | .const v => some v
  | .global g => some (.pointer (some ⟨g, 0, none⟩))
  | .func f => some (.func (.func f) #[] #[])
omit [W0] in
structure St (n : Nat) (M : List (Nat × Value)) (a : Act) : Prop where
  defers : a.defers = []
  size : a.tmps.size = n
  get : ∀ t v, lk M t = some v → a.tmps[t]? = some v
theorem St.eval {n : Nat} {M : List (Nat × Value)} {a : Act} (h : St n M a) {x : Operand} {v : Value} (hx : ev M x = some v) : a.eval x = v := by
  cases x with
  | tmp t => have := h.get t v hx; simp [Act.eval, Array.getD_eq_getD_getElem?, this]
  | const u => exact Option.some.inj hx
  | global g => exact Option.some.inj hx
  | func f => exact Option.some.inj hx
theorem St.put {n : Nat} {M : List (Nat × Value)} {a : Act} (h : St n M a) {d : Nat} (v : Value) (hd : Nat.blt d n = true) : St n ((d, v) :: M) (a.put (some d) v) := by
  have hd' : d < n := by simpa [Nat.blt_eq] using hd
  refine ⟨h.defers, by simp [Act.put, h.size], fun t u ht => ?_⟩
  simp only [Act.put]
  unfold lk at ht
  by_cases e : d = t
  · subst e
    simp at ht
    subst ht
    rw [Array.getElem?_setIfInBounds_self]
    simp [h.size, hd']
  · have : Nat.beq d t = false := by
      cases hb : Nat.beq d t with
      | false => rfl
      | true => exact absurd (Nat.eq_of_beq_eq_true hb) e
    rw [this] at ht
    rw [Array.getElem?_setIfInBounds_ne e]
    exact h.get t u ht
omit [W0] in
/-- All that the smaller list knows the larger one knows. -/
def Sub (M' M : List (Nat × Value)) : Prop := ∀ t v, lk M' t = some v → lk M t = some v
theorem Sub.nil {M : List (Nat × Value)} : Sub [] M := fun t v h => by simp [lk] at h
theorem Sub.cons {M M' : List (Nat × Value)} {t : Nat} {v : Value} (h : lk M t = some v) (hs : Sub M' M) : Sub ((t, v) :: M') M := by
  intro u x hu
  unfold lk at hu
  cases hb : Nat.beq t u with
  | true => rw [hb] at hu; simp at hu; subst hu; rw [← Nat.eq_of_beq_eq_true hb]; exact h
  | false => rw [hb] at hu; exact hs u x hu
theorem St.sub {n : Nat} {M M' : List (Nat × Value)} {a : Act} (h : St n M a) (hs : Sub M' M) : St n M' a := ⟨h.defers, h.size, fun t v ht => h.get t v (hs t v ht)⟩
structure WQ (n : Nat) (q : Act → World → Prop) (M : List (Nat × Value)) (L : List Chunk) : Prop where
  out : ∀ a w, St n M a → Holds w L → q a w
structure WC (P : Program) (n : Nat) (c : Code) (Q : Exit → Act → World → Prop) (M : List (Nat × Value)) (L : List Chunk) : Prop where
  out : ∀ a w, St n M a → Holds w L → c.wp P Q a w
structure WL (P : Program) (n : Nat) (ops : Array Oper) (Q : Exit → Act → World → Prop) (rest : List Oper) (M : List (Nat × Value)) (L : List Chunk) : Prop where
  out : ∀ a w, St n M a → Holds w L → wpList P ops Q rest a w
structure OW (P : Program) (n : Nat) (o : Oper) (K : List (Nat × Value) → List Chunk → Prop) (M : List (Nat × Value)) (L : List Chunk) : Prop where
  out : ∀ a w (next : Act → World → Prop) Q, St n M a → Holds w L → (∀ M' L', K M' L' → WQ n next M' L') → o.wp P a w next Q
section
variable {P : Program} {n : Nat} {Q : Exit → Act → World → Prop} {M : List (Nat × Value)} {L : List Chunk} {K : List (Nat × Value) → List Chunk → Prop}
theorem WC.holds {L' : List Chunk} {c : Code} (h : WC P n c Q M L') (hl : ∀ w, Holds w L → Holds w L') : WC P n c Q M L := ⟨fun a w ha hw => h.out a w ha (hl w hw)⟩
theorem WC.sub {M' : List (Nat × Value)} {c : Code} (h : WC P n c Q M' L) (hs : Sub M' M) : WC P n c Q M L := ⟨fun a w ha hw => h.out a w (ha.sub hs) hw⟩
theorem WC_seq {x y : Code} (h : WC P n x (Exit.then (y.wp P Q) Q) M L) : WC P n (.seq x y) Q M L := ⟨fun a w ha hw => wp_seq (h.out a w ha hw)⟩
theorem WC_skip (h : WQ n (Q .normal) M L) : WC P n .skip Q M L := ⟨fun a w ha hw => wp_skip (h.out a w ha hw)⟩
theorem WC_exit {id : Nat} (h : WQ n (Q (.exit id)) M L) : WC P n (.exit id) Q M L := ⟨fun a w ha hw => wp_exit (h.out a w ha hw)⟩
theorem WC_label {l : Nat} (h : WQ n (Q .normal) M L) : WC P n (.label l) Q M L := ⟨fun a w ha hw => wp_label (h.out a w ha hw)⟩
theorem WC_ret (h : WQ n (Q .ret) M L) : WC P n .ret Q M L := ⟨fun a w ha hw => wp_ret (h.out a w ha hw)⟩
theorem WC_block {id : Nat} {c : Code} (h : WC P n c (Exit.inBlock id Q) M L) : WC P n (.block id c) Q M L := ⟨fun a w ha hw => wp_block (h.out a w ha hw)⟩
theorem WC_cond {c : Operand} {x y : Code} {t : Bool} (hc : ev M c = some (.bool t)) (ht : t = true → WC P n x Q M L) (hf : t = false → WC P n y Q M L) :
    WC P n (.cond c x y) Q M L := ⟨fun a w ha hw => wp_cond_split (ha.eval hc) (fun h => (ht h).out a w ha hw) (fun h => (hf h).out a w ha hw)⟩
theorem WC_true {c : Operand} {x y : Code} (hc : ev M c = some (.bool true)) (ht : WC P n x Q M L) : WC P n (.cond c x y) Q M L := ⟨fun a w ha hw => wp_cond_true (ha.eval hc) (ht.out a w ha hw)⟩
theorem WC_false {c : Operand} {x y : Code} (hc : ev M c = some (.bool false)) (ht : WC P n y Q M L) : WC P n (.cond c x y) Q M L := ⟨fun a w ha hw => wp_cond_false (ha.eval hc) (ht.out a w ha hw)⟩
theorem WC_region {id : Nat} {l : List Oper} (h : WL P n l.toArray Q l M L) : WC P n (.region id l.toArray false) Q M L := ⟨fun a w ha hw => wp_region_lit (h.out a w ha hw)⟩
theorem WL_nil {ops : Array Oper} (h : WQ n (Q .normal) M L) : WL P n ops Q [] M L := ⟨fun a w ha hw => wpList_nil (h.out a w ha hw)⟩
theorem WQ_then_normal {K : Act → World → Prop} (h : WQ n K M L) : WQ n (Exit.then K Q .normal) M L := ⟨h.out⟩
theorem WQ_then_ret {K : Act → World → Prop} (h : WQ n (Q .ret) M L) : WQ n (Exit.then K Q .ret) M L := ⟨h.out⟩
theorem WQ_then_exit {K : Act → World → Prop} {id : Nat} (h : WQ n (Q (.exit id)) M L) : WQ n (Exit.then K Q (.exit id)) M L := ⟨h.out⟩
theorem WQ_block_ret {i : Nat} (h : WQ n (Q .ret) M L) : WQ n (Exit.inBlock i Q .ret) M L := ⟨h.out⟩
theorem WQ_block_normal {i : Nat} (h : WQ n (Q .normal) M L) : WQ n (Exit.inBlock i Q .normal) M L := ⟨h.out⟩
theorem WQ_block_hit {i : Nat} (h : WQ n (Q .normal) M L) : WQ n (Exit.inBlock i Q (.exit i)) M L := ⟨fun a w ha hw => by
  show if i = i then Q .normal a w else Q (.exit i) a w
  rw [if_pos rfl]; exact h.out a w ha hw⟩
theorem WQ_block_miss {i j : Nat} (hne : Nat.beq j i = false) (h : WQ n (Q (.exit j)) M L) : WQ n (Exit.inBlock i Q (.exit j)) M L := ⟨fun a w ha hw => by
  show if j = i then Q .normal a w else Q (.exit j) a w
  rw [if_neg (by intro e; subst e; simp at hne)]; exact h.out a w ha hw⟩
theorem WQ_code {c : Code} (h : WC P n c Q M L) : WQ n (c.wp P Q) M L := ⟨h.out⟩
theorem WL_plain {ops : Array Oper} {rest : List Oper} {o : Oper} (hg : o.guard = none) (h : OW P n o (WL P n ops Q rest) M L) : WL P n ops Q (o :: rest) M L := ⟨fun a w ha hw => by
  unfold wpList
  rw [if_pos (by simp [Region.wanted, hg])]
  exact .inl (h.out a w _ Q ha hw fun M' L' hk => ⟨hk.out⟩)⟩
omit [W0] in
/-- What the guarding operation of a region has yielded. -/
def yl (ops : List Oper) (M : List (Nat × Value)) (j : Nat) : Option Value := ((ops[j]?).bind (·.dst)).bind (lk M)
theorem yielded_of {ops : List Oper} {a : Act} (ha : St n M a) {j : Nat} {v : Value} (h : yl ops M j = some v) :
    yielded ops.toArray a.tmps j = match v with | .bool b => some b | _ => none := by
  unfold yl at h
  unfold yielded
  simp only [List.getElem?_toArray]
  cases hj : ops[j]? with
  | none => simp [hj] at h
  | some o =>
    simp only [hj, Option.bind_some] at h ⊢
    cases hd : o.dst with
    | none => simp [hd] at h
    | some d =>
      simp only [hd, Option.bind_some] at h ⊢
      rw [ha.get d v h]
      cases v <;> rfl
theorem WL_on {ops : List Oper} {rest : List Oper} {o : Oper} {j : Nat} {b : Bool} (hg : o.guard = some (j, b)) (hy : yl ops M j = some (.bool b))
    (h : OW P n o (WL P n ops.toArray Q rest) M L) : WL P n ops.toArray Q (o :: rest) M L := ⟨fun a w ha hw => by
  unfold wpList
  rw [if_pos (by simp [Region.wanted, hg, yielded_of ha hy])]
  exact .inl (h.out a w _ Q ha hw fun M' L' hk => ⟨hk.out⟩)⟩
theorem WL_off {ops : List Oper} {rest : List Oper} {o : Oper} {j d : Nat} {b : Bool} (hg : o.guard = some (j, b)) (hd : o.dst = some d) (hy : yl ops M j = some (.bool (!b)))
    (hn : Nat.blt d n = true) (h : WL P n ops.toArray Q rest ((d, undef) :: M) L) : WL P n ops.toArray Q (o :: rest) M L := ⟨fun a w ha hw => by
  unfold wpList
  rw [if_neg (by simp [Region.wanted, hg, yielded_of ha hy])]
  rw [hd]
  exact h.out _ w (ha.put undef hn) hw⟩
theorem WL_off' {ops : List Oper} {rest : List Oper} {o : Oper} {j : Nat} {b : Bool} (hg : o.guard = some (j, b)) (hd : o.dst = none) (hy : yl ops M j = some (.bool (!b)))
    (h : WL P n ops.toArray Q rest M L) : WL P n ops.toArray Q (o :: rest) M L := ⟨fun a w ha hw => by
  unfold wpList
  rw [if_neg (by simp [Region.wanted, hg, yielded_of ha hy])]
  rw [hd]
  exact h.out _ w ha hw⟩
theorem WL_offu {ops : List Oper} {rest : List Oper} {o : Oper} {j d : Nat} {b : Bool} (hg : o.guard = some (j, b)) (hd : o.dst = some d) (hy : yl ops M j = some undef)
    (hn : Nat.blt d n = true) (h : WL P n ops.toArray Q rest ((d, undef) :: M) L) : WL P n ops.toArray Q (o :: rest) M L := ⟨fun a w ha hw => by
  unfold wpList
  rw [if_neg (by simp [Region.wanted, hg, yielded_of ha hy, undef])]
  rw [hd]
  exact h.out _ w (ha.put undef hn) hw⟩
theorem WL_split {ops : List Oper} {rest : List Oper} {o : Oper} {j : Nat} {b c : Bool} (hg : o.guard = some (j, b)) (hy : yl ops M j = some (.bool c))
    (ht : c = true → WL P n ops.toArray Q (o :: rest) M L) (hf : c = false → WL P n ops.toArray Q (o :: rest) M L) : WL P n ops.toArray Q (o :: rest) M L := by
  cases c
  · exact hf rfl
  · exact ht rfl
theorem OW_val {o : Oper} {d : Nat} {v : Value} (hd : o.dst = some d) (hn : Nat.blt d n = true) (hr : ∀ a w, St n M a → Holds w L → (execOp a.eval o).run P w = .ok (.value v) w)
    (h : K ((d, v) :: M) L) : OW P n o K M L := ⟨fun a w next Q ha hw hk => by
  unfold Oper.wp
  rw [hr a w ha hw, Oper.upon_value, hd]
  exact (hk _ _ h).out _ _ (ha.put v hn) hw⟩
structure EV (P : Program) (n : Nat) (o : Oper) (M : List (Nat × Value)) (L : List Chunk) (d : Nat) (v : Value) : Prop where
  dst : o.dst = some d
  run : ∀ a w, St n M a → Holds w L → (execOp a.eval o).run P w = .ok (.value v) w
theorem OW_EV {o : Oper} {d : Nat} {v : Value} (he : EV P n o M L d v) (hn : Nat.blt d n = true) (h : K ((d, v) :: M) L) : OW P n o K M L := OW_val he.dst hn he.run h
variable {d : Nat} {ty : TypeId} {ps : String} {af : Array Edge} {g : Option (Nat × Bool)} {x y : Operand} {v : Value}
theorem EV_move (hx : ev M x = some v) : EV P n ⟨some d, .move x, ty, ps, af, g⟩ M L d (v) :=
  ⟨rfl, fun a w ha _ => by simp [execOp, ha.eval hx]⟩
theorem EV_assign (hx : ev M x = some v) : EV P n ⟨some d, .assign x, ty, ps, af, g⟩ M L d (v) :=
  ⟨rfl, fun a w ha _ => by simp [execOp, ha.eval hx]⟩
theorem EV_pick {c : Operand} {b : Bool} (hc : ev M c = some (.bool b)) (hv : (if b then ev M x else ev M y) = some v) :
    EV P n ⟨some d, .pick c x y, ty, ps, af, g⟩ M L d (v) :=
  ⟨rfl, fun a w ha _ => by
    cases b
    · simp [execOp, ha.eval hc, asBool, ha.eval (x := y) (by simpa using hv)]
    · simp [execOp, ha.eval hc, asBool, ha.eval (x := x) (by simpa using hv)]⟩
theorem EV_nilCheck {ad : Addr} (hx : ev M x = some (.pointer (some ad))) :
    EV P n ⟨some d, .nilCheck x, ty, ps, af, g⟩ M L d (.pointer (some ad)) :=
  ⟨rfl, fun a w ha _ => by simp [execOp, ha.eval hx]⟩
theorem EV_extract {i : Nat} {vs : List Value} (hx : ev M x = some (.tuple vs.toArray)) (hv : nth vs i = some v) :
    EV P n ⟨some d, .extract x i, ty, ps, af, g⟩ M L d v :=
  ⟨rfl, fun a w ha _ => by rw [nth_eq] at hv; simp [execOp, ha.eval hx, Instr.extract, hv]⟩
theorem EV_not {b : Bool} {ty' : TypeId} (hx : ev M x = some (.bool b)) : EV P n ⟨some d, .unOp .not ty' x, ty, ps, af, g⟩ M L d (.bool (!b)) :=
  ⟨rfl, fun a w ha _ => by simp [execOp, ha.eval hx, Op.unary]⟩
omit [W0] in
/-- Comparisons of integers. -/
def cmpI : BinOp → Int → Int → Option Bool
  | .eql, x, y => some (x == y) | .neq, x, y => some (x != y) | .lss, x, y => some (x < y) | .leq, x, y => some (x ≤ y) | .gtr, x, y => some (x > y) | .geq, x, y => some (x ≥ y)
  | _, _, _ => none
theorem EV_cmp {op : BinOp} {t u : TypeId} {k : IntKind} {i j : Int} {b : Bool} (hx : ev M x = some (.int k i)) (hy : ev M y = some (.int k j)) (hb : cmpI op i j = some b)
    : EV P n ⟨some d, .binOp op t x y u, ty, ps, af, g⟩ M L d (.bool b) :=
  ⟨rfl, fun a w ha _ => by
    cases op <;> simp [cmpI] at hb <;> subst hb <;> simp [execOp, ha.eval hx, ha.eval hy, eqGuard, binOp, Op.intCmp]⟩
omit [W0] in
def ariI : BinOp → Int → Int → Option Int
  | .add, x, y => some (x + y) | .sub, x, y => some (x - y) | .mul, x, y => some (x * y)
  | _, _, _ => none
theorem EV_ari {op : BinOp} {t u : TypeId} {k : IntKind} {i j r : Int} (hx : ev M x = some (.int k i)) (hy : ev M y = some (.int k j)) (hb : ariI op i j = some r)
    : EV P n ⟨some d, .binOp op t x y u, ty, ps, af, g⟩ M L d (.int k (k.wrap r)) :=
  ⟨rfl, fun a w ha _ => by
    cases op <;> simp [ariI] at hb <;> subst hb <;> simp [execOp, ha.eval hx, ha.eval hy, eqGuard, binOp, Op.intArith]⟩
theorem wrap_i64 {r : Int} (h1 : -9223372036854775808 ≤ r) (h2 : r ≤ 9223372036854775807) : IntKind.i64.wrap r = r := by
  simp [IntKind.wrap, IntKind.bits, IntKind.signed]
  split <;> omega
theorem EV_ari64 {op : BinOp} {t u : TypeId} {i j r : Int} (hx : ev M x = some (.int .i64 i)) (hy : ev M y = some (.int .i64 j)) (hb : ariI op i j = some r)
    (h1 : -9223372036854775808 ≤ r ∧ r ≤ 9223372036854775807) : EV P n ⟨some d, .binOp op t x y u, ty, ps, af, g⟩ M L d (.int .i64 r) := by
  have := EV_ari (P := P) (n := n) (L := L) (d := d) (ty := ty) (ps := ps) (af := af) (g := g) (op := op) (t := t) (u := u) hx hy hb
  rwa [wrap_i64 h1.1 h1.2] at this
theorem isAgg_false {t : TypeId} (h : aggB P t = false) (w : World) : (isAgg t).run P w = .ok false w := by
  unfold aggB at h
  cases hu : P.underlying t with
  | none => simp [hu] at h
  | some D => cases D <;> simp [hu] at h <;> simp [isAgg, underlying, hu]
theorem isAgg_true {t : TypeId} (h : aggT P t = true) (w : World) : (isAgg t).run P w = .ok true w := by
  unfold aggT at h
  cases hu : P.underlying t with
  | none => simp [hu] at h
  | some D => cases D <;> simp [hu] at h <;> simp [isAgg, underlying, hu]
theorem cell_of {w : World} {b off : Nat} {c : Array Value} {T : TypeId} {fr : Nat × Nat} (hb : w.heap[b]? = some (.cells c T fr)) : w.cell? ⟨b, off, none⟩ = c[off]? := by
  simp [World.cell?, hb]
theorem EV_load {t : TypeId} [hag : NA P t] {b off : Nat} {c : Array Value} {T : TypeId} {fr : Nat × Nat} (hx : ev M x = some (.pointer (some ⟨b, off, none⟩))) (hf : Fnd L b (.cells c T fr))
    (hc : c[off]? = some v) : EV P n ⟨some d, .load t x, ty, ps, af, g⟩ M L d (v) :=
  ⟨rfl, fun a w ha hw => by
    have hcell : w.cell? ⟨b, off, none⟩ = some v := by rw [cell_of (hf.get hw), hc]
    simp [execOp, ha.eval hx, Instr.loadAt, Instr.sureAddr, loadVar, isAgg_false hag.out, hcell]⟩
theorem EV_loadc {t : TypeId} [hag : NA P t] {b off : Nat} {l : List Value} {T : TypeId} (hx : ev M x = some (.pointer (some ⟨b, off, none⟩))) (hf : Fnd L b (cl l T))
    (hc : nth l off = some v) : EV P n ⟨some d, .load t x, ty, ps, af, g⟩ M L d v :=
  EV_load hx hf (by simpa [nth_eq] using hc)
theorem setCell_at {w : World} {b off : Nat} {c : Array Value} {T : TypeId} {fr : Nat × Nat} {v : Value} (hb : w.heap[b]? = some (.cells c T fr)) :
    (w.setCell ⟨b, off, none⟩ v).heap[b]? = some (.cells (c.setIfInBounds off v) T fr) := by
  simp [World.setCell, Array.getElem?_modify, hb]
theorem setCell_ne {w : World} {b off e : Nat} {v : Value} (hne : e ≠ b) : (w.setCell ⟨b, off, none⟩ v).heap[e]? = w.heap[e]? := by
  simp only [World.setCell, Array.getElem?_modify]
  rw [if_neg (by intro h; exact hne h.symm)]
theorem sizeOf_run {t : TypeId} {k : Nat} (h : (P.info? t).map (·.size) = some k) (w : World) : (sizeOf t).run P w = .ok k w := by
  cases hi : P.info? t with
  | none => simp [hi] at h
  | some i => simp [hi] at h; simp [sizeOf, typeInfo, hi, h]
theorem OW_store {t : TypeId} [hs : SZ P t 1] {b off : Nat} {l : List Value} {T : TypeId} {L' : List Chunk} (hx : ev M x = some (.pointer (some ⟨b, off, none⟩))) (hy : ev M y = some v) (hv : v.oneCell' = true)
    (hu : Upd L b (cl l T) (cl (l.set off v) T) L') (hlt : off < l.length) (h : K M L') :
    OW P n ⟨none, .store t x y, ty, ps, af, g⟩ K M L := ⟨fun a w next Q ha hw hk => by
  have hb := hu.fnd.get hw
  have hcell : w.cell? ⟨b, off, none⟩ = some l[off] := by rw [cell_of hb]; simp [hlt]
  have hfz : w.frozen? ⟨b, off, none⟩ = false := by simp [World.frozen?, hb, cl]
  have hcs : v.cells = #[v] := by cases v <;> simp [Value.oneCell'] at hv <;> rfl
  have hrun : (execOp a.eval ⟨none, .store t x y, ty, ps, af, g⟩).run P w = .ok .skip (w.setCell ⟨b, off, none⟩ v) := by
    simp [execOp, ha.eval hx, ha.eval hy, Instr.storeAt, Instr.sureAddr, storeVar, sizeOf_run hs.out, hcs, storeCells, run_store _ _ _ _ _ hv, Addr.add, hcell, hfz]
  unfold Oper.wp
  rw [hrun, Oper.upon_skip]
  refine (hk _ _ h).out _ _ ha (hw.upd hu ?_ ?_ rfl rfl)
  · rw [setCell_at hb]; simp [cl]
  · exact fun c hc => setCell_ne hc⟩
theorem EV_fieldAddr {s : TypeId} {f k : Nat} [hF : FO P s f k] {b off : Nat} (hx : ev M x = some (.pointer (some ⟨b, off, none⟩)))
    : EV P n ⟨some d, .fieldAddr s x f, ty, ps, af, g⟩ M L d (.pointer (some ⟨b, off + k, none⟩)) :=
  ⟨rfl, fun a w ha _ => by
    have hF := hF.out
    unfold fldOff at hF
    split at hF
    · rename_i fs hu
      split at hF
      · rename_i fd hf
        split at hF
        · rename_i i hi
          split at hF
          · rename_i hz
            simp at hF
            subst hF
            have hne : i.size ≠ 0 := by rw [Nat.blt_eq] at hz; omega
            simp [execOp, ha.eval hx, Instr.fieldAt, Instr.sureAddr, fieldPlace, underlying, hu, hf, sizeOf, typeInfo, hi, hne]
            unfold Addr.add
            split <;> simp_all
          · simp at hF
        · simp at hF
      · simp at hF
    · simp at hF⟩
theorem EV_fieldAddr0 {s : TypeId} {f k : Nat} [hF : FO P s f k] {b : Nat} (hx : ev M x = some (.pointer (some ⟨b, 0, none⟩))) :
    EV P n ⟨some d, .fieldAddr s x f, ty, ps, af, g⟩ M L d (.pointer (some ⟨b, k, none⟩)) := by
  have := EV_fieldAddr (P := P) (n := n) (L := L) (d := d) (ty := ty) (ps := ps) (af := af) (g := g) (s := s) (f := f) hx
  rwa [Nat.zero_add] at this
end
structure Gv (P : Program) (f : FuncId) (args : Array Value) (L : List Chunk) (post : Value → List Chunk → Prop) : Prop where
  out : ∀ w, Holds w L → Calls P f args w fun e w' => ∃ v L', e = .returned v ∧ post v L' ∧ Holds w' L'
section
variable {P : Program} {n : Nat} {Q : Exit → Act → World → Prop} {M : List (Nat × Value)} {L : List Chunk} {K : List (Nat × Value) → List Chunk → Prop}
variable {d : Nat} {ty : TypeId} {ps : String} {af : Array Edge} {g : Option (Nat × Bool)} {x y : Operand} {v : Value}
omit [W0] in
def evs (M : List (Nat × Value)) : List Operand → Option (List Value)
  | [] => some []
  | x :: r => match ev M x, evs M r with
    | some v, some vs => some (v :: vs)
    | _, _ => none
theorem St.evals {a : Act} (h : St n M a) : ∀ {xs : List Operand} {vs : List Value}, evs M xs = some vs → xs.map a.eval = vs
  | [], vs, he => by simp [evs] at he; subst he; rfl
  | x :: r, vs, he => by
    unfold evs at he
    split at he
    · rename_i v vs' h1 h2
      simp at he; subst he
      simp [h.eval h1, St.evals h h2]
    · simp at he
theorem callFunc_run {f : FuncId} (h : bodyB P f = true) (args : Array Value) (w : World) : (callFunc f args).run P w = .ok (.enter f args) w := by
  unfold bodyB at h
  cases hf : P.funcs[f]? with
  | none => simp [hf] at h
  | some fn =>
    simp [hf] at h
    have h2 : fn.body.isNone = false := by cases hb : fn.body <;> simp_all
    simp only [callFunc, Sem.run_bind, run_program, Result.andThen_ok, hf]
    rw [if_neg (by simpa using h.1), if_neg (by simp [h2])]
    rfl
theorem OW_call {f : FuncId} [hb : BD P f] {xs : List Operand} {ats : Array TypeId} {first cap : Array Value} {vs : List Value} {args : Array Value} {post : Value → List Chunk → Prop}
    (hx : ev M x = some (.func (.func f) first cap)) (hvs : evs M xs = some vs) (hargs : first ++ vs.toArray ++ cap = args) (hspec : Gv P f args L post)
    (hn : Nat.blt d n = true) (h : ∀ v L', post v L' → K ((d, v) :: M) L') : OW P n ⟨some d, .call ⟨.value x, xs.toArray, ats⟩, ty, ps, af, g⟩ K M L := ⟨fun a w next Q ha hw hk => by
  subst hargs
  have hrun : (execOp a.eval ⟨some d, .call ⟨.value x, xs.toArray, ats⟩, ty, ps, af, g⟩).run P w = .ok (.enter f (first ++ vs.toArray ++ cap)) w := by
    have hm : Array.map a.eval xs.toArray = vs.toArray := by
      rw [← ha.evals hvs]; simp
    simp only [execOp, resolve, ha.eval hx, hm, Deferred.ofValue, Sem.run_bind, Sem.run_pure, Result.andThen_ok, invoke, callFunc_run hb.out]
  unfold Oper.wp
  rw [hrun, Oper.upon_enter]
  refine (hspec.out w hw).mono fun e w' he => ?_
  obtain ⟨v, L', rfl, hp, hw'⟩ := he
  exact (hk _ _ (h v L' hp)).out _ _ (ha.put v hn) hw'⟩
theorem Gv.mono {f : FuncId} {args : Array Value} {post post' : Value → List Chunk → Prop} (h : Gv P f args L post) (hp : ∀ v L', post v L' → post' v L') : Gv P f args L post' :=
  ⟨fun w hw => (h.out w hw).mono fun _ _ he => let ⟨v, L', h1, h2, h3⟩ := he; ⟨v, L', h1, hp v L' h2, h3⟩⟩
theorem Gv.holds {f : FuncId} {args : Array Value} {post : Value → List Chunk → Prop} {L' : List Chunk} (h : Gv P f args L' post) (hl : ∀ w, Holds w L → Holds w L') : Gv P f args L post :=
  ⟨fun w hw => h.out w (hl w hw)⟩
theorem Gv.take {f : FuncId} {args : Array Value} {post : Value → List Chunk → Prop} {L' : List Chunk} {C : Chunk} (h : Gv P f args (C :: L') post) (ht : Take C L L') : Gv P f args L post :=
  h.holds fun _ hw => hw.take ht
omit [W0] in
/-- The parameters' slots. -/
def params : Nat → List Value → List (Nat × Value)
  | _, [] => []
  | i, v :: r => (i, v) :: params (i + 1) r
theorem params_get : ∀ (args : List Value) (i t : Nat) (v : Value), lk (params i args) t = some v → i ≤ t ∧ args[t - i]? = some v
  | [], i, t, v, h => by simp [params, lk] at h
  | u :: r, i, t, v, h => by
    unfold params lk at h
    cases hb : Nat.beq i t with
    | true =>
      have := Nat.eq_of_beq_eq_true hb
      subst this
      rw [hb] at h
      simp at h; subst h; simp
    | false =>
      rw [hb] at h
      obtain ⟨h1, h2⟩ := params_get r (i + 1) t v h
      refine ⟨by omega, ?_⟩
      have : t - i = (t - (i + 1)) + 1 := by omega
      rw [this]; simpa using h2
theorem Gv.of_body {f : FuncId} {fn : Func} {c : Code} {args : List Value} {post : Value → List Chunk → Prop} (hf : P.funcs[f]? = some fn) (hb : fn.body = some c) (hle : Nat.ble args.length fn.ntmps = true)
    (h : WC P fn.ntmps c (bodyPost P fn (fun e w' => ∃ v L', e = .returned v ∧ post v L' ∧ Holds w' L')) (params 0 args) L) : Gv P f args.toArray L post := ⟨fun w hw => by
  refine calls_of_wp hf hb (h.out _ w ⟨rfl, ?_, ?_⟩ hw)
  · have := Nat.le_of_ble_eq_true hle
    simp; omega
  · intro t v ht
    obtain ⟨_, h2⟩ := params_get args 0 t v ht
    have h2' : args[t]? = some v := by simpa using h2
    have hlt : t < args.length := by
      rcases Nat.lt_or_ge t args.length with h' | h'
      · exact h'
      · simp [List.getElem?_eq_none h'] at h2'
    rw [Array.getElem?_append_left (by simpa using hlt)]
    simpa using h2'⟩
omit [W0] in
/-- What the results' slots hold. -/
def resT (M : List (Nat × Value)) : List ResultVar → Option (List Value)
  | [] => some []
  | .tmp t :: r => match lk M t, resT M r with
    | some v, some vs => some (v :: vs)
    | _, _ => none
  | .cell .. :: _ => none
omit [W0] in
def tupled : List Value → Value
  | [v] => v
  | vs => .tuple vs.toArray
omit [W0] in
def resOne (tmps : Array Value) : ResultVar → Sem Value
  | .tmp t => pure (tmps.getD t undef)
  | .cell x t => do loadVar t (← asAddr (tmps.getD x undef))
theorem results_eq (fn : Func) (tmps : Array Value) : results fn tmps = (do
    let vs ← fn.results.mapM (resOne tmps)
    pure (if h : vs.size = 1 then vs[0] else .tuple vs)) := by
  unfold results
  congr 2
theorem resT_run {a : Act} {w : World} (ha : St n M a) : ∀ {rs : List ResultVar} {vs : List Value}, resT M rs = some vs →
    (rs.mapM (resOne a.tmps)).run P w = .ok vs w
  | [], vs, h => by simp [resT] at h; subst h; rfl
  | .tmp t :: r, vs, h => by
    unfold resT at h
    split at h
    · rename_i v vs' h1 h2
      simp at h; subst h
      have := resT_run (w := w) ha h2
      simp [List.mapM_cons, this, resOne, Array.getD_eq_getD_getElem?, ha.get t v h1]
    · simp at h
  | .cell _ _ :: _, vs, h => by simp [resT] at h
theorem results_run {a : Act} {w : World} {fn : Func} {rs : List ResultVar} {vs : List Value} (ha : St n M a) (hr : fn.results = rs.toArray) (h : resT M rs = some vs) :
    (results fn a.tmps).run P w = .ok (tupled vs) w := by
  rw [results_eq, hr]
  simp only [List.mapM_toArray, Sem.run_bind, Sem.run_map, resT_run ha h, Result.andThen_ok, Sem.run_pure]
  match vs with
  | [] => simp [tupled]
  | [v] => simp [tupled]
  | v :: u :: r => simp [tupled]
end
end Go.Vx
namespace Go.Vx
open Go
set_option linter.all false
variable [W0]
section
variable {P : Program} {n : Nat} {Q : Exit → Act → World → Prop} {M : List (Nat × Value)} {L : List Chunk} {K : List (Nat × Value) → List Chunk → Prop}
variable {d : Nat} {ty : TypeId} {ps : String} {af : Array Edge} {g : Option (Nat × Bool)} {x y : Operand} {v : Value}
theorem SL.parts {T e k b : Nat} (h : SL P T e k b) : P.underlying T = some (.slice e) ∧ ∃ i, P.info? e = some i ∧ i.size = k ∧ i.bytes = b ∧ 0 < k := by
  have h := h.out
  unfold slcOf at h
  split at h
  · rename_i e' hu
    split at h
    · rename_i i hi
      split at h
      · rename_i hz
        simp at h
        obtain ⟨rfl, rfl, rfl⟩ := h
        rw [Nat.blt_eq] at hz
        exact ⟨hu, i, hi, rfl, rfl, hz⟩
      · simp at h
    · simp at h
  · simp at h
theorem addr_add {b off k : Nat} : (⟨b, off, none⟩ : Addr).add k = ⟨b, off + k, none⟩ := by
  unfold Addr.add; split <;> simp_all
theorem EV_indexAddr {T e k by_ : Nat} [hs : SL P T e k by_] {b off len cap j : Nat} {kk : IntKind} {i : Int} (hx : ev M x = some (.slice (some ⟨b, off, none⟩) len cap)) (hy : ev M y = some (.int kk i))
    (hj : i = (j : Int)) (hlt : j < len) :
    EV P n ⟨some d, .indexAddr T x y, ty, ps, af, g⟩ M L d (.pointer (some ⟨b, off + j * k, none⟩)) :=
  ⟨rfl, fun a w ha _ => by
    obtain ⟨hu, i', hi, hk, _, hk0⟩ := hs.parts
    subst hj
    have h2 : (j : Int) < (len : Int) := by omega
    simp [execOp, ha.eval hx, ha.eval hy, Instr.indexAt, asIntOf, underlying, hu, sizeOf, typeInfo, hi, hk, addr_add, h2, hlt]⟩
theorem EV_indexAddr0 {T e k by_ : Nat} [hs : SL P T e k by_] {b len cap j : Nat} {kk : IntKind} {i : Int} (hx : ev M x = some (.slice (some ⟨b, 0, none⟩) len cap)) (hy : ev M y = some (.int kk i))
    (hj : i = (j : Int)) (hlt : j < len) : EV P n ⟨some d, .indexAddr T x y, ty, ps, af, g⟩ M L d (.pointer (some ⟨b, j * k, none⟩)) := by
  have := EV_indexAddr (P := P) (n := n) (L := L) (d := d) (ty := ty) (ps := ps) (af := af) (g := g) (T := T) hx hy hj hlt
  rwa [Nat.zero_add] at this
theorem EV_indexStr {T : Nat} [hs : ST P T] {s : ByteArray} {j : Nat} {kk : IntKind} {i : Int} {u : UInt8} (hx : ev M x = some (.string s)) (hy : ev M y = some (.int kk i))
    (hj : i = (j : Int)) (hu : s[j]? = some u) :
    EV P n ⟨some d, .index T x y, ty, ps, af, g⟩ M L d (.int .u8 (u.toNat : Int)) :=
  ⟨rfl, fun a w ha _ => by
    subst hj
    simp [execOp, ha.eval hx, ha.eval hy, Instr.index, asIntOf, underlying, hs.out, hu]⟩
theorem EV_lenSl {T e k by_ : Nat} [hs : SL P T e k by_] {b : Option Addr} {len cap : Nat} (hx : ev M x = some (.slice b len cap))
    : EV P n ⟨some d, .call ⟨.builtin .len, #[x], #[T]⟩, ty, ps, af, g⟩ M L d (.int .i64 (len : Int)) :=
  ⟨rfl, fun a w ha _ => by
    obtain ⟨hu, _⟩ := hs.parts
    simp [execOp, resolve, invoke, builtin, ha.eval hx, Builtin.len_, underlying, hu, goInt]⟩
theorem EV_capSl {T e k by_ : Nat} [hs : SL P T e k by_] {b : Option Addr} {len cap : Nat} (hx : ev M x = some (.slice b len cap))
    : EV P n ⟨some d, .call ⟨.builtin .cap, #[x], #[T]⟩, ty, ps, af, g⟩ M L d (.int .i64 (cap : Int)) :=
  ⟨rfl, fun a w ha _ => by
    obtain ⟨hu, _⟩ := hs.parts
    simp [execOp, resolve, invoke, builtin, ha.eval hx, Builtin.cap_, underlying, hu, goInt]⟩
theorem EV_lenStr {T : Nat} [hs : ST P T] {s : ByteArray} (hx : ev M x = some (.string s))
    : EV P n ⟨some d, .call ⟨.builtin .len, #[x], #[T]⟩, ty, ps, af, g⟩ M L d (.int .i64 (s.size : Int)) :=
  ⟨rfl, fun a w ha _ => by
    simp [execOp, resolve, invoke, builtin, ha.eval hx, Builtin.len_, underlying, hs.out, goInt]⟩
theorem EV_min {t u : TypeId} {k : IntKind} {i j : Int} (hx : ev M x = some (.int k i)) (hy : ev M y = some (.int k j))
    : EV P n ⟨some d, .call ⟨.builtin .min, #[x, y], #[t, u]⟩, ty, ps, af, g⟩ M L d (.int k (min i j)) :=
  ⟨rfl, fun a w ha _ => by
    have e : (if j < i then j else i) = min i j := by rw [Int.min_def]; split <;> split <;> omega
    simp [execOp, resolve, invoke, builtin, ha.eval hx, ha.eval hy, Builtin.min_, Builtin.min2, e]⟩
theorem EV_max {t u : TypeId} {k : IntKind} {i j : Int} (hx : ev M x = some (.int k i)) (hy : ev M y = some (.int k j))
    : EV P n ⟨some d, .call ⟨.builtin .max, #[x, y], #[t, u]⟩, ty, ps, af, g⟩ M L d (.int k (max i j)) :=
  ⟨rfl, fun a w ha _ => by
    have e : (if i < j then j else i) = max i j := by rw [Int.max_def]; split <;> split <;> omega
    simp [execOp, resolve, invoke, builtin, ha.eval hx, ha.eval hy, Builtin.max_, Builtin.max2, e]⟩
omit [W0] in
/-- A bound of a slice expression. -/
def bnd (M : List (Nat × Value)) : Option Operand → Nat → Option Int
  | none, dflt => some dflt
  | some x, _ => match ev M x with | some (.int _ i) => some i | _ => none
theorem sliceBounds_run {isS : Bool} {len cap : Nat} {lo hi : Option Operand} {l h : Nat} {a : Act} (ha : St n M a) (hl : bnd M lo 0 = some (l : Int)) (hh : bnd M hi len = some (h : Int)) (h1 : l ≤ h) (h2 : h ≤ cap) (w : World) :
    (Instr.sliceBounds isS len cap (lo.map a.eval) (hi.map a.eval) none).run P w = .ok (l, h, cap) w := by
  have hlow : ∀ (x : Operand) (z : Int), bnd M (some x) 0 = some z → ∃ q, a.eval x = .int q z := by
    intro x z hz
    simp only [bnd] at hz
    split at hz
    · rename_i kk i he; simp at hz; subst hz; exact ⟨kk, ha.eval he⟩
    · simp at hz
  cases lo with
  | none =>
    have : l = 0 := by simp [bnd] at hl; omega
    subst this
    cases hi with
    | none =>
      have : len = h := by simp [bnd] at hh; omega
      subst this
      simp [Instr.sliceBounds]
    | some y =>
      obtain ⟨k2, e2⟩ := hlow y _ hh
      simp [Instr.sliceBounds, Instr.sliceBound, e2, asIntOf, h1, h2]
  | some x =>
    obtain ⟨k1, e1⟩ := hlow x _ hl
    cases hi with
    | none =>
      have : len = h := by simp [bnd] at hh; omega
      subst this
      simp [Instr.sliceBounds, Instr.sliceBound, e1, asIntOf, h1, h2]
    | some y =>
      obtain ⟨k2, e2⟩ := hlow y _ hh
      simp [Instr.sliceBounds, Instr.sliceBound, e1, e2, asIntOf, h1, h2]
theorem EV_sliceSl {T e k by_ : Nat} [hs : SL P T e k by_] {b off len cap : Nat} {lo hi : Option Operand} {l h : Nat} (hx : ev M x = some (.slice (some ⟨b, off, none⟩) len cap)) (hl : bnd M lo 0 = some (l : Int)) (hh : bnd M hi len = some (h : Int))
    (h1 : l ≤ h) (h2 : h ≤ cap) : EV P n ⟨some d, .slice T x lo hi none, ty, ps, af, g⟩ M L d (.slice (some ⟨b, if cap = l then off else off + l * k, none⟩) (h - l) (cap - l)) :=
  ⟨rfl, fun a w ha _ => by
    obtain ⟨hu, i', hi', hk', _, hk0⟩ := hs.parts
    simp [execOp, ha.eval hx, Instr.sliceAt, Instr.slice, underlying, hu, sliceBounds_run ha hl hh h1 h2, sizeOf, typeInfo, hi', hk', addr_add]
    split <;> simp_all⟩
theorem EV_sliceTo {T e k by_ : Nat} [hs : SL P T e k by_] {b off len cap : Nat} {lo hi : Option Operand} {h : Nat} (hx : ev M x = some (.slice (some ⟨b, off, none⟩) len cap)) (hl : bnd M lo 0 = some ((0 : Nat) : Int)) (hh : bnd M hi len = some (h : Int))
    (h2 : h ≤ cap) : EV P n ⟨some d, .slice T x lo hi none, ty, ps, af, g⟩ M L d (.slice (some ⟨b, off, none⟩) h cap) := by
  have := EV_sliceSl (P := P) (n := n) (L := L) (d := d) (ty := ty) (ps := ps) (af := af) (g := g) (T := T) hx hl hh (Nat.zero_le _) h2
  have e : (if cap = 0 then off else off + 0 * k) = off := by split <;> simp
  rw [e] at this
  simpa using this
theorem EV_sliceNil {T e k by_ : Nat} [hs : SL P T e k by_] {lo hi : Option Operand} (hx : ev M x = some (.slice none 0 0)) (hl : bnd M lo 0 = some ((0 : Nat) : Int)) (hh : bnd M hi 0 = some ((0 : Nat) : Int))
    : EV P n ⟨some d, .slice T x lo hi none, ty, ps, af, g⟩ M L d (.slice none 0 0) :=
  ⟨rfl, fun a w ha _ => by
    obtain ⟨hu, i', hi', hk', _, hk0⟩ := hs.parts
    simp [execOp, ha.eval hx, Instr.sliceAt, Instr.slice, underlying, hu, sliceBounds_run ha hl hh (Nat.le_refl _) (Nat.le_refl _), sizeOf, typeInfo, hi']⟩
omit [W0] in
/-- Some cells of a list, in a row. -/
def cut (l : List Value) (off k : Nat) : List Value := (l.drop off).take k
omit [W0] in
def patch (l : List Value) (off : Nat) (vs : List Value) : List Value := l.take off ++ vs ++ l.drop (off + vs.length)
theorem cut_get {l : List Value} {off k j : Nat} (h : j < k) : (cut l off k)[j]? = l[off + j]? := by
  simp [cut, List.getElem?_take, h]
omit [W0] in
/-- What stands at an address, in a row. -/
def RdAt (L : List Chunk) (a : Addr) (vs : List Value) : Prop :=
  vs = [] ∨ ∃ b off c T fr, a = ⟨b, off, none⟩ ∧ Fnd L b (.cells c T fr) ∧ ∀ j u, vs[j]? = some u → c[off + j]? = some u
theorem RdAt.cells {a : Addr} {vs : List Value} (h : RdAt L a vs) {w : World} (hw : Holds w L) : ∀ j u, vs[j]? = some u → w.cell? (a.add j) = some u := by
  intro j u hj
  rcases h with rfl | ⟨b, off, c, T, fr, rfl, hf, hc⟩
  · simp at hj
  · rw [addr_add, cell_of (hf.get hw)]; exact hc j u hj
theorem RdAt.cl {b off : Nat} {l : List Value} {T : TypeId} {k : Nat} (hf : Fnd L b (Vx.cl l T)) : RdAt L ⟨b, off, none⟩ (cut l off k) := by
  refine .inr ⟨b, off, l.toArray, T, (0, 0), rfl, hf, fun j u hj => ?_⟩
  have hlt : j < k := by
    rcases Nat.lt_or_ge j k with h' | h'
    · exact h'
    · rw [List.getElem?_eq_none (by simp [cut]; omega)] at hj; simp at hj
  rw [cut_get hlt] at hj
  simpa using hj
theorem RdAt.cl' {b off : Nat} {l vs : List Value} {T : TypeId} (hf : Fnd L b (Vx.cl l T)) (hv : cut l off vs.length = vs) : RdAt L ⟨b, off, none⟩ vs := by
  have := RdAt.cl (off := off) (k := vs.length) hf
  rwa [hv] at this
theorem EV_loadAgg {t k : Nat} [hag : AG P t k] {a : Addr} {vs : List Value} (hx : ev M x = some (.pointer (some a))) (hr : RdAt L a vs) (hl : vs.length = k)
    : EV P n ⟨some d, .load t x, ty, ps, af, g⟩ M L d (.agg vs.toArray) :=
  ⟨rfl, fun a' w ha hw => by
    have hrun := run_loadCells_list (P := P) w a vs (hr.cells hw)
    rw [hl] at hrun
    simp [execOp, ha.eval hx, Instr.loadAt, Instr.sureAddr, loadVar, isAgg_true hag.out.1, sizeOf_run hag.out.2, hrun]⟩
theorem Holds.row {w : World} {L' : List Chunk} {b : Nat} {l l' : List Value} {T : TypeId} (hw : Holds w L) (hu : Upd L b (cl l T) (cl l' T) L') : Holds (w.setRow b l'.toArray) L' := by
  refine hw.upd hu ?_ (fun c hc => setRow_other w b c _ hc) rfl rfl
  exact setRow_heap w b l.toArray _ T (0, 0) (hu.fnd.get hw)
omit [W0] in
def ones (vs : List Value) : Bool := vs.all Value.oneCell'
theorem ones_mem {vs : List Value} (h : ones vs = true) : ∀ v ∈ vs, v.oneCell' = true := by simpa [ones] using h
theorem storeCells_run {w : World} {L' : List Chunk} {b off : Nat} {l vs : List Value} {T : TypeId} (hw : Holds w L) (hu : Upd L b (cl l T) (cl (patch l off vs) T) L') (hfit : off + vs.length ≤ l.length) (h1 : ones vs = true) :
    (storeCells ⟨b, off, none⟩ vs).run P w = .ok () (w.setRow b (patch l off vs).toArray) := by
  have := run_storeCells_at P b off T vs 0 l.toArray w (hu.fnd.get hw) (by simpa using hfit) (ones_mem h1)
  simpa [patch] using this
theorem OW_storeAgg {t k : Nat} [hag : AG P t k] {b off : Nat} {l vs : List Value} {T : TypeId} {L' : List Chunk} (hx : ev M x = some (.pointer (some ⟨b, off, none⟩))) (hy : ev M y = some (.agg vs.toArray)) (hl : vs.length = k)
    (h1 : ones vs = true) (hu : Upd L b (cl l T) (cl (patch l off vs) T) L') (hfit : off + vs.length ≤ l.length) (h : K M L') :
    OW P n ⟨none, .store t x y, ty, ps, af, g⟩ K M L := ⟨fun a w next Q ha hw hk => by
  have hrun : (execOp a.eval ⟨none, .store t x y, ty, ps, af, g⟩).run P w = .ok .skip (w.setRow b (patch l off vs).toArray) := by
    have := storeCells_run (P := P) hw hu hfit h1
    simp [execOp, ha.eval hx, ha.eval hy, Instr.storeAt, Instr.sureAddr, storeVar, sizeOf_run hag.out.2, Value.cells, hl, this]
  unfold Oper.wp
  rw [hrun, Oper.upon_skip]
  exact (hk _ _ h).out _ _ ha (hw.row hu)⟩
theorem OW_newval {o : Oper} {ob : Obj} {f : Nat → Value} (hd : o.dst = some d) (hn : Nat.blt d n = true)
    (hr : ∀ a w, St n M a → Holds w L → (execOp a.eval o).run P w = .ok (.value (f w.heap.size)) (w.alloc ob)) (h : ∀ b, K ((d, f b) :: M) ([(b, ob)] :: L)) : OW P n o K M L := ⟨fun a w next Q ha hw hk => by
  unfold Oper.wp
  rw [hr a w ha hw, Oper.upon_value, hd]
  exact (hk _ _ (h w.heap.size)).out _ _ (ha.put _ hn) (hw.alloc ob)⟩
theorem zero_run {t : TypeId} {z : Value} (h : (P.info? t).map (·.zero) = some (some z)) (w : World) : (zeroValue t).run P w = .ok z w := by
  cases hi : P.info? t with
  | none => simp [hi] at h
  | some i => simp [hi] at h; simp [zeroValue, typeInfo, hi, h]
theorem OW_alloc {t : Nat} {z : Value} [hz : ZV P t z] (hn : Nat.blt d n = true) (h : ∀ b, K ((d, .pointer (some ⟨b, 0, none⟩)) :: M) ([(b, cl z.cells.toList t)] :: L)) :
    OW P n ⟨some d, .alloc t, ty, ps, af, g⟩ K M L :=
  OW_newval (f := fun b => .pointer (some ⟨b, 0, none⟩)) rfl hn (fun a w ha hw => by
    simp [execOp, Instr.alloc, zero_run hz.out, newVar, newRow, cl]) h
theorem OW_box {t : Nat} (hx : ev M x = some v) (hn : Nat.blt d n = true) (h : ∀ b, K ((d, .pointer (some ⟨b, 0, none⟩)) :: M) ([(b, cl v.cells.toList t)] :: L)) :
    OW P n ⟨some d, .box t x, ty, ps, af, g⟩ K M L :=
  OW_newval (f := fun b => .pointer (some ⟨b, 0, none⟩)) rfl hn (fun a w ha hw => by
    simp [execOp, Instr.box, ha.eval hx, newVar, newRow, cl]) h
theorem EV_makeInterface {t : Nat} [hi : NI P t] (hx : ev M x = some v) :
    EV P n ⟨some d, .makeInterface t x, ty, ps, af, g⟩ M L d (.iface t v) :=
  ⟨rfl, fun a w ha _ => by
    have h2 := hi.out
    unfold notIface at h2
    cases hu : P.underlying t with
    | none => simp [hu] at h2
    | some D => cases D <;> simp [hu] at h2 <;> simp [execOp, Instr.makeInterface, ha.eval hx, underlying, hu]⟩
theorem EV_makeFunc {f : Fn} {xs ys : List Operand} {vs us : List Value} (hx : evs M xs = some vs) (hy : evs M ys = some us) :
    EV P n ⟨some d, .makeFunc f xs.toArray ys.toArray, ty, ps, af, g⟩ M L d (.func f vs.toArray us.toArray) :=
  ⟨rfl, fun a w ha _ => by
    have e1 : Array.map a.eval xs.toArray = vs.toArray := by rw [← ha.evals hx]; simp
    have e2 : Array.map a.eval ys.toArray = us.toArray := by rw [← ha.evals hy]; simp
    simp only [execOp, Instr.makeFunc, e1, e2, Sem.run_bind, Sem.run_pure, Result.andThen_ok]⟩
theorem EV_assertYes {t u : Nat} [hi : NI P u] (hx : ev M x = some (.iface u v)) :
    EV P n ⟨some d, .typeAssert x t u true, ty, ps, af, g⟩ M L d (.tuple #[v, .bool true]) :=
  ⟨rfl, fun a w ha _ => by
    have h2 := hi.out
    unfold notIface at h2
    cases hu : P.underlying u with
    | none => simp [hu] at h2
    | some D => cases D <;> simp [hu] at h2 <;> simp [execOp, Instr.typeAssert, ha.eval hx, underlying, hu]⟩
theorem EV_assertNo {t u r : Nat} {z : Value} [hi : NI P u] [hz : ZV P u z] (hx : ev M x = some (.iface r v)) (hne : Nat.beq r u = false) :
    EV P n ⟨some d, .typeAssert x t u true, ty, ps, af, g⟩ M L d (.tuple #[z, .bool false]) :=
  ⟨rfl, fun a w ha _ => by
    have hne' : ¬ r = u := by intro e; subst e; simp at hne
    have h2 := hi.out
    unfold notIface at h2
    cases hu : P.underlying u with
    | none => simp [hu] at h2
    | some D => cases D <;> simp [hu] at h2 <;> simp [execOp, Instr.typeAssert, ha.eval hx, underlying, hu, hne', zero_run hz.out]⟩
theorem toList_inj {s r : ByteArray} : s.toList = r.toList ↔ s = r := by
  rw [ByteArray.toList_eq, ByteArray.toList_eq]
  constructor
  · intro h
    cases s; cases r
    simp only [ByteArray.mk.injEq]
    exact Array.ext' h
  · intro h; rw [h]
theorem EV_strEq {t u : TypeId} {s r : ByteArray} (hx : ev M x = some (.string s)) (hy : ev M y = some (.string r)) :
    EV P n ⟨some d, .binOp .eql t x y u, ty, ps, af, g⟩ M L d (.bool (decide (s = r))) :=
  ⟨rfl, fun a w ha _ => by
    have e : (s.toList == r.toList) = decide (s = r) := by rw [Bool.eq_iff_iff]; simp [toList_inj]
    simp [execOp, ha.eval hx, ha.eval hy, eqGuard, binOp, Op.stringOp, e]⟩
theorem EV_strNe {t u : TypeId} {s r : ByteArray} (hx : ev M x = some (.string s)) (hy : ev M y = some (.string r)) :
    EV P n ⟨some d, .binOp .neq t x y u, ty, ps, af, g⟩ M L d (.bool (!decide (s = r))) :=
  ⟨rfl, fun a w ha _ => by
    have e : (s.toList == r.toList) = decide (s = r) := by rw [Bool.eq_iff_iff]; simp [toList_inj]
    simp [execOp, ha.eval hx, ha.eval hy, eqGuard, binOp, Op.stringOp, e]⟩
theorem EV_strLt {t u : TypeId} {s r : ByteArray} (hx : ev M x = some (.string s)) (hy : ev M y = some (.string r)) :
    EV P n ⟨some d, .binOp .lss t x y u, ty, ps, af, g⟩ M L d (.bool (Op.bytesLess s.toList r.toList)) :=
  ⟨rfl, fun a w ha _ => by simp [execOp, ha.eval hx, ha.eval hy, eqGuard, binOp, Op.stringOp]⟩
theorem EV_convII {s t : Nat} {k k' : IntKind} [h1 : IK P s k] [h2 : IK P t k'] {i r : Int} (hx : ev M x = some (.int k i)) (hr : k'.wrap i = r) :
    EV P n ⟨some d, .convert s t x, ty, ps, af, g⟩ M L d (.int k' r) :=
  ⟨rfl, fun a w ha _ => by
    simp [execOp, ha.eval hx, convert, underlying, h1.out, h2.out, Conv.intToInt, hr]⟩
theorem EV_shr {t u : TypeId} {k k' : IntKind} {i j r : Int} (hx : ev M x = some (.int k i)) (hy : ev M y = some (.int k' j)) (hj : 0 ≤ j) (hr : i.fdiv (2 ^ (min j.toNat k.bits)) = r)
    : EV P n ⟨some d, .binOp .shr t x y u, ty, ps, af, g⟩ M L d (.int k r) :=
  ⟨rfl, fun a w ha _ => by
    have : ¬ j < 0 := by omega
    simp [execOp, ha.eval hx, ha.eval hy, eqGuard, binOp, Op.shift, this, hr]⟩
omit [W0] in
/-- A slice of the call's own (or nil), what its first n elements hold, and its chunk. -/
def Ow (e k : Nat) (v : Value) (m : Nat) (xs : List Value) (C : Chunk) : Prop :=
  (v = .slice none 0 0 ∧ m = 0 ∧ xs = [] ∧ C = []) ∨
  ∃ b cap rest, v = .slice (some ⟨b, 0, none⟩) m cap ∧ C = [(b, cl (xs ++ rest) e)] ∧ xs.length = m * k ∧ rest.length = (cap - m) * k ∧ m ≤ cap ∧ cap ≤ maxLen
omit [W0] in
/-- A slice that can be read: what its elements hold. -/
def Sl (L : List Chunk) (k : Nat) (v : Value) (m : Nat) (xs : List Value) : Prop :=
  (∃ c, v = .slice none 0 c ∧ m = 0 ∧ xs = []) ∨ ∃ a cap, v = .slice (some a) m cap ∧ RdAt L a xs ∧ xs.length = m * k
omit [W0] in
/-- A chunk stands between two parts. -/
inductive Zip (C : Chunk) : List Chunk → List Chunk → List Chunk → Prop
  | here (B) : Zip C (C :: B) [] B
  | there (D) {L A B} : Zip C L A B → Zip C (D :: L) (D :: A) B
theorem Zip.eq {C : Chunk} {L A B : List Chunk} (h : Zip C L A B) : L = A ++ C :: B := by
  induction h with
  | here B => rfl
  | there D _ ih => simp [ih]
theorem Upd.front {L0 : List Chunk} {b : Nat} {o o' : Obj} : Upd ([(b, o)] :: L0) b o o' ([(b, o')] :: L0) := .here
theorem run_append_own' {t e k by_ : Nat} {z : Value} (hs : SL P t e k by_) (hz : ZV P e z) (hzk : z.cells.size = k) {v r : Value} {m c : Nat} {xs ys : List Value} {C : Chunk} (hown : Ow e k v m xs C) {L0 : List Chunk}
    (hsl : Sl (C :: L0) k r c ys) (h1 : ones ys = true) (hb : (m + c) * by_ ≤ 140737488355328) (h63 : m + c ≤ maxLen) {w : World} (hw : Holds w (C :: L0)) :
    ∃ v' C' w', (Builtin.append_ #[t, t] ty #[v, r]).run P w = .ok v' w' ∧ Ow e k v' (m + c) (xs ++ ys) C' ∧ Holds w' (C' :: L0) ∧ (v = .slice none 0 0 → c = 0 → v' = .slice none 0 0) ∧ (v' = .slice none 0 0 → v = .slice none 0 0) := by
  obtain ⟨ht, i, hi, hik, hib, hk⟩ := hs.parts
  have hzz : i.zero = some z := by have := hz.out; rw [hi] at this; simpa using this
  subst hik hib
  have hsmall : m + c ≤ 9223372036854775807 := by simpa [maxLen] using h63
  rcases hown with ⟨rfl, rfl, rfl, rfl⟩ | ⟨b, cap, rest, rfl, rfl, hxl, hrl, hmc, hcm⟩
  · rcases hsl with ⟨c', rfl, rfl, rfl⟩ | ⟨a, c', rfl, hrd, hyl⟩
    · refine ⟨.slice none 0 0, [], w, ?_, .inl ⟨rfl, rfl, rfl, rfl⟩, hw, by simp, by simp⟩
      simp [Builtin.append_, run_underlying ht, sizeOf, typeInfo, hi, Builtin.lenOf, Builtin.firstCells, loadCells, loadCellsFrom]
    · by_cases hc : c = 0
      · subst hc
        have hn : ys = [] := List.eq_nil_of_length_eq_zero (by simpa using hyl)
        subst hn
        refine ⟨.slice none 0 0, [], w, ?_, .inl ⟨rfl, rfl, rfl, rfl⟩, hw, by simp, by simp⟩
        simp [Builtin.append_, run_underlying ht, sizeOf, typeInfo, hi, Builtin.lenOf, Builtin.firstCells, loadCells, loadCellsFrom]
      · have hr := run_append_nil (P := P) w t ty e i z ht hi hzz a c c' ys hyl (hrd.cells hw) (by omega) (by omega) (by have h2 := hb; simp only [Nat.zero_add] at h2; omega)
        refine ⟨_, [(w.heap.size, cl (ys ++ (Builtin.zeroCells z.cells (grownCap w c 0 e - c)).toList) e)], _, hr, .inr ⟨w.heap.size, grownCap w c 0 e, (Builtin.zeroCells z.cells (grownCap w c 0 e - c)).toList, by simp, by simp, by simpa using hyl, ?_, by simpa using grownCap_ge w c 0 e, grownCap_le_maxLen w c 0 e (by omega)⟩, ?_, by simp [hc], by simp⟩
        · simp [size_zeroCells, hzk]
        · have h0 := (hw.drop.same (w' := w.drew) rfl rfl rfl).alloc (.cells (ys.toArray ++ Builtin.zeroCells z.cells (grownCap w c 0 e - c)) e)
          have e1 : (cl (ys ++ (Builtin.zeroCells z.cells (grownCap w c 0 e - c)).toList) e) = .cells (ys.toArray ++ Builtin.zeroCells z.cells (grownCap w c 0 e - c)) e (0, 0) := by
            unfold cl; congr 1; apply Array.ext'; simp
          rw [e1]; exact h0
  · rcases hsl with ⟨c', rfl, rfl, rfl⟩ | ⟨a, c', rfl, hrd, hyl⟩
    · refine ⟨.slice (some ⟨b, 0, none⟩) m cap, _, w, ?_, .inr ⟨b, cap, rest, by simp, rfl, by simpa using hxl, by simpa using hrl, by simpa using hmc, hcm⟩, by simpa using hw, by simp, by simp⟩
      have hmc' : m + 0 ≤ cap := by omega
      simp [Builtin.append_, run_underlying ht, sizeOf, typeInfo, hi, Builtin.lenOf, Builtin.firstCells, hmc, storeCells]
    · by_cases hroom : m + c ≤ cap
      · have hfnd : w.heap[b]? = some (.cells (xs ++ rest).toArray e (0, 0)) := (Fnd.here : Fnd ([(b, cl (xs ++ rest) e)] :: L0) b _).get hw
        have hlen : m * i.size + ys.length ≤ (xs ++ rest).toArray.size := by
          simp only [List.size_toArray, List.length_append, hxl, hrl, hyl, ← Nat.add_mul]
          exact Nat.mul_le_mul_right _ (by omega)
        have hr := run_append_room (P := P) w t ty e i ht hi b m cap _ hfnd a c c' ys hyl (hrd.cells hw) (ones_mem h1) hroom hlen
        have hx1 : ((xs ++ rest).toArray.toList.take (m * i.size) ++ ys ++ (xs ++ rest).toArray.toList.drop (m * i.size + ys.length)) = (xs ++ ys) ++ rest.drop ys.length := by
          simp only [List.toList_toArray]
          rw [← hxl, List.take_left]
          congr 1
          rw [List.drop_append]
          simp
        refine ⟨_, [(b, cl ((xs ++ ys) ++ rest.drop ys.length) e)], _, hr, .inr ⟨b, cap, rest.drop ys.length, rfl, rfl, ?_, ?_, hroom, hcm⟩, ?_, by simp, by simp⟩
        · rw [List.length_append, hxl, hyl, Nat.add_mul]
        · rw [List.length_drop, hrl, hyl, ← Nat.sub_mul]; congr 1; omega
        · rw [hx1]
          exact hw.row .here
      · have hrd0 : RdAt ([(b, cl (xs ++ rest) e)] :: L0) ⟨b, 0, none⟩ xs := RdAt.cl' .here (by simp [cut])
        have hr := run_append_grow (P := P) w t ty e i z ht hi hzz ⟨b, 0, none⟩ m cap xs hxl (hrd0.cells hw) a c c' ys hyl (hrd.cells hw) (by omega) (by omega) (growslice_fits (by omega) hb)
        refine ⟨_, [(w.heap.size, cl ((xs ++ ys) ++ (Builtin.zeroCells z.cells (grownCap w (m + c) cap e - (m + c))).toList) e)], _, hr, .inr ⟨w.heap.size, _, _, rfl, rfl, ?_, ?_, grownCap_ge w (m + c) cap e, grownCap_le_maxLen w (m + c) cap e h63⟩, ?_, by simp, by simp⟩
        · rw [List.length_append, hxl, hyl, Nat.add_mul]
        · simp [size_zeroCells, hzk]
        · have h0 := (hw.drop.same (w' := w.drew) rfl rfl rfl).alloc (.cells (xs.toArray ++ ys.toArray ++ Builtin.zeroCells z.cells (grownCap w (m + c) cap e - (m + c))) e)
          have e1 : (cl ((xs ++ ys) ++ (Builtin.zeroCells z.cells (grownCap w (m + c) cap e - (m + c))).toList) e) = .cells (xs.toArray ++ ys.toArray ++ Builtin.zeroCells z.cells (grownCap w (m + c) cap e - (m + c))) e (0, 0) := by
            unfold cl; congr 1; apply Array.ext'; simp
          rw [e1]; exact h0
theorem Fnd.perm {L L' : List Chunk} {b : Nat} {o : Obj} (h : Fnd L b o) (hp : L.Perm L') : Fnd L' b o := hp.flatten.mem_iff.1 h
theorem RdAt.perm {L L' : List Chunk} {a : Addr} {vs : List Value} (h : RdAt L a vs) (hp : L.Perm L') : RdAt L' a vs := by
  rcases h with h | ⟨b, off, c, T, fr, h1, h2, h3⟩
  · exact .inl h
  · exact .inr ⟨b, off, c, T, fr, h1, h2.perm hp, h3⟩
theorem Sl.perm {L L' : List Chunk} {k m : Nat} {v : Value} {xs : List Value} (h : Sl L k v m xs) (hp : L.Perm L') : Sl L' k v m xs := by
  rcases h with h | ⟨a, cap, h1, h2, h3⟩
  · exact .inl h
  · exact .inr ⟨a, cap, h1, h2.perm hp, h3⟩
theorem OW_append {t e k by_ : Nat} [hs : SL P t e k by_] {z : Value} [hz : ZV P e z] {v r : Value} {m c : Nat} {xs ys : List Value} {C : Chunk} {A B : List Chunk} (hx : ev M x = some v) (hy : ev M y = some r) (hown : Ow e k v m xs C)
    (hsl : Sl L k r c ys) (hzip : Zip C L A B) (hzk : z.cells.size = k) (h1 : ones ys = true) (hb : (m + c) * by_ ≤ 140737488355328) (h63 : m + c ≤ maxLen)
    (hn : Nat.blt d n = true) (h : ∀ v' C', Ow e k v' (m + c) (xs ++ ys) C' → (v = .slice none 0 0 → c = 0 → v' = .slice none 0 0) → (v' = .slice none 0 0 → v = .slice none 0 0) → K ((d, v') :: M) (A ++ C' :: B)) :
    OW P n ⟨some d, .call ⟨.builtin .append, #[x, y], #[t, t]⟩, ty, ps, af, g⟩ K M L := ⟨fun a w next Q ha hw hk => by
  have hL := hzip.eq
  subst hL
  obtain ⟨v', C', w', hr, ho, hw', hn1, hn2⟩ := run_append_own' (P := P) (ty := ty) hs hz hzk hown (hsl.perm List.perm_middle) h1 hb h63 (hw.perm List.perm_middle)
  unfold Oper.wp
  have hrun : (execOp a.eval ⟨some d, .call ⟨.builtin .append, #[x, y], #[t, t]⟩, ty, ps, af, g⟩).run P w = .ok (.value v') w' := by
    simp only [execOp, resolve, invoke, builtin, Sem.run_bind, Sem.run_pure, Result.andThen_ok, List.map_toArray, List.map_cons, List.map_nil, ha.eval hx, ha.eval hy, hr]
  rw [hrun, Oper.upon_value]
  exact (hk _ _ (h v' C' ho hn1 hn2)).out _ _ (ha.put v' hn) (hw'.perm List.perm_middle.symm)⟩
theorem OW_copy {t e k by_ : Nat} [hs : SL P t e k by_] {b off dl dc sl : Nat} {r : Value} {l zs : List Value} {T : TypeId} {L' : List Chunk} (hx : ev M x = some (.slice (some ⟨b, off, none⟩) dl dc)) (hy : ev M y = some r)
    (hsl : Sl L k r sl zs) (h1 : ones (zs.take (min sl dl * k)) = true) (hu : Upd L b (cl l T) (cl (patch l off (zs.take (min sl dl * k))) T) L') (hfit : off + min sl dl * k ≤ l.length)
    (hn : Nat.blt d n = true) (h : K ((d, .int .i64 ((min sl dl : Nat) : Int)) :: M) L') :
    OW P n ⟨some d, .call ⟨.builtin .copy, #[x, y], #[t, t]⟩, ty, ps, af, g⟩ K M L := ⟨fun a w next Q ha hw hk => by
  obtain ⟨ht, i, hi, hik, hib, hk0⟩ := hs.parts
  have hmin : sl.min dl = min sl dl := rfl
  rcases hsl with ⟨c', rfl, rfl, rfl⟩ | ⟨a', c', rfl, hrd, hyl⟩
  · have hL' : patch l off (List.take (min 0 dl * k) []) = l := by simp [patch]
    have hrun : (execOp a.eval ⟨some d, .call ⟨.builtin .copy, #[x, y], #[t, t]⟩, ty, ps, af, g⟩).run P w = .ok (.value (.int .i64 ((min 0 dl : Nat) : Int))) (w.setRow b (patch l off (List.take (min 0 dl * k) [])).toArray) := by
      have hst := storeCells_run (P := P) (vs := List.take (min 0 dl * k) []) hw hu (by simp; have := hfit; omega) (by simp [ones])
      simp only [execOp, resolve, invoke, builtin, Sem.run_bind, Sem.run_pure, Result.andThen_ok, List.map_toArray, List.map_cons, List.map_nil, ha.eval hx, ha.eval hy]
      simp at hst
      simp [Builtin.copy_, run_underlying ht, Builtin.lenOf, Builtin.firstCells, sizeOf, typeInfo, hi, hst, goInt, hmin]
    unfold Oper.wp
    rw [hrun, Oper.upon_value]
    exact (hk _ _ h).out _ _ (ha.put _ hn) (hw.row hu)
  · have hlen : (zs.take (min sl dl * k)).length = min sl dl * k := by
      rw [List.length_take, hyl]
      exact Nat.min_eq_left (Nat.mul_le_mul_right _ (Nat.min_le_left _ _))
    have hcells : ∀ j u, (zs.take (min sl dl * k))[j]? = some u → w.cell? (a'.add j) = some u := fun j u hj => by
      refine hrd.cells hw j u ?_
      rw [List.getElem?_take] at hj
      split at hj
      · exact hj
      · simp at hj
    have hl2 := run_loadCells_list (P := P) w a' _ hcells
    rw [hlen] at hl2
    have hst := storeCells_run (P := P) hw hu (by rw [hlen]; exact hfit) h1
    have hrun : (execOp a.eval ⟨some d, .call ⟨.builtin .copy, #[x, y], #[t, t]⟩, ty, ps, af, g⟩).run P w = .ok (.value (.int .i64 ((min sl dl : Nat) : Int))) (w.setRow b (patch l off (zs.take (min sl dl * k))).toArray) := by
      simp only [execOp, resolve, invoke, builtin, Sem.run_bind, Sem.run_pure, Result.andThen_ok, List.map_toArray, List.map_cons, List.map_nil, ha.eval hx, ha.eval hy]
      simp [Builtin.copy_, run_underlying ht, Builtin.lenOf, Builtin.firstCells, sizeOf, typeInfo, hi, hik, hl2, hst, goInt, hmin]
    unfold Oper.wp
    rw [hrun, Oper.upon_value]
    exact (hk _ _ h).out _ _ (ha.put _ hn) (hw.row hu)⟩
theorem WC_loop {X : Type} {c : Code} (MI : X → List (Nat × Value)) (LI : X → List Chunk) (J : X → Prop) (μ : X → Nat) (x0 : X) (hJ : J x0) (hM : Sub (MI x0) M) (hL : ∀ w, Holds w L → Holds w (LI x0))
    (hround : ∀ x, J x → WC P n c (Exit.then (fun a' w' => ∃ x', μ x' < μ x ∧ J x' ∧ St n (MI x') a' ∧ Holds w' (LI x')) Q) (MI x) (LI x)) : WC P n (.loop c) Q M L := ⟨fun a w ha hw => by
  intro b k cs
  have key : ∀ m x, μ x = m → J x → ∀ a w, St n (MI x) a → Holds w (LI x) →
      ∃ e a' w', Q e a' w' ∧ Arrives P (lone (b.at a (.code c :: .inLoop c :: k)) cs w) b k cs e a' w' := by
    intro m
    induction m using Nat.strongRecOn with
    | _ m ih =>
      intro x hm hx a w ha hw
      obtain ⟨e, a₁, w₁, hq, harr⟩ := (hround x hx).out a w ha hw b (.inLoop c :: k) cs
      subst hm
      cases e with
      | normal =>
        obtain ⟨x', hlt, hJ', ha', hw'⟩ := hq
        obtain ⟨e₂, a₂, w₂, hq₂, harr₂⟩ := ih (μ x') hlt x' rfl hJ' a₁ w₁ ha' hw'
        exact ⟨e₂, a₂, w₂, hq₂, .of_steps (Steps.trans harr (.one step_inLoop)) harr₂⟩
      | exit id => exact ⟨_, a₁, w₁, hq, .pass (x := .inLoop c) rfl (fun _ _ => .inl (by simp)) harr⟩
      | goto l => exact ⟨_, a₁, w₁, hq, .pass (x := .inLoop c) rfl (fun _ _ => .inl (by simp)) harr⟩
      | ret => exact ⟨_, a₁, w₁, hq, .pass (x := .inLoop c) rfl (fun _ _ => .inl (by simp)) harr⟩
      | panic ch => exact ⟨_, a₁, w₁, hq, .pass (x := .inLoop c) rfl (fun _ _ => .inl (by simp)) harr⟩
      | outgrown => exact ⟨_, a₁, w₁, hq, .pass (x := .inLoop c) rfl (fun _ _ => .inl (by simp)) harr⟩
  obtain ⟨e, a', w', hq, harr⟩ := key _ x0 rfl hJ a w (ha.sub hM) (hL w hw)
  exact ⟨e, a', w', hq, .of_steps (.one step_loop) harr⟩⟩
theorem WQ_round {X : Type} {MI : X → List (Nat × Value)} {LI : X → List Chunk} {J : X → Prop} {μ : X → Nat} {x : X} (x' : X) (hlt : μ x' < μ x) (hJ : J x') (hM : Sub (MI x') M) (hL : ∀ w, Holds w L → Holds w (LI x')) :
    WQ n (fun a' w' => ∃ x', μ x' < μ x ∧ J x' ∧ St n (MI x') a' ∧ Holds w' (LI x')) M L := ⟨fun _ w ha hw => ⟨x', hlt, hJ, ha.sub hM, hL w hw⟩⟩
end
end Go.Vx
namespace Go.Vx
open Go
set_option linter.all false
variable [W0]
section
variable {P : Program} {ops : Array Oper} {Q : Exit → Act → World → Prop} {md : Region.Mode} {S : World → Prop} {T : List Nat}
omit [W0] in
/-- Whatever order is picked from here on, and S holds behind every operation that is not on the list T. -/
def wpAnyT (P : Program) (md : Region.Mode) (ops : Array Oper) (Q : Exit → Act → World → Prop) (S : World → Prop) (T : List Nat) : Nat → Array Bool → Act → World → Prop
  | 0, listed, a, w => Region.ready md ops listed = [] ∧ Q .normal a w
  | fuel + 1, listed, a, w =>
    (Region.ready md ops listed = [] → Q .normal a w) ∧
    ∀ i ∈ Region.ready md ops listed, wpOp P ops Q i (fun a' w' => (i ∉ T → S w') ∧ wpAnyT P md ops Q S T fuel (listed.setIfInBounds i true) a' w') a w
theorem wpAny_of_T : ∀ (fuel : Nat) (listed : Array Bool) (a : Act) (w : World), wpAnyT P md ops Q S T fuel listed a w → wpAny P md ops Q fuel listed a w
  | 0, _, _, _, h => h
  | fuel + 1, _, _, _, h => ⟨h.1, fun i hi => wpOp_mono (fun a' w' h' => wpAny_of_T fuel _ a' w' h'.2) (h.2 i hi)⟩
omit [W0] in
/-- i waits for nothing that j does not wait for: i must have come up before j may. -/
def ancB (md : Region.Mode) (ops : Array Oper) (i : Nat) : Nat → Nat → Bool
  | 0, _ => false
  | f + 1, j => match ops[j]? with
    | some o => (o.after.any fun e => Region.binds md e && e.on == i) || o.after.any fun e => Region.binds md e && ancB md ops i f e.on
    | none => false
omit [W0] in
/-- What has come up waited for what has come up. -/
def DC (md : Region.Mode) (ops : Array Oper) (listed : Array Bool) : Prop :=
  ∀ k o, ops[k]? = some o → listed.getD k false = true → ∀ e ∈ o.after, Region.binds md e = true → listed.getD e.on false = true
omit [W0] in
def dcB (md : Region.Mode) (ops : Array Oper) (listed : Array Bool) : Bool :=
  (List.range ops.size).all fun k => !listed.getD k false || match ops[k]? with
    | some o => o.after.all fun e => !Region.binds md e || listed.getD e.on false
    | none => true
theorem DC.of {listed : Array Bool} (h : dcB md ops listed = true) : DC md ops listed := by
  intro k o hk hl e he hb
  simp only [dcB, List.all_eq_true, List.mem_range] at h
  have h1 := h k (Array.getElem?_eq_some_iff.1 hk).1
  rw [hl, hk] at h1
  simp only [Bool.not_true, Bool.false_or] at h1
  have h2 := Array.all_eq_true_iff_forall_mem.1 h1 e he
  simpa [hb] using h2
theorem ancB_spec {i : Nat} {listed : Array Bool} (hd : DC md ops listed) : ∀ (f j : Nat) (o : Oper), ancB md ops i f j = true → ops[j]? = some o →
    (∀ e ∈ o.after, Region.binds md e = true → listed.getD e.on false = true) → listed.getD i false = true := by
  intro f
  induction f with
  | zero => intro j o h; simp [ancB] at h
  | succ f ih =>
    intro j o h hj hall
    simp only [ancB, hj, Bool.or_eq_true] at h
    rcases h with h | h
    · rw [← Array.any_toList, List.any_eq_true] at h
      obtain ⟨e, he, hh⟩ := h
      rw [Array.mem_toList_iff] at he
      simp only [Bool.and_eq_true, beq_iff_eq] at hh
      rw [← hh.2]
      exact hall e he hh.1
    · rw [← Array.any_toList, List.any_eq_true] at h
      obtain ⟨e, he, hh⟩ := h
      rw [Array.mem_toList_iff] at he
      simp only [Bool.and_eq_true] at hh
      obtain ⟨hb, h2⟩ := hh
      have hl := hall e he hb
      cases hk : ops[e.on]? with
      | none => cases f <;> simp [ancB, hk] at h2
      | some o' => exact ih e.on o' h2 hk (hd e.on o' hk hl)
theorem DC.set {listed : Array Bool} {j : Nat} (hd : DC md ops listed) (hj : j ∈ Region.ready md ops listed) : DC md ops (listed.setIfInBounds j true) := by
  intro k o hk hl e he hb
  obtain ⟨_, oj, hoj, hall⟩ := mem_ready.1 hj
  by_cases hjk : j = k
  · subst hjk
    rw [hoj] at hk
    cases hk
    exact getD_set_true (hall e he hb)
  · rw [getD_set_ne false hjk] at hl
    exact getD_set_true (hd k o hk hl e he hb)
theorem listed_both {i : Nat} {listed : Array Bool} (h0 : listed.getD i true = false) (h1 : listed.getD i false = true) : False := by
  rcases Nat.lt_or_ge i listed.size with h' | h'
  · simp [h'] at h0 h1; rw [h0] at h1; cases h1
  · simp [Array.getElem?_eq_none h'] at h1
theorem wpAnyT_first {i : Nat} {oi : Oper} {v : Value} (hi : ops[i]? = some oi) (hsel : ∀ (j : Nat) (o : Oper) cs b, ops[j]? = some o → o.op ≠ .select cs b)
    (hQ : ∀ c a w, Q (.panic c) (a.put oi.dst v) w → Q (.panic c) a w) (hT : ∀ j ∈ T, j ≠ i → ∃ f, ancB md ops i f j = true) :
    ∀ (fuel : Nat) (listed : Array Bool) (a : Act) (w : World),
      (∀ j oj, ops[j]? = some oj → j ≠ i → listed.getD j true = false → (∀ e ∈ oj.after, Region.binds md e = true → e.on ≠ i) → oi.apart ops oj = true) → DC md ops listed →
      i ∈ Region.ready md ops listed → YieldsIf P ops S oi v a → S w →
      wpAnyT P md ops Q S T fuel (listed.setIfInBounds i true) (a.put oi.dst v) w → wpAnyT P md ops Q S T (fuel + 1) listed a w := by
  intro fuel
  induction fuel with
  | zero =>
    intro listed a w _ _ hr hy hS H
    refine ⟨fun h => (by rw [h] at hr; cases hr), fun j hj => ?_⟩
    by_cases hji : j = i
    · subst hji; exact hy.wpOp hi hS ⟨fun _ => hS, H⟩
    · have := ready_mono hj hji
      rw [H.1] at this
      cases this
  | succ fuel ih =>
    intro listed a w hfree hdc hr hy hS H
    refine ⟨fun h => (by rw [h] at hr; cases hr), fun j hj => ?_⟩
    by_cases hji : j = i
    · subst hji; exact hy.wpOp hi hS ⟨fun _ => hS, H⟩
    · have h1 := H.2 j (ready_mono hj hji)
      obtain ⟨hjun, oj, hoj, hall⟩ := mem_ready.1 hj
      have hun := (mem_ready.1 hr).1
      have hnot : ∀ e ∈ oj.after, Region.binds md e = true → e.on ≠ i := fun e he hb heq => by
        have h1 := hall e he hb
        rw [heq] at h1
        exact listed_both hun h1
      have hnT : j ∉ T := fun hm => by
        obtain ⟨f, hf⟩ := hT j hm hji
        exact listed_both hun (ancB_spec hdc f j oj hf hoj hall)
      have h2 := wpOp_putIf hoj (hfree j oj hoj hji hjun hnot) (fun cs b => hsel i oi cs b hi) (fun cs b => hsel j oj cs b hoj) hQ hy h1
      have hfree' : ∀ k ok, ops[k]? = some ok → k ≠ i → (listed.setIfInBounds j true).getD k true = false →
          (∀ e ∈ ok.after, Region.binds md e = true → e.on ≠ i) → oi.apart ops ok = true := fun k ok hk hki hun hno => by
        refine hfree k ok hk hki ?_ hno
        by_cases hjk : j = k
        · subst hjk; exact hjun
        · rw [getD_set_ne true hjk] at hun; exact hun
      refine wpOp_mono (fun a' w' h3 => ⟨fun _ => h3.2.1 hnT, ih (listed.setIfInBounds j true) a' w' hfree' (hdc.set hj) (ready_mono hr (Ne.symm hji)) h3.1 (h3.2.1 hnT) ?_⟩) h2
      rw [Array.setIfInBounds_comm _ _ hji]
      exact h3.2.2
end
omit [W0] in
/-- Where a panic ends, the slots do not matter. -/
structure PO (Q : Exit → Act → World → Prop) : Prop where
  out : ∀ c (a : Act) d v w, Q (.panic c) (a.put d v) w → Q (.panic c) a w
theorem PO.then {Q : Exit → Act → World → Prop} {K : Act → World → Prop} (h : PO Q) : PO (Exit.then K Q) := ⟨h.out⟩
theorem PO.block {Q : Exit → Act → World → Prop} {i : Nat} (h : PO Q) : PO (Exit.inBlock i Q) := ⟨h.out⟩
theorem put_defers' {a : Act} {d : Option Tmp} {v : Value} : (a.put d v).defers = a.defers := by cases d <;> rfl
theorem PO.body {P : Program} {fn : Func} {R : Ending → World → Prop} : PO (bodyPost P fn R) := ⟨fun c a d v w h => by
  obtain ⟨h1, h2⟩ := h
  exact ⟨by rw [put_defers'] at h1; exact h1, h2⟩⟩
omit [W0] in
/-- All chunks of the first list are among the second's. -/
structure Inc (S L : List Chunk) : Prop where
  out : ∃ R, L.Perm (S ++ R)
theorem Inc.nil {L : List Chunk} : Inc [] L := ⟨L, .refl _⟩
theorem Inc.cons {C : Chunk} {S L L' : List Chunk} (ht : Take C L L') (h : Inc S L') : Inc (C :: S) L := by
  obtain ⟨R, hR⟩ := h.out
  exact ⟨R, ht.perm.trans (hR.cons C)⟩
theorem Inc.skip {C : Chunk} {S L : List Chunk} (h : Inc S L) : Inc S (C :: L) := by
  obtain ⟨R, hR⟩ := h.out
  exact ⟨C :: R, (hR.cons C).trans List.perm_middle.symm⟩
theorem Inc.refl {L : List Chunk} : Inc L L := ⟨[], by simp⟩
theorem Holds.front {w : World} {S R : List Chunk} (h : Holds w (S ++ R)) : Holds w S := by
  refine ⟨?_, fun x hx => h.2.1 x (by simp only [List.flatten_append, List.mem_append]; exact .inl hx), h.2.2⟩
  have := h.1
  simp only [List.flatten_append, List.map_append, List.nodup_append] at this
  exact this.1
theorem Inc.holds {S L : List Chunk} (h : Inc S L) {w : World} (hw : Holds w L) : Holds w S := by
  obtain ⟨R, hR⟩ := h.out
  exact (hw.perm hR).front
structure WR (P : Program) (n : Nat) (ops : List Oper) (Q : Exit → Act → World → Prop) (S : List Chunk) (T : List Nat) (fuel : Nat) (listed : Array Bool) (M : List (Nat × Value)) (L : List Chunk) : Prop where
  out : ∀ a w, St n M a → Holds w L → wpAnyT P .any ops.toArray Q (fun w => Holds w S) T fuel listed a w
structure WRk (P : Program) (n : Nat) (ops : List Oper) (Q : Exit → Act → World → Prop) (S : List Chunk) (T : List Nat) (fuel : Nat) (listed : Array Bool) (M : List (Nat × Value)) (L : List Chunk) : Prop where
  inc : Inc S L
  out : WR P n ops Q S T fuel listed M L
section
variable {P : Program} {n : Nat} {Q : Exit → Act → World → Prop} {M : List (Nat × Value)} {L S : List Chunk} {ops : List Oper} {T : List Nat} {fuel : Nat} {listed : Array Bool}
theorem WC_draw (S : List Chunk) (T : List Nat) {id : Nat} (hm : P.follows .mixedOrders = true) (h : WR P n ops Q S T ops.length (Array.replicate ops.length false) M L) : WC P n (.region id ops.toArray true) Q M L := ⟨fun a w ha hw => by
  refine wp_region_any hm (wpAny_of_T (S := fun w => Holds w S) (T := T) _ _ _ _ ?_)
  have := h.out a { w with drawn := w.drawn + 1 } ha (hw.same rfl rfl rfl)
  simpa using this⟩
theorem WC_drawAll (T : List Nat) {id : Nat} (hm : P.follows .mixedOrders = true) (h : WR P n ops Q L T ops.length (Array.replicate ops.length false) M L) : WC P n (.region id ops.toArray true) Q M L := WC_draw L T hm h
theorem WR_done (hr : Region.ready .any ops.toArray listed = []) (h : WQ n (Q .normal) M L) : WR P n ops Q S T fuel listed M L := ⟨fun a w ha hw => by
  cases fuel with
  | zero => exact ⟨hr, h.out a w ha hw⟩
  | succ f => exact ⟨fun _ => h.out a w ha hw, by rw [hr]; simp⟩⟩
omit [W0] in
/-- The ground for taking number i first. -/
def takeB (ops : List Oper) (T : List Nat) (listed : Array Bool) (i : Nat) : Bool :=
  Region.noSelect ops.toArray && Region.free .any ops.toArray listed i && (Region.ready .any ops.toArray listed).contains i && dcB .any ops.toArray listed
    && T.all fun j => j == i || ancB .any ops.toArray i ops.length j
theorem WR_first {i d : Nat} {o : Oper} {v : Value} (hi : ops[i]? = some o) (hd : o.dst = some d) (hb : takeB ops T listed i = true) (hPO : PO Q) (hinc : Inc S L) (hn : Nat.blt d n = true)
    (hy : ∀ a, St n M a → YieldsIf P ops.toArray (fun w => Holds w S) o v a)
    (h : WR P n ops Q S T fuel (listed.setIfInBounds i true) ((d, v) :: M) L) : WR P n ops Q S T (fuel + 1) listed M L := ⟨fun a w ha hw => by
  simp only [takeB, Bool.and_eq_true, List.all_eq_true, Bool.or_eq_true, beq_iff_eq] at hb
  obtain ⟨⟨⟨⟨h1, h2⟩, h3⟩, h4⟩, h5⟩ := hb
  have hi' : ops.toArray[i]? = some o := by simpa using hi
  refine wpAnyT_first hi' (Region.noSelect_spec h1) (fun c a w hq => hPO.out c a _ _ w hq) (fun j hj hne => ⟨ops.length, (h5 j hj).resolve_left hne⟩) fuel listed a w (Region.free_spec hi' h2) (DC.of h4) (by simpa using h3) (hy a ha) (hinc.holds hw) ?_
  rw [hd]
  exact h.out _ w (ha.put v hn) hw⟩
theorem WR_take (i : Nat) {d : Nat} {o : Oper} {v : Value} (hi : ops[i]? = some o) (hg : o.guard = none) (hb : takeB ops T listed i = true) (hPO : PO Q) (hinc : Inc S L) (he : EV P n o M S d v) (hn : Nat.blt d n = true)
    (h : WR P n ops Q S T fuel (listed.setIfInBounds i true) ((d, v) :: M) L) : WR P n ops Q S T (fuel + 1) listed M L :=
  WR_first hi he.dst hb hPO hinc hn (fun a ha => .inl ⟨by simp [Region.wanted, hg], fun w hw => he.run a w ha hw⟩) h
theorem WR_takeOn (i : Nat) {d j : Nat} {b : Bool} {o : Oper} {v : Value} (hi : ops[i]? = some o) (hg : o.guard = some (j, b)) (hy : yl ops M j = some (.bool b)) (hb : takeB ops T listed i = true) (hPO : PO Q) (hinc : Inc S L) (he : EV P n o M S d v) (hn : Nat.blt d n = true)
    (h : WR P n ops Q S T fuel (listed.setIfInBounds i true) ((d, v) :: M) L) : WR P n ops Q S T (fuel + 1) listed M L :=
  WR_first hi he.dst hb hPO hinc hn (fun a ha => .inl ⟨by simp [Region.wanted, hg, yielded_of ha hy], fun w hw => he.run a w ha hw⟩) h
theorem WR_one (i : Nat) {o : Oper} (hr : Region.ready .any ops.toArray listed = [i]) (hi : ops[i]? = some o) (hg : o.guard = none) (h : OW P n o (WRk P n ops Q S T fuel (listed.setIfInBounds i true)) M L) : WR P n ops Q S T (fuel + 1) listed M L := ⟨fun a w ha hw => by
  refine ⟨fun h0 => absurd (hr ▸ h0) (by simp), fun j hj => ?_⟩
  rw [hr] at hj
  simp only [List.mem_singleton] at hj
  subst hj
  unfold wpOp
  simp only [List.getElem?_toArray, hi]
  rw [if_pos (by simp [Region.wanted, hg])]
  exact .inl (h.out a w _ Q ha hw fun M' L' hk => ⟨fun a' w' ha' hw' => ⟨fun _ => hk.inc.holds hw', hk.out.out a' w' ha' hw'⟩⟩)⟩
theorem WR_last (i : Nat) {o : Oper} (hr : Region.ready .any ops.toArray listed = [i]) (hT : T.contains i = true) (hi : ops[i]? = some o) (hg : o.guard = none) (h : OW P n o (WR P n ops Q S T fuel (listed.setIfInBounds i true)) M L) : WR P n ops Q S T (fuel + 1) listed M L := ⟨fun a w ha hw => by
  refine ⟨fun h0 => absurd (hr ▸ h0) (by simp), fun j hj => ?_⟩
  rw [hr] at hj
  simp only [List.mem_singleton] at hj
  subst hj
  unfold wpOp
  simp only [List.getElem?_toArray, hi]
  rw [if_pos (by simp [Region.wanted, hg])]
  have hm : j ∈ T := by simpa using hT
  exact .inl (h.out a w _ Q ha hw fun M' L' hk => ⟨fun a' w' ha' hw' => ⟨fun hn => absurd hm hn, hk.out a' w' ha' hw'⟩⟩)⟩
theorem WQ_retI {fn : Func} {post : Value → List Chunk → Prop} {rs : List ResultVar} {vs : List Value} (hr : fn.results = rs.toArray) (h : resT M rs = some vs) (hp : ∃ L', Inc L' L ∧ post (tupled vs) L') :
    WQ n (bodyPost P fn (fun e w' => ∃ v L', e = .returned v ∧ post v L' ∧ Holds w' L') .ret) M L := ⟨fun _ _ ha hw => by
  obtain ⟨L', hi, hp⟩ := hp
  exact ⟨ha.defers, tupled vs, results_run ha hr h, _, L', rfl, hp, hi.holds hw⟩⟩
theorem WQ_endI {fn : Func} {post : Value → List Chunk → Prop} {rs : List ResultVar} {vs : List Value} (hr : fn.results = rs.toArray) (h : resT M rs = some vs) (hp : ∃ L', Inc L' L ∧ post (tupled vs) L') :
    WQ n (bodyPost P fn (fun e w' => ∃ v L', e = .returned v ∧ post v L' ∧ Holds w' L') .normal) M L := ⟨fun _ _ ha hw => by
  obtain ⟨L', hi, hp⟩ := hp
  exact ⟨ha.defers, tupled vs, results_run ha hr h, _, L', rfl, hp, hi.holds hw⟩⟩
theorem WQ_retH {fn : Func} {post : Value → List Chunk → Prop} {rs : List ResultVar} {vs : List Value} (hr : fn.results = rs.toArray) (h : resT M rs = some vs) (hp : ∃ L', (∀ w, Holds w L → Holds w L') ∧ post (tupled vs) L') :
    WQ n (bodyPost P fn (fun e w' => ∃ v L', e = .returned v ∧ post v L' ∧ Holds w' L') .ret) M L := ⟨fun _ w ha hw => by
  obtain ⟨L', hi, hp⟩ := hp
  exact ⟨ha.defers, tupled vs, results_run ha hr h, _, L', rfl, hp, hi w hw⟩⟩
theorem WQ_endH {fn : Func} {post : Value → List Chunk → Prop} {rs : List ResultVar} {vs : List Value} (hr : fn.results = rs.toArray) (h : resT M rs = some vs) (hp : ∃ L', (∀ w, Holds w L → Holds w L') ∧ post (tupled vs) L') :
    WQ n (bodyPost P fn (fun e w' => ∃ v L', e = .returned v ∧ post v L' ∧ Holds w' L') .normal) M L := ⟨fun _ w ha hw => by
  obtain ⟨L', hi, hp⟩ := hp
  exact ⟨ha.defers, tupled vs, results_run ha hr h, _, L', rfl, hp, hi w hw⟩⟩
theorem WC_holds' {L' : List Chunk} {c : Code} (hl : ∀ w, Holds w L → Holds w L') (h : WC P n c Q M L') : WC P n c Q M L := h.holds hl
theorem WQ_holds {L' : List Chunk} {q : Act → World → Prop} (hl : ∀ w, Holds w L → Holds w L') (h : WQ n q M L') : WQ n q M L := ⟨fun a w ha hw => h.out a w ha (hl w hw)⟩
theorem OW_holds {L' : List Chunk} {o : Oper} {K : List (Nat × Value) → List Chunk → Prop} (hl : ∀ w, Holds w L → Holds w L') (h : OW P n o K M L') : OW P n o K M L := ⟨fun a w next Q ha hw hk => h.out a w next Q ha (hl w hw) hk⟩
def GvP (P : Program) (f : FuncId) (args : Array Value) (L : List Chunk) (v : Value) : Prop := Gv P f args L (fun r L' => r = v ∧ L' = L)
theorem OW_callP {d : Nat} {ty : TypeId} {ps : String} {af : Array Edge} {g : Option (Nat × Bool)} {x : Operand} {v : Value} {K : List (Nat × Value) → List Chunk → Prop} {f : FuncId} [hb : BD P f] {xs : List Operand} {ats : Array TypeId} {first cap : Array Value} {vs : List Value} {args : Array Value}
    (hx : ev M x = some (.func (.func f) first cap)) (hvs : evs M xs = some vs) (hargs : first ++ vs.toArray ++ cap = args) (hspec : GvP P f args L v)
    (hn : Nat.blt d n = true) (h : K ((d, v) :: M) L) : OW P n ⟨some d, .call ⟨.value x, xs.toArray, ats⟩, ty, ps, af, g⟩ K M L :=
  OW_call hx hvs hargs hspec hn (fun v' L' hp => by obtain ⟨rfl, rfl⟩ := hp; exact h)
end
end Go.Vx
namespace Go.Vx
open Go
set_option linter.all false
variable [W0]
omit [W0] in
/-- Where a type's parts lie. -/
def plcs (P : Program) (t : Nat) : Option (List (Nat × Nat)) := match P.underlying t with
  | some (.struct fs) => fs.toList.mapM fun f => (P.info? f.type).map fun i => (f.offset, i.size)
  | _ => none
omit [W0] in
class BL (P : Program) (t : Nat) (pl : outParam (List (Nat × Nat))) : Prop where out : plcs P t = some pl
omit [W0] in
class PT (P : Program) (t : Nat) : Prop where out : ∃ e, P.underlying t = some (.pointer e)
omit [W0] in
class BB (P : Program) (t : Nat) : Prop where out : P.underlying t = some .bool
omit [W0] in
def fillL (pl : List (Nat × Nat)) : List Value → List (Nat × Value) → Option (List Value)
  | cells, [] => some cells
  | cells, (i, v) :: r => match pl[i]? with
    | none => none
    | some (off, size) => if v.cells.size = size ∧ off + size ≤ cells.length then fillL pl (patch cells off v.cells.toList) r else none
theorem foldl_set (vs : List Value) : ∀ (off j : Nat) (cs : Array Value), off + j + vs.length ≤ cs.size →
    (vs.zipIdx j).foldl (fun cs (x : Value × Nat) => cs.setIfInBounds (off + x.2) x.1) cs = (patch cs.toList (off + j) vs).toArray := by
  induction vs with
  | nil => intro off j cs _; simp [patch]
  | cons v r ih =>
    intro off j cs h
    simp only [List.length_cons] at h
    simp only [List.zipIdx_cons, List.foldl_cons]
    rw [ih off (j + 1) _ (by simp; omega)]
    apply Array.ext'
    have e := list_seg_step cs.toList (off + j) v r (by simp; omega)
    simpa [patch, Array.toList_setIfInBounds, Nat.add_assoc] using e
theorem fill_eq (pl : List (Nat × Nat)) : ∀ (parts : List (Nat × Value)) (cells : List Value) (cs : List Value), fillL pl cells parts = some cs → Instr.fill (pl.toArray[·]?) cells.toArray parts = some cs.toArray := by
  intro parts
  induction parts with
  | nil => intro cells cs h; simp [fillL] at h; subst h; simp [Instr.fill]
  | cons p r ih =>
    intro cells cs h
    obtain ⟨i, v⟩ := p
    unfold fillL at h
    cases hp : pl[i]? with
    | none => simp [hp] at h
    | some q =>
      obtain ⟨off, size⟩ := q
      simp only [hp] at h
      split at h
      · rename_i hc
        unfold Instr.fill
        simp only [List.getElem?_toArray, hp]
        rw [if_neg (by simp; omega)]
        have e : v.cells.zipIdx.foldl (fun cs (x : Value × Nat) => cs.setIfInBounds (off + x.2) x.1) cells.toArray = (patch cells off v.cells.toList).toArray := by
          have := foldl_set v.cells.toList off 0 cells.toArray (by simp; omega)
          rw [← Array.foldl_toList]
          simpa [Array.toList_zipIdx] using this
        have := ih _ cs h
        rw [← e] at this
        simpa using this
      · simp at h
omit [W0] in
/-- The parts' values. -/
def evp (M : List (Nat × Value)) : List (Nat × Operand) → Option (List (Nat × Value))
  | [] => some []
  | (i, x) :: r => match ev M x, evp M r with
    | some v, some vs => some ((i, v) :: vs)
    | _, _ => none
theorem St.evalp {n : Nat} {M : List (Nat × Value)} {a : Act} (h : St n M a) : ∀ {xs : List (Nat × Operand)} {vs : List (Nat × Value)}, evp M xs = some vs → xs.map (fun x => (x.1, a.eval x.2)) = vs
  | [], vs, he => by simp [evp] at he; subst he; rfl
  | (i, x) :: r, vs, he => by
    unfold evp at he
    split at he
    · rename_i v vs' h1 h2
      simp at he; subst he
      simp [h.eval h1, St.evalp h h2]
    · simp at he
section
variable {P : Program} {n : Nat} {Q : Exit → Act → World → Prop} {M : List (Nat × Value)} {L : List Chunk} {K : List (Nat × Value) → List Chunk → Prop}
variable {d : Nat} {ty : TypeId} {ps : String} {af : Array Edge} {g : Option (Nat × Bool)} {x y : Operand} {v : Value}
theorem mapM_places {fs : List Field} {pl : List (Nat × Nat)} (h : fs.mapM (fun f => (P.info? f.type).map fun i => (f.offset, i.size)) = some pl) (w : World) :
    (fs.mapM (m := Sem) fun f => do pure (f.offset, ← sizeOf f.type)).run P w = .ok pl w := by
  induction fs generalizing pl with
  | nil => simp at h; subst h; rfl
  | cons f r ih =>
    simp only [List.mapM_cons] at h
    cases hi : P.info? f.type with
    | none => simp [hi] at h
    | some i =>
      simp only [hi, Option.map_some, Option.pure_def, Option.bind_eq_bind, Option.bind_some] at h
      cases hr : r.mapM (fun f => (P.info? f.type).map fun i => (f.offset, i.size)) with
      | none => simp [hr] at h
      | some pl' =>
        simp [hr] at h
        subst h
        have h2 := ih hr
        have h3 := sizeOf_run (P := P) (t := f.type) (k := i.size) (by rw [hi]; rfl) w
        simp only [List.mapM_cons, Sem.run_bind, h3, Result.andThen_ok, Sem.run_pure, h2]
theorem EV_build {t : Nat} {pl : List (Nat × Nat)} {z : Value} [hb : BL P t pl] [hz : ZV P t z] {parts : List (Nat × Operand)} {pvs : List (Nat × Value)} {cs : List Value} (hp : evp M parts = some pvs)
    (hf : fillL pl z.cells.toList pvs = some cs) : EV P n ⟨some d, .build t parts.toArray, ty, ps, af, g⟩ M L d (.agg cs.toArray) :=
  ⟨rfl, fun a w ha _ => by
    have h1 := hb.out
    unfold plcs at h1
    split at h1
    · rename_i fs hu
      have hm := mapM_places (P := P) h1 w
      have hfill := fill_eq pl pvs z.cells.toList cs hf
      rw [Array.toArray_toList] at hfill
      simp only [List.getElem?_toArray] at hfill
      have hpe := ha.evalp hp
      simp only [execOp, Instr.build, Sem.run_bind, zero_run hz.out, run_underlying hu, Result.andThen_ok]
      rw [← Array.toArray_toList (xs := fs)]
      simp only [List.mapM_toArray, Sem.run_map, hm, Result.andThen_ok]
      simp [hpe, hfill]
    · simp at h1⟩
theorem run_equal_slice {T e : Nat} (hu : P.underlying T = some (.slice e)) (b : Option Addr) (len cap : Nat) (w : World) : (Op.equal T (.slice b len cap) (.slice none 0 0)).run P w = .ok b.isNone w := by
  unfold Op.equal
  rw [show Op.maxDepth = 9999 + 1 from rfl]
  unfold Op.equalIn
  cases b <;> simp [run_underlying hu]
theorem run_equal_ptr {T e : Nat} (hu : P.underlying T = some (.pointer e)) (b : Option Addr) (w : World) : (Op.equal T (.pointer b) (.pointer none)).run P w = .ok b.isNone w := by
  unfold Op.equal
  rw [show Op.maxDepth = 9999 + 1 from rfl]
  unfold Op.equalIn
  cases b <;> simp [run_underlying hu]
theorem run_equal_bool {T : Nat} (hu : P.underlying T = some .bool) (b c : Bool) (w : World) : (Op.equal T (.bool b) (.bool c)).run P w = .ok (b == c) w := by
  unfold Op.equal
  rw [show Op.maxDepth = 9999 + 1 from rfl]
  unfold Op.equalIn
  simp [run_underlying hu]
theorem EV_sliceEqNil {T e k by_ : Nat} [hs : SL P T e k by_] {b : Option Addr} {len cap : Nat} {u : TypeId} (hx : ev M x = some (.slice b len cap)) (hy : ev M y = some (.slice none 0 0)) :
    EV P n ⟨some d, .binOp .eql T x y u, ty, ps, af, g⟩ M L d (.bool b.isNone) :=
  ⟨rfl, fun a w ha _ => by
    obtain ⟨hu, _⟩ := hs.parts
    simp [execOp, ha.eval hx, ha.eval hy, eqGuard, binOp, run_equal_slice hu]⟩
theorem EV_sliceNeNil {T e k by_ : Nat} [hs : SL P T e k by_] {b : Option Addr} {len cap : Nat} {u : TypeId} (hx : ev M x = some (.slice b len cap)) (hy : ev M y = some (.slice none 0 0)) :
    EV P n ⟨some d, .binOp .neq T x y u, ty, ps, af, g⟩ M L d (.bool (!b.isNone)) :=
  ⟨rfl, fun a w ha _ => by
    obtain ⟨hu, _⟩ := hs.parts
    simp [execOp, ha.eval hx, ha.eval hy, eqGuard, binOp, run_equal_slice hu]⟩
theorem EV_ptrEqNil {T : Nat} [hs : PT P T] {b : Option Addr} {u : TypeId} (hx : ev M x = some (.pointer b)) (hy : ev M y = some (.pointer none)) :
    EV P n ⟨some d, .binOp .eql T x y u, ty, ps, af, g⟩ M L d (.bool b.isNone) :=
  ⟨rfl, fun a w ha _ => by
    obtain ⟨e, hu⟩ := hs.out
    simp [execOp, ha.eval hx, ha.eval hy, eqGuard, binOp, run_equal_ptr hu]⟩
theorem EV_ptrNeNil {T : Nat} [hs : PT P T] {b : Option Addr} {u : TypeId} (hx : ev M x = some (.pointer b)) (hy : ev M y = some (.pointer none)) :
    EV P n ⟨some d, .binOp .neq T x y u, ty, ps, af, g⟩ M L d (.bool (!b.isNone)) :=
  ⟨rfl, fun a w ha _ => by
    obtain ⟨e, hu⟩ := hs.out
    simp [execOp, ha.eval hx, ha.eval hy, eqGuard, binOp, run_equal_ptr hu]⟩
theorem EV_boolEq {t : Nat} {u : TypeId} {b c : Bool} [hb : BB P t] (hx : ev M x = some (.bool b)) (hy : ev M y = some (.bool c)) :
    EV P n ⟨some d, .binOp .eql t x y u, ty, ps, af, g⟩ M L d (.bool (b == c)) :=
  ⟨rfl, fun a w ha _ => by
    simp [execOp, ha.eval hx, ha.eval hy, eqGuard, binOp, run_equal_bool hb.out]⟩
theorem EV_boolNe {t : Nat} {u : TypeId} {b c : Bool} [hb : BB P t] (hx : ev M x = some (.bool b)) (hy : ev M y = some (.bool c)) :
    EV P n ⟨some d, .binOp .neq t x y u, ty, ps, af, g⟩ M L d (.bool (b != c)) :=
  ⟨rfl, fun a w ha _ => by
    simp [execOp, ha.eval hx, ha.eval hy, eqGuard, binOp, run_equal_bool hb.out, bne]⟩
omit [W0] in
/-- A new row of zeroes. -/
def zeros (zc : List Value) : Nat → List Value
  | 0 => []
  | n + 1 => zc ++ zeros zc n
theorem zeros_length (zc : List Value) : ∀ n, (zeros zc n).length = n * zc.length
  | 0 => by simp [zeros]
  | n + 1 => by simp [zeros, zeros_length zc n, Nat.add_mul, Nat.add_comm]
theorem zeros_get (zc : List Value) : ∀ (n i : Nat), i < n * zc.length → (zeros zc n)[i]? = zc[i % zc.length]?
  | 0, i, h => by simp at h
  | n + 1, i, h => by
    have hp : 0 < zc.length := by
      rcases Nat.eq_zero_or_pos zc.length with h0 | h0
      · rw [h0] at h; simp at h
      · exact h0
    rw [Nat.add_mul, Nat.one_mul] at h
    unfold zeros
    by_cases hi : i < zc.length
    · rw [List.getElem?_append_left hi, Nat.mod_eq_of_lt hi]
    · rw [List.getElem?_append_right (by omega), zeros_get zc n (i - zc.length) (by omega)]
      congr 1
      exact (Nat.mod_eq_sub_mod (Nat.le_of_not_lt hi)).symm
theorem zeros_range {z : Array Value} {m : Nat} : ((Array.range (m * z.size)).map (fun i => z[i % z.size]!)) = (zeros z.toList m).toArray := by
  apply Array.ext'
  apply List.ext_getElem?
  intro i
  by_cases h : i < m * z.size
  · have hz : 0 < z.size := by
      rcases Nat.eq_zero_or_pos z.size with h0 | h0
      · rw [h0] at h; simp at h
      · exact h0
    have hm : i % z.size < z.size := Nat.mod_lt _ hz
    rw [zeros_get _ _ _ (by simpa using h)]
    simp [h, hm]
  · rw [List.getElem?_eq_none (by simp; omega), List.getElem?_eq_none (by rw [zeros_length]; simp; omega)]
theorem zeroCells_eq {z : Array Value} {m : Nat} : Builtin.zeroCells z m = (zeros z.toList m).toArray := zeros_range
theorem OW_makeSlice {t e k by_ : Nat} {z : Value} [hs : SL P t e k by_] [hz : ZV P e z] {m c : Nat} {k1 k2 : IntKind} (hx : ev M x = some (.int k1 (m : Int))) (hy : ev M y = some (.int k2 (c : Int))) (hzk : z.cells.size = k)
    (hmc : m ≤ c) (hc : c ≤ 9223372036854775807) (hb : c * by_ ≤ 281474976710656) (hn : Nat.blt d n = true)
    (h : ∀ b, K ((d, .slice (some ⟨b, 0, none⟩) m c) :: M) ([(b, cl (zeros z.cells.toList c) e)] :: L)) : OW P n ⟨some d, .makeSlice t x y, ty, ps, af, g⟩ K M L :=
  OW_newval (f := fun b => .slice (some ⟨b, 0, none⟩) m c) rfl hn (fun a w ha hw => by
    obtain ⟨hu, i, hi, hik, hib, hk0⟩ := hs.parts
    have hzz : i.zero = some z := by have := hz.out; rw [hi] at this; simpa using this
    subst hik hib
    have hr := run_make (P := P) w t e i z hu hi hzz k1 k2 m c (by omega) (by omega) (by
      rw [← Int.natCast_mul, Nat.mul_comm]; exact Int.ofNat_le.2 hb) (by omega)
    have hz2 := zeros_range (z := z.cells) (m := c)
    rw [hzk] at hz2
    simp only [execOp, ha.eval hx, ha.eval hy, Sem.run_bind, hr, Result.andThen_ok, Sem.run_pure, Int.toNat_natCast]
    unfold madeCells cl
    rw [hzk, hz2]) h
theorem OW_buildSlice {t e k by_ len : Nat} {z : Value} [hs : SL P t e k by_] [hz : ZV P e z] {parts : List (Nat × Operand)} {pvs : List (Nat × Value)} {cs : List Value} (hp : evp M parts = some pvs) (hzk : z.cells.size = k)
    (hf : fillL ((List.range len).map fun i => (i * k, k)) (zeros z.cells.toList len) pvs = some cs) (hlen : len * k ≤ 16777216) (hpl : pvs.all (fun x => Nat.blt x.1 len) = true) (hn : Nat.blt d n = true)
    (h : ∀ b, K ((d, .slice (some ⟨b, 0, none⟩) len len) :: M) ([(b, cl cs e)] :: L)) : OW P n ⟨some d, .buildSlice t len parts.toArray, ty, ps, af, g⟩ K M L :=
  OW_newval (f := fun b => .slice (some ⟨b, 0, none⟩) len len) rfl hn (fun a w ha hw => by
    obtain ⟨hu, i, hi, hik, hib, hk0⟩ := hs.parts
    subst hik
    have hpe := ha.evalp hp
    have hz2 := zeros_range (z := z.cells) (m := len)
    rw [hzk] at hz2
    have hfill := fill_eq _ pvs _ cs hf
    have hfill2 : Instr.fill (fun j => some (j * i.size, i.size)) (zeros z.cells.toList len).toArray pvs = some cs.toArray := by
      have key : ∀ (ps : List (Nat × Value)) (c : Array Value), ps.all (fun x => Nat.blt x.1 len) = true → Instr.fill (((List.range len).map fun j => (j * i.size, i.size)).toArray[·]?) c ps = Instr.fill (fun j => some (j * i.size, i.size)) c ps := by
        intro ps
        induction ps with
        | nil => intro c _; simp [Instr.fill]
        | cons p r ih =>
          intro c hall
          obtain ⟨j, v⟩ := p
          simp only [List.all_cons, Bool.and_eq_true, Nat.blt_eq] at hall
          unfold Instr.fill
          simp only [List.getElem?_toArray, List.getElem?_map, List.getElem?_range hall.1, Option.map_some]
          split
          · rfl
          · have := ih (v.cells.zipIdx.foldl (fun cs (x : Value × Nat) => cs.setIfInBounds (j * i.size + x.2) x.1) c) hall.2
            simp only [List.getElem?_toArray, List.getElem?_map] at this
            exact this
      rw [← key pvs _ hpl]; exact hfill
    have hle : ¬ (16777216 < len * i.size) := by omega
    by_cases h0 : len * i.size = 0
    · have hl0 : len = 0 := by
        rcases Nat.mul_eq_zero.1 h0 with h | h
        · exact h
        · omega
      subst hl0
      simp [zeros] at hfill2
      have e0 : ∀ f : Nat → Value, Array.map f (Array.range 0) = #[] := fun f => by apply Array.ext'; simp
      simp [execOp, Instr.buildSlice, run_underlying hu, sizeOf, typeInfo, hi, hpe, newRow, e0, hfill2, cl]
    · simp only [execOp, Instr.buildSlice, Sem.run_bind, run_underlying hu, Result.andThen_ok]
      have hsz : (sizeOf e).run P w = .ok i.size w := sizeOf_run (by rw [hi]; rfl) w
      simp [hsz, h0, zero_run hz.out, hpe, hzk, hle]
      rw [hz2]
      simp [hfill2, newRow, cl]) h
omit [W0] in
/-- A string's bytes as cells. -/
def bsv (l : List UInt8) : List Value := l.map fun b => .int .u8 (b.toNat : Int)
theorem bsv_length {l : List UInt8} : (bsv l).length = l.length := by simp [bsv]
theorem bsv_ones {l : List UInt8} : ones (bsv l) = true := by simp [ones, bsv, Value.oneCell']
theorem bsv_append {a b : List UInt8} : bsv (a ++ b) = bsv a ++ bsv b := by simp [bsv]
theorem freeze_at {w : World} {b off m : Nat} {c : Array Value} {T : TypeId} (hb : w.heap[b]? = some (.cells c T (0, 0))) (hm : m ≠ 0) :
    (w.freeze ⟨b, off, none⟩ m).heap[b]? = some (.cells c T (off, off + m)) ∧ ∀ e, e ≠ b → (w.freeze ⟨b, off, none⟩ m).heap[e]? = w.heap[e]? := by
  unfold World.freeze
  rw [if_neg hm]
  refine ⟨by simp [Array.getElem?_modify, hb], fun e he => ?_⟩
  simp only [Array.getElem?_modify]
  rw [if_neg (fun h => he h.symm)]
theorem freeze_os (w : World) (a : Addr) (m : Nat) : (w.freeze a m).os = w.os ∧ (w.freeze a m).output = w.output := by
  unfold World.freeze; split <;> exact ⟨rfl, rfl⟩
theorem wrap_u64 {r : Int} (h1 : 0 ≤ r) (h2 : r ≤ 18446744073709551615) : IntKind.u64.wrap r = r := by
  simp [IntKind.wrap, IntKind.bits, IntKind.signed]
  omega
theorem shr_lit {a j m : Int} {k : IntKind} (h : 0 ≤ a) (hm : (2 : Int) ^ (min j.toNat k.bits) = m) : a.fdiv (2 ^ (min j.toNat k.bits)) = a / m := by
  rw [hm]
  subst hm
  exact Int.fdiv_eq_ediv_of_nonneg _ (Int.le_of_lt (Int.pow_pos (by decide)))
theorem lk_int {t : Nat} {k : IntKind} {a b : Int} (h : lk M t = some (.int k a)) (e : a = b) : lk M t = some (.int k b) := by rw [h, e]
theorem EV_sliceFrom0 {T e k by_ : Nat} [hs : SL P T e k by_] {b len cap : Nat} {lo hi : Option Operand} {l h : Nat} (hx : ev M x = some (.slice (some ⟨b, 0, none⟩) len cap)) (hl : bnd M lo 0 = some (l : Int)) (hh : bnd M hi len = some (h : Int))
    (h1 : l ≤ h) (h2 : h ≤ cap) (h3 : l < cap) : EV P n ⟨some d, .slice T x lo hi none, ty, ps, af, g⟩ M L d (.slice (some ⟨b, l * k, none⟩) (h - l) (cap - l)) := by
  have := EV_sliceSl (P := P) (n := n) (L := L) (d := d) (ty := ty) (ps := ps) (af := af) (g := g) (T := T) hx hl hh h1 h2
  rw [if_neg (by omega), Nat.zero_add] at this
  exact this
theorem bnd_int {o : Operand} {dflt : Nat} {k : IntKind} {a b : Int} (h : ev M o = some (.int k a)) (e : a = b) : bnd M (some o) dflt = some b := by simp only [bnd, h, e]
theorem OW_copyTo {t e k by_ : Nat} [hs : SL P t e k by_] {b off dl dc sl : Nat} {r : Value} {l zs : List Value} {T : TypeId} {L' : List Chunk} (l' : List Value) (hx : ev M x = some (.slice (some ⟨b, off, none⟩) dl dc)) (hy : ev M y = some r)
    (hsl : Sl L k r sl zs) (h1 : ones (zs.take (min sl dl * k)) = true) (he : patch l off (zs.take (min sl dl * k)) = l') (hu : Upd L b (cl l T) (cl l' T) L') (hfit : off + min sl dl * k ≤ l.length)
    (hn : Nat.blt d n = true) (h : K ((d, .int .i64 ((min sl dl : Nat) : Int)) :: M) L') :
    OW P n ⟨some d, .call ⟨.builtin .copy, #[x, y], #[t, t]⟩, ty, ps, af, g⟩ K M L := by
  subst he
  exact OW_copy hx hy hsl h1 hu hfit hn h
omit [W0] in
def tkN : List Value → Nat → Option (List Value)
  | _, 0 => some []
  | [], _ + 1 => none
  | v :: r, m + 1 => match tkN r m with
    | some vs => some (v :: vs)
    | none => none
omit [W0] in
def dpN : List Value → Nat → List Value
  | l, 0 => l
  | [], _ + 1 => []
  | _ :: r, m + 1 => dpN r m
theorem dpN_eq : ∀ (l : List Value) (m : Nat), dpN l m = l.drop m
  | l, 0 => by simp [dpN]
  | [], m + 1 => by simp [dpN]
  | v :: r, m + 1 => by simp [dpN, dpN_eq r m]
theorem tkN_eq : ∀ {l : List Value} {m : Nat} {vs : List Value}, tkN l m = some vs → vs = l.take m ∧ vs.length = m
  | l, 0, vs, h => by simp [tkN] at h; subst h; simp
  | [], m + 1, vs, h => by simp [tkN] at h
  | v :: r, m + 1, vs, h => by
    unfold tkN at h
    split at h
    · rename_i us hu
      simp at h; subst h
      obtain ⟨h1, h2⟩ := tkN_eq hu
      simp [h1, h2]
      rw [← h2]; simp [h1]
    · simp at h
theorem EV_loadAggC {t k : Nat} [hag : AG P t k] {b off : Nat} {l vs : List Value} {T : TypeId} (hx : ev M x = some (.pointer (some ⟨b, off, none⟩))) (hf : Fnd L b (cl l T)) (hc : tkN (dpN l off) k = some vs) :
    EV P n ⟨some d, .load t x, ty, ps, af, g⟩ M L d (.agg vs.toArray) := by
  obtain ⟨h1, h2⟩ := tkN_eq hc
  rw [dpN_eq] at h1
  exact EV_loadAgg hx (RdAt.cl' hf (by unfold cut; rw [h2, h1])) h2
theorem OW_storeAggTo {t k : Nat} [hag : AG P t k] {b off : Nat} {l vs : List Value} {T : TypeId} {L' : List Chunk} (l' : List Value) (hx : ev M x = some (.pointer (some ⟨b, off, none⟩))) (hy : ev M y = some (.agg vs.toArray)) (hl : vs.length = k)
    (h1 : ones vs = true) (he : patch l off vs = l') (hu : Upd L b (cl l T) (cl l' T) L') (hfit : off + vs.length ≤ l.length) (h : K M L') :
    OW P n ⟨none, .store t x y, ty, ps, af, g⟩ K M L := by
  subst he
  exact OW_storeAgg hx hy hl h1 hu hfit h
theorem OW_storeTo {t : TypeId} [hs : SZ P t 1] {b off : Nat} {l : List Value} {T : TypeId} {L' : List Chunk} (l' : List Value) (hx : ev M x = some (.pointer (some ⟨b, off, none⟩))) (hy : ev M y = some v) (hv : v.oneCell' = true)
    (he : l.set off v = l') (hu : Upd L b (cl l T) (cl l' T) L') (hlt : off < l.length) (h : K M L') :
    OW P n ⟨none, .store t x y, ty, ps, af, g⟩ K M L := by
  subst he
  exact OW_store hx hy hv hu hlt h
omit [W0] in
def bitI : BinOp → IntKind → Int → Int → Option Int
  | .and, k, x, y => some (k.wrap ((BitVec.ofInt k.bits x &&& BitVec.ofInt k.bits y).toNat : Int))
  | .or, k, x, y => some (k.wrap ((BitVec.ofInt k.bits x ||| BitVec.ofInt k.bits y).toNat : Int))
  | .xor, k, x, y => some (k.wrap ((BitVec.ofInt k.bits x ^^^ BitVec.ofInt k.bits y).toNat : Int))
  | .andNot, k, x, y => some (k.wrap ((BitVec.ofInt k.bits x &&& ~~~ BitVec.ofInt k.bits y).toNat : Int))
  | _, _, _, _ => none
theorem EV_bit {op : BinOp} {t u : TypeId} {k : IntKind} {i j r : Int} (hx : ev M x = some (.int k i)) (hy : ev M y = some (.int k j)) (hb : bitI op k i j = some r) :
    EV P n ⟨some d, .binOp op t x y u, ty, ps, af, g⟩ M L d (.int k r) :=
  ⟨rfl, fun a w ha _ => by
    cases op <;> simp [bitI] at hb <;> subst hb <;> simp [execOp, ha.eval hx, ha.eval hy, eqGuard, binOp, Op.intBits]⟩
omit [W0] in
/-- A mask of the lowest bits: what it is one less than. -/
def maskI (k : IntKind) : Int → Option Int
  | .ofNat m => bif Nat.beq (2 ^ Nat.log2 (m + 1)) (m + 1) && Nat.ble (Nat.log2 (m + 1) + 1) k.bits then some (m + 1 : Nat) else none
  | .negSucc _ => none
theorem bits_mask {k : IntKind} {i m p : Int} (h : maskI k m = some p) : k.wrap ((BitVec.ofInt k.bits i &&& BitVec.ofInt k.bits m).toNat : Int) = i % p := by
  cases m with
  | negSucc _ => simp [maskI] at h
  | ofNat m =>
    have h : (bif Nat.beq (2 ^ Nat.log2 (m + 1)) (m + 1) && Nat.ble (Nat.log2 (m + 1) + 1) k.bits then some ((m + 1 : Nat) : Int) else none) = some p := h
    cases h1 : (Nat.beq (2 ^ Nat.log2 (m + 1)) (m + 1) && Nat.ble (Nat.log2 (m + 1) + 1) k.bits) with
    | false => rw [h1] at h; simp at h
    | true =>
      rw [h1] at h
      simp only [cond_true, Option.some.injEq] at h
      rw [Bool.and_eq_true, Nat.ble_eq] at h1
      obtain ⟨h2, h3⟩ := h1
      have h2 := Nat.eq_of_beq_eq_true h2
      generalize Nat.log2 (m + 1) = j at h2 h3
      subst h
      have hj : j < k.bits := by omega
      have hlt : 2 ^ j < 2 ^ k.bits := Nat.pow_lt_pow_right (by decide) hj
      have hm : m = 2 ^ j - 1 := by omega
      have e1 : (BitVec.ofInt k.bits (Int.ofNat m)).toNat = m := by
        rw [BitVec.toNat_ofInt]
        have hml : m < 2 ^ k.bits := by omega
        have : (Int.ofNat m) % ((2 ^ k.bits : Nat) : Int) = Int.ofNat m := Int.emod_eq_of_lt (Int.natCast_nonneg m) (by have : ((m : Nat) : Int) < ((2 ^ k.bits : Nat) : Int) := by { exact_mod_cast hml }; exact this)
        rw [this]; rfl
      have e2 : ((BitVec.ofInt k.bits i).toNat : Int) = i % ((2 ^ k.bits : Nat) : Int) := by
        rw [BitVec.toNat_ofInt]
        have h0 : 0 < 2 ^ k.bits := Nat.pow_pos (by decide)
        exact Int.toNat_of_nonneg (Int.emod_nonneg _ (by omega))
      have e3 : ((BitVec.ofInt k.bits i &&& BitVec.ofInt k.bits (Int.ofNat m)).toNat : Int) = i % ((2 ^ j : Nat) : Int) := by
        rw [BitVec.toNat_and, e1, hm, Nat.and_two_pow_sub_one_eq_mod, Int.natCast_emod, e2]
        refine Int.emod_emod_of_dvd _ ?_
        exact_mod_cast Nat.pow_dvd_pow 2 (Nat.le_of_lt hj)
      rw [e3, h2]
      have hp : (0 : Int) < ((m + 1 : Nat) : Int) := by omega
      have g1 := Int.emod_nonneg i (Int.ne_of_gt hp)
      have g2 := Int.emod_lt_of_pos i hp
      have g3 : ((m + 1 : Nat) : Int) ≤ ((2 ^ (k.bits - 1) : Nat) : Int) := by
        have : 2 ^ j ≤ 2 ^ (k.bits - 1) := Nat.pow_le_pow_right (by decide) (by omega)
        rw [← h2]; exact_mod_cast this
      have g4 : ((m + 1 : Nat) : Int) < ((2 ^ k.bits : Nat) : Int) := by rw [← h2]; exact_mod_cast hlt
      unfold IntKind.wrap
      have c1 : ((2 : Int) ^ k.bits) = ((2 ^ k.bits : Nat) : Int) := by simp
      have c2 : ((2 : Int) ^ (k.bits - 1)) = ((2 ^ (k.bits - 1) : Nat) : Int) := by simp
      simp only [c1, c2]
      rw [Int.emod_eq_of_lt g1 (by omega), if_neg]
      simp only [Bool.and_eq_true, decide_eq_true_eq]
      omega
theorem EV_mask {t u : TypeId} {k : IntKind} {i m p : Int} (hx : ev M x = some (.int k i)) (hy : ev M y = some (.int k m)) (hm : maskI k m = some p) :
    EV P n ⟨some d, .binOp .and t x y u, ty, ps, af, g⟩ M L d (.int k (i % p)) := by
  have := EV_bit (P := P) (n := n) (L := L) (d := d) (ty := ty) (ps := ps) (af := af) (g := g) (op := .and) (t := t) (u := u) hx hy rfl
  rwa [bits_mask hm] at this
theorem EV_rem {t u : TypeId} {k : IntKind} {i j : Int} (hx : ev M x = some (.int k i)) (hy : ev M y = some (.int k j)) (hj : j ≠ 0) :
    EV P n ⟨some d, .binOp .rem t x y u, ty, ps, af, g⟩ M L d (.int k (i.tmod j)) :=
  ⟨rfl, fun a w ha _ => by simp [execOp, ha.eval hx, ha.eval hy, eqGuard, binOp, Op.intDiv, hj]⟩
theorem EV_quo {t u : TypeId} {k : IntKind} {i j : Int} (hx : ev M x = some (.int k i)) (hy : ev M y = some (.int k j)) (hj : j ≠ 0) :
    EV P n ⟨some d, .binOp .quo t x y u, ty, ps, af, g⟩ M L d (.int k (k.wrap (i.tdiv j))) :=
  ⟨rfl, fun a w ha _ => by simp [execOp, ha.eval hx, ha.eval hy, eqGuard, binOp, Op.intDiv, hj]⟩
theorem EV_shl {t u : TypeId} {k k' : IntKind} {i j r : Int} (hx : ev M x = some (.int k i)) (hy : ev M y = some (.int k' j)) (hj : 0 ≤ j) (hr : k.wrap (i * 2 ^ (min j.toNat k.bits)) = r) :
    EV P n ⟨some d, .binOp .shl t x y u, ty, ps, af, g⟩ M L d (.int k r) :=
  ⟨rfl, fun a w ha _ => by
    have : ¬ j < 0 := by omega
    simp [execOp, ha.eval hx, ha.eval hy, eqGuard, binOp, Op.shift, this, hr]⟩
theorem OW_E {o : Oper} (h : K ((d, v) :: M) L) (he : EV P n o M L d v := by first | (show EV _ _ ⟨_, .move _, _, _, _, _⟩ _ _ _ _; first | exact EV_move rfl) | (show EV _ _ ⟨_, .assign _, _, _, _, _⟩ _ _ _ _; first | exact EV_assign rfl) | (show EV _ _ ⟨_, .nilCheck _, _, _, _, _⟩ _ _ _ _; first | exact EV_nilCheck rfl) | (show EV _ _ ⟨_, .fieldAddr .., _, _, _, _⟩ _ _ _ _; first | exact EV_fieldAddr0 rfl | exact EV_fieldAddr rfl) | (show EV _ _ ⟨_, .load .., _, _, _, _⟩ _ _ _ _; first | exact EV_loadc rfl (by repeat (first | assumption | exact Fnd.here | refine Fnd.there ?_)) rfl | exact EV_loadAggC rfl (by repeat (first | assumption | exact Fnd.here | refine Fnd.there ?_)) rfl) | (show EV _ _ ⟨_, .binOp .., _, _, _, _⟩ _ _ _ _; first | exact EV_cmp rfl rfl rfl | exact EV_ari64 rfl rfl rfl (by omega) | exact EV_shr rfl rfl (by decide) (shr_lit (by omega) (by simp [IntKind.bits]; rfl)) | exact EV_strEq rfl rfl | exact EV_strNe rfl rfl | exact EV_strLt rfl rfl | exact EV_sliceEqNil rfl rfl | exact EV_sliceNeNil rfl rfl | exact EV_ptrEqNil rfl rfl | exact EV_ptrNeNil rfl rfl | exact EV_boolEq rfl rfl | exact EV_boolNe rfl rfl) | (show EV _ _ ⟨_, .convert .., _, _, _, _⟩ _ _ _ _; first | exact EV_convII rfl (wrap_i64 (by omega) (by omega)) | exact EV_convII rfl (wrap_u64 (by omega) (by omega)) | exact EV_convII rfl rfl) | (show EV _ _ ⟨_, .extract .., _, _, _, _⟩ _ _ _ _; first | exact EV_extract rfl rfl) | (show EV _ _ ⟨_, .unOp .., _, _, _, _⟩ _ _ _ _; first | exact EV_not rfl) | (show EV _ _ ⟨_, .pick .., _, _, _, _⟩ _ _ _ _; first | exact EV_pick rfl rfl) | (show EV _ _ ⟨_, .call ⟨.builtin .len, _, _⟩, _, _, _, _⟩ _ _ _ _; first | exact EV_lenSl rfl | exact EV_lenStr rfl) | (show EV _ _ ⟨_, .call ⟨.builtin .cap, _, _⟩, _, _, _, _⟩ _ _ _ _; first | exact EV_capSl rfl) | (show EV _ _ ⟨_, .call ⟨.builtin .min, _, _⟩, _, _, _, _⟩ _ _ _ _; first | exact EV_min rfl rfl) | (show EV _ _ ⟨_, .call ⟨.builtin .max, _, _⟩, _, _, _, _⟩ _ _ _ _; first | exact EV_max rfl rfl) | (show EV _ _ ⟨_, .makeInterface .., _, _, _, _⟩ _ _ _ _; first | exact EV_makeInterface rfl) | (show EV _ _ ⟨_, .makeFunc .., _, _, _, _⟩ _ _ _ _; first | exact EV_makeFunc rfl rfl) | (show EV _ _ ⟨_, .typeAssert .., _, _, _, _⟩ _ _ _ _; first | exact EV_assertYes rfl | exact EV_assertNo rfl rfl) | (show EV _ _ ⟨_, .build .., _, _, _, _⟩ _ _ _ _; first | exact EV_build rfl (by simp [fillL, patch, Value.cells]; rfl))) (hn : Nat.blt d n = true := by exact rfl) : OW P n o K M L := OW_EV he hn h
theorem WR_t {S : List Chunk} {ops : List Oper} {T : List Nat} {fuel : Nat} {listed : Array Bool} (i : Nat) {o : Oper} (h : WR P n ops Q S T fuel (listed.setIfInBounds i true) ((d, v) :: M) L)
    (hi : ops[i]? = some o := by exact rfl) (hg : o.guard = none := by exact rfl) (hb : takeB ops T listed i = true := by kernel_rfl) (hPO : PO Q := by exact (by repeat (first | with_reducible exact PO.body | with_reducible exact RP_po | with_reducible refine PO.then ?_ | with_reducible refine PO.block ?_))) (hinc : Inc S L := by exact (by repeat (first | exact Inc.refl | exact Inc.nil | (show Inc (_ :: _) _; refine Inc.cons (by repeat (first | exact Take.here | apply Take.there)) ?_) | refine Inc.skip ?_))) (he : EV P n o M S d v := by exact (by first | (show EV _ _ ⟨_, .move _, _, _, _, _⟩ _ _ _ _; first | exact EV_move rfl) | (show EV _ _ ⟨_, .assign _, _, _, _, _⟩ _ _ _ _; first | exact EV_assign rfl) | (show EV _ _ ⟨_, .nilCheck _, _, _, _, _⟩ _ _ _ _; first | exact EV_nilCheck rfl) | (show EV _ _ ⟨_, .fieldAddr .., _, _, _, _⟩ _ _ _ _; first | exact EV_fieldAddr0 rfl | exact EV_fieldAddr rfl) | (show EV _ _ ⟨_, .load .., _, _, _, _⟩ _ _ _ _; first | exact EV_loadc rfl (by repeat (first | assumption | exact Fnd.here | refine Fnd.there ?_)) rfl | exact EV_loadAggC rfl (by repeat (first | assumption | exact Fnd.here | refine Fnd.there ?_)) rfl) | (show EV _ _ ⟨_, .binOp .., _, _, _, _⟩ _ _ _ _; first | exact EV_cmp rfl rfl rfl | exact EV_ari64 rfl rfl rfl (by omega) | exact EV_shr rfl rfl (by decide) (shr_lit (by omega) (by simp [IntKind.bits]; rfl)) | exact EV_strEq rfl rfl | exact EV_strNe rfl rfl | exact EV_strLt rfl rfl | exact EV_sliceEqNil rfl rfl | exact EV_sliceNeNil rfl rfl | exact EV_ptrEqNil rfl rfl | exact EV_ptrNeNil rfl rfl | exact EV_boolEq rfl rfl | exact EV_boolNe rfl rfl) | (show EV _ _ ⟨_, .convert .., _, _, _, _⟩ _ _ _ _; first | exact EV_convII rfl (wrap_i64 (by omega) (by omega)) | exact EV_convII rfl (wrap_u64 (by omega) (by omega)) | exact EV_convII rfl rfl) | (show EV _ _ ⟨_, .extract .., _, _, _, _⟩ _ _ _ _; first | exact EV_extract rfl rfl) | (show EV _ _ ⟨_, .unOp .., _, _, _, _⟩ _ _ _ _; first | exact EV_not rfl) | (show EV _ _ ⟨_, .pick .., _, _, _, _⟩ _ _ _ _; first | exact EV_pick rfl rfl) | (show EV _ _ ⟨_, .call ⟨.builtin .len, _, _⟩, _, _, _, _⟩ _ _ _ _; first | exact EV_lenSl rfl | exact EV_lenStr rfl) | (show EV _ _ ⟨_, .call ⟨.builtin .cap, _, _⟩, _, _, _, _⟩ _ _ _ _; first | exact EV_capSl rfl) | (show EV _ _ ⟨_, .call ⟨.builtin .min, _, _⟩, _, _, _, _⟩ _ _ _ _; first | exact EV_min rfl rfl) | (show EV _ _ ⟨_, .call ⟨.builtin .max, _, _⟩, _, _, _, _⟩ _ _ _ _; first | exact EV_max rfl rfl) | (show EV _ _ ⟨_, .makeInterface .., _, _, _, _⟩ _ _ _ _; first | exact EV_makeInterface rfl) | (show EV _ _ ⟨_, .makeFunc .., _, _, _, _⟩ _ _ _ _; first | exact EV_makeFunc rfl rfl) | (show EV _ _ ⟨_, .typeAssert .., _, _, _, _⟩ _ _ _ _; first | exact EV_assertYes rfl | exact EV_assertNo rfl rfl) | (show EV _ _ ⟨_, .build .., _, _, _, _⟩ _ _ _ _; first | exact EV_build rfl (by simp [fillL, patch, Value.cells]; rfl)))) (hn : Nat.blt d n = true := by exact rfl) :
    WR P n ops Q S T (fuel + 1) listed M L := WR_take i hi hg hb hPO hinc he hn h
theorem a0 {o : Oper} (he : EV P n o M L d v) (h : K ((d, v) :: M) L) (hn : Nat.blt d n = true := by exact rfl) : OW P n o K M L := OW_EV he hn h
end
theorem nrB : (∀ (p : Prop) [Decidable p], (decide p = true) = p) ∧ (∀ (p : Prop) [Decidable p], (decide p = false) = ¬ p) ∧
    (∀ {α : Type} [BEq α] [LawfulBEq α] (a b : α), ((a == b) = true) = (a = b)) ∧ (∀ {α : Type} [BEq α] [LawfulBEq α] (a b : α), ((a != b) = true) = ¬ (a = b)) ∧
    (∀ {α : Type} [BEq α] [LawfulBEq α] (a b : α), ((a == b) = false) = ¬ (a = b)) ∧ (∀ {α : Type} [BEq α] [LawfulBEq α] (a b : α), ((a != b) = false) = (a = b)) ∧
    (∀ b : Bool, ((!b) = true) = (b = false)) ∧ (∀ b : Bool, ((!b) = false) = (b = true)) ∧ (∀ b : Bool, (¬ (b = true)) = (b = false)) ∧
    (∀ a b : Bool, ((a && b) = true) = (a = true ∧ b = true)) ∧ (∀ a b : Bool, ((a || b) = true) = (a = true ∨ b = true)) ∧ (∀ a b : Bool, ((a || b) = false) = (a = false ∧ b = false)) ∧
    (∀ {α : Type} (a b : α), (a ≠ b) = ¬ (a = b)) ∧ (∀ b : Bool, (true != b) = !b) ∧ (∀ b : Bool, (false != b) = b) ∧ (∀ b : Bool, (b != true) = !b) ∧ (∀ b : Bool, (b != false) = b) := by
  refine ⟨fun p _ => by simp, fun p _ => by simp, fun a b => by simp, fun a b => by simp, fun a b => by simp, fun a b => by simp, fun b => by simp, fun b => by simp, fun b => by simp, fun a b => by simp, fun a b => by simp, fun a b => by simp, fun a b => rfl, fun b => by simp, fun b => by simp, fun b => by simp, fun b => by simp⟩
end Go.Vx
namespace Go.Vx
open Go
set_option linter.all false
variable [W0]
variable {P : Program} {n : Nat} {M : List (Nat × Value)} {L : List Chunk} {d : Nat} {x y : Operand} {v : Value} {ty : TypeId} {ps : String} {af : Array Edge} {g : Option (Nat × Bool)} {K : List (Nat × Value) → List Chunk → Prop}
theorem slcOf_und {T e k by_ : Nat} (h : slcOf P T = some (e, k, by_)) : P.underlying T = some (.slice e) := by
  unfold slcOf at h
  split at h
  · rename_i e' hu
    split at h
    · split at h
      · simp at h; rw [hu, h.1]
      · simp at h
    · simp at h
  · simp at h
theorem EV_convStr {s t e k by_ : Nat} [hs : SL P s e k by_] [he : IK P e .u8] [ht : ST P t] {m : Nat} {b : List UInt8} (hx : ev M x = some v) (hv : Sl L 1 v m (bsv b)) :
    EV P n ⟨some d, .convert s t x, ty, ps, af, g⟩ M L d (.string ⟨b.toArray⟩) :=
  ⟨rfl, fun a w ha hw => by
    simp only [execOp, Sem.run_bind, ha.eval hx]
    rcases hv with ⟨c, rfl, rfl, h0⟩ | ⟨ad, cap, rfl, hr, hl⟩
    · have hb : b = [] := by simpa [bsv] using h0
      subst hb
      rw [run_convert_bytes_nil w s e (slcOf_und hs.out) he.out 0 c t ht.out]
      rfl
    · have hlb : b.length = m := by simpa [bsv_length] using hl
      rw [run_convert_bytes_string w s t e _ m cap (slcOf_und hs.out) he.out ht.out]
      have hmm : bsv b = (b.map fun c => (c.toNat : Int)).map (Value.int .u8) := by simp [bsv]
      have hrun := run_loadCells_list (P := P) w ad (bsv b) (hr.cells hw)
      rw [bsv_length, hlb] at hrun
      rw [run_bytesToString w ad m cap (b.map fun c => (c.toNat : Int)) (by rw [hrun, hmm]), foldl_push_bytes]
      have : (ByteArray.empty.data ++ (List.map (fun n => UInt8.ofNat n.toNat) (List.map (fun c => (c.toNat : Int)) b)).toArray) = b.toArray := by
        rw [List.map_map]
        have h2 : ((fun n : Int => UInt8.ofNat n.toNat) ∘ fun c : UInt8 => (c.toNat : Int)) = id := by
          funext c; simp
        rw [h2, List.map_id]
        have h3 : ByteArray.empty.data = #[] := rfl
        rw [h3, Array.empty_append]
      rw [this]
      rfl⟩
theorem OW_convSame {s e k by_ : Nat} [hs : SL P s e k by_] [he : IK P e .u8] {b m c : Nat} {l : List Value} {L' : List Chunk} (hx : ev M x = some (.slice (some ⟨b, 0, none⟩) m c))
    (hu : Upd L b (cl l e) (.cells l.toArray e (l.length, l.length + 1)) L') (hn : Nat.blt d n = true) (h : K ((d, .slice (some ⟨b, 0, none⟩) m c) :: M) L') :
    OW P n ⟨some d, .convert s s x, ty, ps, af, g⟩ K M L := ⟨fun a w next Q ha hw hk => by
  have hb := hu.fnd.get hw
  have hsh : w.shape? b = some (e, l.length) := by simp [World.shape?, hb, cl]
  have hrun : (execOp a.eval ⟨some d, .convert s s x, ty, ps, af, g⟩).run P w = .ok (.value (.slice (some ⟨b, 0, none⟩) m c)) (w.freeze ⟨b, l.length, none⟩ 1) := by
    simp [execOp, ha.eval hx, convert, run_underlying (slcOf_und hs.out), run_underlying he.out, markStringish, hsh]
  unfold Oper.wp
  rw [hrun, Oper.upon_value]
  obtain ⟨f1, f2⟩ := freeze_at (off := l.length) hb (by decide : (1 : Nat) ≠ 0)
  exact (hk _ _ h).out _ _ (ha.put _ hn) (hw.upd hu f1 f2 (freeze_os _ _ _).1 (freeze_os _ _ _).2)⟩
end Go.Vx
namespace Go.Vx
open Go
set_option linter.all false
variable [W0]
variable {P : Program}
theorem getE_app {l r : List Value} {i : Nat} {v : Value} (h : l[i]? = some v) : (l ++ r)[i]? = some v := by
  have : i < l.length := by
    rcases Nat.lt_or_ge i l.length with h' | h'
    · exact h'
    · simp [List.getElem?_eq_none h'] at h
  rw [List.getElem?_append_left this]; exact h
theorem ow_one {e k m : Nat} {v : Value} {xs : List Value} {C : Chunk} (h : Ow e k v m xs C) : v.oneCell' = true := by
  rcases h with ⟨rfl, _⟩ | ⟨b, cap, rest, rfl, _⟩ <;> rfl
theorem ow_slc {e k m : Nat} {v : Value} {xs : List Value} {C : Chunk} (h : Ow e k v m xs C) : ∃ a c, v = .slice a m c := by
  rcases h with ⟨rfl, rfl, _⟩ | ⟨b, cap, rest, rfl, _⟩
  · exact ⟨_, _, rfl⟩
  · exact ⟨_, _, rfl⟩
theorem ow_sl {e k m : Nat} {v : Value} {xs : List Value} {C : Chunk} {L : List Chunk} (h : Ow e k v m xs C) : Sl (C :: L) k v m xs := by
  rcases h with ⟨rfl, rfl, rfl, rfl⟩ | ⟨b, cap, rest, rfl, rfl, hxl, hrl, hmc, hcm⟩
  · exact .inl ⟨_, rfl, rfl, rfl⟩
  · exact .inr ⟨_, _, rfl, RdAt.cl' Fnd.here (by simp [cut]), hxl⟩
theorem sl_slice {L : List Chunk} {k : Nat} {v : Value} {m : Nat} {xs : List Value} (h : Sl L k v m xs) : ∃ a c, v = .slice a m c := by
  rcases h with ⟨c, rfl, rfl, rfl⟩ | ⟨a, cap, rfl, _⟩
  · exact ⟨_, _, rfl⟩
  · exact ⟨_, _, rfl⟩
theorem rd_sub {L L' : List Chunk} (hs : ∀ x ∈ L.flatten, x ∈ L'.flatten) {a : Addr} {vs : List Value} (h : RdAt L a vs) : RdAt L' a vs := by
  rcases h with h | ⟨b, off, c, T, fr, e2, h7, h8⟩
  · exact .inl h
  · exact .inr ⟨b, off, c, T, fr, e2, hs _ h7, h8⟩
theorem sl_sub {L L' : List Chunk} (hs : ∀ x ∈ L.flatten, x ∈ L'.flatten) {k m : Nat} {v : Value} {xs : List Value} (h : Sl L k v m xs) : Sl L' k v m xs := by
  rcases h with h | ⟨a, cap, e1, h5, h6⟩
  · exact .inl h
  · exact .inr ⟨a, cap, e1, rd_sub hs h5, h6⟩
theorem sl_there {L : List Chunk} {C : Chunk} {k m : Nat} {v : Value} {xs : List Value} (h : Sl L k v m xs) : Sl (C :: L) k v m xs :=
  sl_sub (fun x hx => by simp only [List.flatten_cons, List.mem_append]; exact .inr hx) h
omit [W0] in
/-- Integers as cells. -/
def intsN (xs : List Int) : List Value := xs.map (Value.int .i64)
theorem sl_open {L : List Chunk} {v : Value} {m : Nat} {xs : List Value} (h : Sl L 1 v m xs) :
    (m = 0 ∧ ∃ a c, v = .slice a 0 c) ∨ ∃ b off cap c T fr, v = .slice (some ⟨b, off, none⟩) m cap ∧ Fnd L b (.cells c T fr) ∧ ∀ j u, xs[j]? = some u → c[off + j]? = some u := by
  rcases h with ⟨c, rfl, rfl, rfl⟩ | ⟨a, cap, rfl, hr, hl⟩
  · exact .inl ⟨rfl, _, _, rfl⟩
  · rcases hr with h0 | ⟨b, off, c, T, fr, rfl, h1, h2⟩
    · subst h0
      have : m = 0 := by have := hl; simp at this; omega
      subst this
      exact .inl ⟨rfl, _, _, rfl⟩
    · exact .inr ⟨b, off, cap, c, T, fr, rfl, h1, h2⟩
theorem zeros_bsv : ∀ n, zeros [.int .u8 0] n = bsv (List.replicate n 0)
  | 0 => rfl
  | n + 1 => by simp only [zeros, List.replicate_succ]; rw [zeros_bsv n]; rfl
theorem sl_cells {L : List Chunk} {k m cap b : Nat} {c : Array Value} {T : TypeId} {fr : Nat × Nat} {xs : List Value} (hf : Fnd L b (.cells c T fr)) (hl : xs.length = m * k) (hc : c.toList.take xs.length = xs) : Sl L k (.slice (some ⟨b, 0, none⟩) m cap) m xs := by
  refine .inr ⟨_, cap, rfl, .inr ⟨b, 0, c, T, fr, rfl, hf, fun j u hj => ?_⟩, hl⟩
  rw [← hc] at hj
  rw [List.getElem?_take] at hj
  split at hj
  · simpa using hj
  · simp at hj
theorem GvP.of {f : FuncId} {args : Array Value} {L L' : List Chunk} {v : Value} (h : GvP P f args L' v) (h1 : Inc L' L) (h2 : Inc L L') : GvP P f args L v :=
  ⟨fun w hw => (h.out w (h1.holds hw)).mono fun _ _ he => by
    obtain ⟨v', L'', e1, ⟨e2, e3⟩, hw'⟩ := he
    subst e2 e3
    exact ⟨v', L, e1, ⟨rfl, rfl⟩, h2.holds hw'⟩⟩
theorem four {w : World} {A B C D : Chunk} {L : List Chunk} : Holds w ((A ++ (B ++ (C ++ D))) :: L) ↔ Holds w (A :: B :: C :: D :: L) := by
  simp [Holds, List.append_assoc]
theorem two {w : World} {A B : Chunk} {L : List Chunk} : Holds w ((A ++ B) :: L) ↔ Holds w (A :: B :: L) := by
  simp [Holds, List.append_assoc]
end Go.Vx
namespace Go.Vx
open Go
set_option linter.all false
variable [W0]
variable {P : Program}
inductive ResL (P : Program) (M : List (Nat × Value)) (L : List Chunk) : List ResultVar → List Value → Prop
  | nil : ResL P M L [] []
  | tmp {t : Nat} {v : Value} {rs : List ResultVar} {vs : List Value} : lk M t = some v → ResL P M L rs vs → ResL P M L (.tmp t :: rs) (v :: vs)
  | agg {x T k b off : Nat} {us : List Value} {rs : List ResultVar} {vs : List Value} : aggT P T = true ∧ (P.info? T).map (·.size) = some k → lk M x = some (.pointer (some ⟨b, off, none⟩)) → RdAt L ⟨b, off, none⟩ us → us.length = k → ResL P M L rs vs → ResL P M L (.cell x T :: rs) (.agg us.toArray :: vs)
  | one {x T b off : Nat} {l : List Value} {U : TypeId} {v : Value} {rs : List ResultVar} {vs : List Value} : aggB P T = false → lk M x = some (.pointer (some ⟨b, off, none⟩)) → Fnd L b (cl l U) → nth l off = some v → ResL P M L rs vs → ResL P M L (.cell x T :: rs) (v :: vs)
theorem resL_run {n : Nat} {M : List (Nat × Value)} {L : List Chunk} {a : Act} {w : World} (ha : St n M a) (hw : Holds w L) {rs : List ResultVar} {vs : List Value} (h : ResL P M L rs vs) :
    (rs.mapM (resOne a.tmps)).run P w = .ok vs w := by
  induction h with
  | nil => rfl
  | tmp h1 _ ih => simp [List.mapM_cons, ih, resOne, Array.getD_eq_getD_getElem?, ha.get _ _ h1]
  | @agg x T k b off us rs vs hT h1 h2 h3 _ ih =>
    have hrun := run_loadCells_list (P := P) w ⟨b, off, none⟩ us (h2.cells hw)
    rw [h3] at hrun
    simp [List.mapM_cons, ih, resOne, Array.getD_eq_getD_getElem?, ha.get _ _ h1, asAddr, loadVar, isAgg_true hT.1, sizeOf_run hT.2, hrun]
  | @one x T b off l U v rs vs hT h1 h2 h3 _ ih =>
    have hcell : w.cell? ⟨b, off, none⟩ = some v := by
      rw [cell_of (h2.get hw)]
      simpa [nth_eq] using h3
    simp [List.mapM_cons, ih, resOne, Array.getD_eq_getD_getElem?, ha.get _ _ h1, asAddr, loadVar, isAgg_false hT, hcell]
theorem resultsL_run {n : Nat} {M : List (Nat × Value)} {L : List Chunk} {a : Act} {w : World} {fn : Func} {rs : List ResultVar} {vs : List Value} (ha : St n M a) (hw : Holds w L) (hr : fn.results = rs.toArray) (h : ResL P M L rs vs) :
    (results fn a.tmps).run P w = .ok (tupled vs) w := by
  rw [results_eq, hr]
  simp only [List.mapM_toArray, Sem.run_bind, Sem.run_map, resL_run ha hw h, Result.andThen_ok, Sem.run_pure]
  match vs with
  | [] => simp [tupled]
  | [v] => simp [tupled]
  | v :: u :: r => simp [tupled]
theorem WQ_retC {n : Nat} {M : List (Nat × Value)} {L : List Chunk} {fn : Func} {post : Value → List Chunk → Prop} {rs : List ResultVar} {vs : List Value} (hr : fn.results = rs.toArray) (h : ResL P M L rs vs) (hp : ∃ L', (∀ w, Holds w L → Holds w L') ∧ post (tupled vs) L') :
    WQ n (bodyPost P fn (fun e w' => ∃ v L', e = .returned v ∧ post v L' ∧ Holds w' L') .ret) M L := ⟨fun _ w ha hw => by
  obtain ⟨L', hi, hp⟩ := hp
  exact ⟨ha.defers, tupled vs, resultsL_run ha hw hr h, _, L', rfl, hp, hi w hw⟩⟩
theorem WQ_endC {n : Nat} {M : List (Nat × Value)} {L : List Chunk} {fn : Func} {post : Value → List Chunk → Prop} {rs : List ResultVar} {vs : List Value} (hr : fn.results = rs.toArray) (h : ResL P M L rs vs) (hp : ∃ L', (∀ w, Holds w L → Holds w L') ∧ post (tupled vs) L') :
    WQ n (bodyPost P fn (fun e w' => ∃ v L', e = .returned v ∧ post v L' ∧ Holds w' L') .normal) M L := ⟨fun _ w ha hw => by
  obtain ⟨L', hi, hp⟩ := hp
  exact ⟨ha.defers, tupled vs, resultsL_run ha hw hr h, _, L', rfl, hp, hi w hw⟩⟩
section
variable {n : Nat} {Q : Exit → Act → World → Prop} {M : List (Nat × Value)} {L : List Chunk} {d : Nat} {v : Value}
theorem WR_u {S : List Chunk} {ops : List Oper} {T : List Nat} {fuel : Nat} {listed : Array Bool} (i : Nat) {j : Nat} {b : Bool} {o : Oper} (h : WR P n ops Q S T fuel (listed.setIfInBounds i true) ((d, v) :: M) L)
    (hi : ops[i]? = some o := by exact rfl) (hg : o.guard = some (j, b) := by exact rfl) (hy : yl ops M j = some (.bool b) := by exact rfl) (hb : takeB ops T listed i = true := by kernel_rfl) (hPO : PO Q := by exact (by repeat (first | with_reducible exact PO.body | with_reducible exact RP_po | with_reducible refine PO.then ?_ | with_reducible refine PO.block ?_))) (hinc : Inc S L := by exact (by repeat (first | exact Inc.refl | exact Inc.nil | (show Inc (_ :: _) _; refine Inc.cons (by repeat (first | exact Take.here | apply Take.there)) ?_) | refine Inc.skip ?_))) (he : EV P n o M S d v := by exact (by first | (show EV _ _ ⟨_, .move _, _, _, _, _⟩ _ _ _ _; first | exact EV_move rfl) | (show EV _ _ ⟨_, .assign _, _, _, _, _⟩ _ _ _ _; first | exact EV_assign rfl) | (show EV _ _ ⟨_, .nilCheck _, _, _, _, _⟩ _ _ _ _; first | exact EV_nilCheck rfl) | (show EV _ _ ⟨_, .fieldAddr .., _, _, _, _⟩ _ _ _ _; first | exact EV_fieldAddr0 rfl | exact EV_fieldAddr rfl) | (show EV _ _ ⟨_, .load .., _, _, _, _⟩ _ _ _ _; first | exact EV_loadc rfl (by repeat (first | assumption | exact Fnd.here | refine Fnd.there ?_)) rfl | exact EV_loadAggC rfl (by repeat (first | assumption | exact Fnd.here | refine Fnd.there ?_)) rfl) | (show EV _ _ ⟨_, .binOp .., _, _, _, _⟩ _ _ _ _; first | exact EV_cmp rfl rfl rfl | exact EV_ari64 rfl rfl rfl (by omega) | exact EV_shr rfl rfl (by decide) (shr_lit (by omega) (by simp [IntKind.bits]; rfl)) | exact EV_strEq rfl rfl | exact EV_strNe rfl rfl | exact EV_strLt rfl rfl | exact EV_sliceEqNil rfl rfl | exact EV_sliceNeNil rfl rfl | exact EV_ptrEqNil rfl rfl | exact EV_ptrNeNil rfl rfl | exact EV_boolEq rfl rfl | exact EV_boolNe rfl rfl) | (show EV _ _ ⟨_, .convert .., _, _, _, _⟩ _ _ _ _; first | exact EV_convII rfl (wrap_i64 (by omega) (by omega)) | exact EV_convII rfl (wrap_u64 (by omega) (by omega)) | exact EV_convII rfl rfl) | (show EV _ _ ⟨_, .extract .., _, _, _, _⟩ _ _ _ _; first | exact EV_extract rfl rfl) | (show EV _ _ ⟨_, .unOp .., _, _, _, _⟩ _ _ _ _; first | exact EV_not rfl) | (show EV _ _ ⟨_, .pick .., _, _, _, _⟩ _ _ _ _; first | exact EV_pick rfl rfl) | (show EV _ _ ⟨_, .call ⟨.builtin .len, _, _⟩, _, _, _, _⟩ _ _ _ _; first | exact EV_lenSl rfl | exact EV_lenStr rfl) | (show EV _ _ ⟨_, .call ⟨.builtin .cap, _, _⟩, _, _, _, _⟩ _ _ _ _; first | exact EV_capSl rfl) | (show EV _ _ ⟨_, .call ⟨.builtin .min, _, _⟩, _, _, _, _⟩ _ _ _ _; first | exact EV_min rfl rfl) | (show EV _ _ ⟨_, .call ⟨.builtin .max, _, _⟩, _, _, _, _⟩ _ _ _ _; first | exact EV_max rfl rfl) | (show EV _ _ ⟨_, .makeInterface .., _, _, _, _⟩ _ _ _ _; first | exact EV_makeInterface rfl) | (show EV _ _ ⟨_, .makeFunc .., _, _, _, _⟩ _ _ _ _; first | exact EV_makeFunc rfl rfl) | (show EV _ _ ⟨_, .typeAssert .., _, _, _, _⟩ _ _ _ _; first | exact EV_assertYes rfl | exact EV_assertNo rfl rfl) | (show EV _ _ ⟨_, .build .., _, _, _, _⟩ _ _ _ _; first | exact EV_build rfl (by simp [fillL, patch, Value.cells]; rfl)))) (hn : Nat.blt d n = true := by exact rfl) :
    WR P n ops Q S T (fuel + 1) listed M L := WR_takeOn i hi hg hy hb hPO hinc he hn h
theorem WR_oneOn {S : List Chunk} {ops : List Oper} {T : List Nat} {fuel : Nat} {listed : Array Bool} (i : Nat) {j : Nat} {b : Bool} {o : Oper} (hr : Region.ready .any ops.toArray listed = [i]) (hi : ops[i]? = some o) (hg : o.guard = some (j, b)) (hy : yl ops M j = some (.bool b)) (h : OW P n o (WRk P n ops Q S T fuel (listed.setIfInBounds i true)) M L) : WR P n ops Q S T (fuel + 1) listed M L := ⟨fun a w ha hw => by
  refine ⟨fun h0 => absurd (hr ▸ h0) (by simp), fun j' hj => ?_⟩
  rw [hr] at hj
  simp only [List.mem_singleton] at hj
  subst hj
  unfold wpOp
  simp only [List.getElem?_toArray, hi]
  rw [if_pos (by simp [Region.wanted, hg, yielded_of ha hy])]
  exact .inl (h.out a w _ Q ha hw fun M' L' hk => ⟨fun a' w' ha' hw' => ⟨fun _ => hk.inc.holds hw', hk.out.out a' w' ha' hw'⟩⟩)⟩
end
end Go.Vx
namespace Go.Vx
set_option linter.all false
theorem iC [W0] {S L : List Chunk} (h : Inc S L := by exact (by repeat (first | exact Inc.refl | exact Inc.nil | (show Inc (_ :: _) _; refine Inc.cons (by repeat (first | exact Take.here | apply Take.there)) ?_) | refine Inc.skip ?_))) : Inc S L := h
theorem iS [W0] {M M2 : List (Nat × Value)} (h : Sub M M2 := by exact (by repeat (first | exact Sub.nil | refine Sub.cons rfl ?_ | refine Sub.cons (lk_int rfl (by first | omega | (dsimp only; omega))) ?_))) : Sub M M2 := h
theorem iH [W0] {S L : List Chunk} {w : World} (hw : Holds w L) (h : Inc S L := by exact (by repeat (first | exact Inc.refl | exact Inc.nil | (show Inc (_ :: _) _; refine Inc.cons (by repeat (first | exact Take.here | apply Take.there)) ?_) | refine Inc.skip ?_))) : Holds w S := h.holds hw
section
variable [W0] {P : Program} {n : Nat} {Q : Exit → Act → World → Prop} {M : List (Nat × Value)} {L : List Chunk} {K : List (Nat × Value) → List Chunk → Prop}
variable {d : Nat} {ty : TypeId} {ps : String} {af : Array Edge} {g : Option (Nat × Bool)} {x y : Operand} {v : Value}
theorem jA {ops : Array Oper} {rest : List Oper} {o : Oper} (h : OW P n o (WL P n ops Q rest) M L) (hg : o.guard = none := by exact rfl) : WL P n ops Q (o :: rest) M L := WL_plain hg h
theorem jB {ops : Array Oper} (h : WQ n (Q .normal) M L) : WL P n ops Q [] M L := WL_nil h
theorem jC {ops : List Oper} {rest : List Oper} {o : Oper} {j : Nat} {b : Bool} (h : OW P n o (WL P n ops.toArray Q rest) M L) (hg : o.guard = some (j, b) := by exact rfl) (hy : yl ops M j = some (.bool b) := by exact rfl) : WL P n ops.toArray Q (o :: rest) M L := WL_on hg hy h
theorem jD {ops : List Oper} {rest : List Oper} {o : Oper} {j d : Nat} {b : Bool} (h : WL P n ops.toArray Q rest ((d, undef) :: M) L) (hg : o.guard = some (j, b) := by exact rfl) (hd : o.dst = some d := by exact rfl) (hy : yl ops M j = some (.bool (!b)) := by exact rfl)
    (hn : Nat.blt d n = true := by exact rfl) : WL P n ops.toArray Q (o :: rest) M L := WL_off hg hd hy hn h
theorem jE {ops : List Oper} {rest : List Oper} {o : Oper} {j d : Nat} {b : Bool} (h : WL P n ops.toArray Q rest ((d, undef) :: M) L) (hg : o.guard = some (j, b) := by exact rfl) (hd : o.dst = some d := by exact rfl) (hy : yl ops M j = some undef := by exact rfl)
    (hn : Nat.blt d n = true := by exact rfl) : WL P n ops.toArray Q (o :: rest) M L := WL_offu hg hd hy hn h
theorem jF {ops : List Oper} {rest : List Oper} {o : Oper} {j : Nat} {b : Bool} (h : WL P n ops.toArray Q rest M L) (hg : o.guard = some (j, b) := by exact rfl) (hd : o.dst = none := by exact rfl) (hy : yl ops M j = some (.bool (!b)) := by exact rfl) :
    WL P n ops.toArray Q (o :: rest) M L := WL_off' hg hd hy h
theorem jG {ops : List Oper} {rest : List Oper} {o : Oper} {j : Nat} {b c : Bool} (ht : c = true → WL P n ops.toArray Q (o :: rest) M L) (hf : c = false → WL P n ops.toArray Q (o :: rest) M L) (hg : o.guard = some (j, b) := by exact rfl) (hy : yl ops M j = some (.bool c) := by exact rfl) :
    WL P n ops.toArray Q (o :: rest) M L := WL_split hg hy ht hf
theorem jI {t : TypeId} [hs : SZ P t 1] {b off : Nat} {l : List Value} {T : TypeId} {L' : List Chunk} (h : K M L') (hx : ev M x = some (.pointer (some ⟨b, off, none⟩)) := by exact rfl) (hy : ev M y = some v := by exact rfl) (hv : v.oneCell' = true := by exact rfl)
    (hu : Upd L b (cl l T) (cl (l.set off v) T) L' := by exact (by repeat (first | exact Upd.here | apply Upd.there))) (hlt : off < l.length := by first | (simp; done) | (simp; omega)) : OW P n ⟨none, .store t x y, ty, ps, af, g⟩ K M L := OW_store hx hy hv hu hlt h
theorem jJ {t k : Nat} [hag : AG P t k] {b off : Nat} {l vs : List Value} {T : TypeId} {L' : List Chunk} (h : K M L') (hx : ev M x = some (.pointer (some ⟨b, off, none⟩)) := by exact rfl) (hy : ev M y = some (.agg vs.toArray) := by exact rfl) (hl : vs.length = k := by exact rfl)
    (h1 : ones vs = true := by exact rfl) (hu : Upd L b (cl l T) (cl (patch l off vs) T) L' := by exact (by repeat (first | exact Upd.here | apply Upd.there))) (hfit : off + vs.length ≤ l.length := by first | (simp [Value.cells]; done) | (simp [Value.cells]; omega)) :
    OW P n ⟨none, .store t x y, ty, ps, af, g⟩ K M L := OW_storeAgg hx hy hl h1 hu hfit h
theorem jK {t : Nat} {z : Value} [hz : ZV P t z] (h : ∀ b, K ((d, .pointer (some ⟨b, 0, none⟩)) :: M) ([(b, cl z.cells.toList t)] :: L)) (hn : Nat.blt d n = true := by exact rfl) :
    OW P n ⟨some d, .alloc t, ty, ps, af, g⟩ K M L := OW_alloc hn h
theorem jL {t : Nat} (h : ∀ b, K ((d, .pointer (some ⟨b, 0, none⟩)) :: M) ([(b, cl v.cells.toList t)] :: L)) (hx : ev M x = some v := by exact rfl) (hn : Nat.blt d n = true := by exact rfl) :
    OW P n ⟨some d, .box t x, ty, ps, af, g⟩ K M L := OW_box hx hn h
theorem jM {x y : Code} (h : WC P n x (Exit.then (y.wp P Q) Q) M L) : WC P n (.seq x y) Q M L := WC_seq h
theorem jN {id : Nat} {l : List Oper} (h : WL P n l.toArray Q l M L) : WC P n (.region id l.toArray false) Q M L := WC_region h
theorem jO {c : Operand} {x y : Code} (ht : WC P n x Q M L) (hc : ev M c = some (.bool true) := by exact rfl) : WC P n (.cond c x y) Q M L := WC_true hc ht
theorem jP {c : Operand} {x y : Code} (ht : WC P n y Q M L) (hc : ev M c = some (.bool false) := by exact rfl) : WC P n (.cond c x y) Q M L := WC_false hc ht
theorem jR (h : WQ n (Q .normal) M L) : WC P n .skip Q M L := WC_skip h
theorem jS (h : WQ n (Q .ret) M L) : WC P n .ret Q M L := WC_ret h
theorem jT {id : Nat} (h : WQ n (Q (.exit id)) M L) : WC P n (.exit id) Q M L := WC_exit h
theorem jU {id : Nat} {c : Code} (h : WC P n c (Exit.inBlock id Q) M L) : WC P n (.block id c) Q M L := WC_block h
theorem jV {K : Act → World → Prop} (h : WQ n K M L) : WQ n (Exit.then K Q .normal) M L := WQ_then_normal h
theorem jW {c : Code} (h : WC P n c Q M L) : WQ n (c.wp P Q) M L := WQ_code h
theorem jX {K : Act → World → Prop} (h : WQ n (Q .ret) M L) : WQ n (Exit.then K Q .ret) M L := WQ_then_ret h
theorem jY {i : Nat} (h : WQ n (Q .ret) M L) : WQ n (Exit.inBlock i Q .ret) M L := WQ_block_ret h
theorem jZ {K : Act → World → Prop} {id : Nat} (h : WQ n (Q (.exit id)) M L) : WQ n (Exit.then K Q (.exit id)) M L := WQ_then_exit h
theorem kA {i : Nat} (h : WQ n (Q .normal) M L) : WQ n (Exit.inBlock i Q (.exit i)) M L := WQ_block_hit h
theorem kB {i j : Nat} (h : WQ n (Q (.exit j)) M L) (hne : Nat.beq j i = false := by with_unfolding_all exact rfl) : WQ n (Exit.inBlock i Q (.exit j)) M L := WQ_block_miss hne h
theorem kC {i : Nat} (h : WQ n (Q .normal) M L) : WQ n (Exit.inBlock i Q .normal) M L := WQ_block_normal h
structure Wr (q : Prop) : Prop where out : q
theorem kW {p q : Prop} (h : q) (s : Wr q → p := by (intro h9; (first | (show WL _ _ _ _ _ _ _; first | refine jA ?_ | refine jB ?_ | refine jC ?_ | refine jD ?_ | refine jE ?_ | refine jF ?_) | (show OW _ _ _ _ _ _; first | refine OW_E ?_ | refine jI ?_ | refine jJ ?_) | (show WC _ _ _ _ _ _; first | refine jM ?_ | refine jN ?_ | refine jO ?_ | refine jP ?_ | refine jR ?_ | refine jS ?_ | refine jT ?_ | refine jU ?_) | (show WQ _ _ _ _; with_reducible first | refine jV ?_ | refine jW ?_ | refine jX ?_ | refine jY ?_ | refine jZ ?_ | refine kA ?_ | refine kB ?_ | refine kC ?_)); (repeat (first | (show WL _ _ _ _ _ _ _; first | refine jA ?_ | refine jB ?_ | refine jC ?_ | refine jD ?_ | refine jE ?_ | refine jF ?_) | (show OW _ _ _ _ _ _; first | refine OW_E ?_ | refine jI ?_ | refine jJ ?_) | (show WC _ _ _ _ _ _; first | refine jM ?_ | refine jN ?_ | refine jO ?_ | refine jP ?_ | refine jR ?_ | refine jS ?_ | refine jT ?_ | refine jU ?_) | (show WQ _ _ _ _; with_reducible first | refine jV ?_ | refine jW ?_ | refine jX ?_ | refine jY ?_ | refine jZ ?_ | refine kA ?_ | refine kB ?_ | refine kC ?_))); exact h9.out)) : p := s ⟨h⟩
theorem kT {c : Operand} {x y : Code} {t : Bool} {p : Prop} (ht : p → WC P n x Q M L) (hc : ev M c = some (.bool t) := by exact rfl) (hn : t = false → False := by (intro hc; (try simp only [nrB] at hc); first | omega | exact hc trivial | exact hc rfl)) (hp : t = true → p := by (intro hc; (try simp only [nrB] at hc); exact hc)) : WC P n (.cond c x y) Q M L :=
  WC_cond hc (fun h => ht (hp h)) (fun h => (hn h).elim)
theorem kF {c : Operand} {x y : Code} {t : Bool} {p : Prop} (hf : p → WC P n y Q M L) (hc : ev M c = some (.bool t) := by exact rfl) (hn : t = true → False := by (intro hc; (try simp only [nrB] at hc); first | omega | exact hc trivial | exact hc rfl)) (hp : t = false → p := by (intro hc; (try simp only [nrB] at hc); exact hc)) : WC P n (.cond c x y) Q M L :=
  WC_cond hc (fun h => (hn h).elim) (fun h => hf (hp h))
theorem kQ {c : Operand} {x y : Code} {t : Bool} {p q : Prop} (ht : p → WC P n x Q M L) (hf : q → WC P n y Q M L) (hc : ev M c = some (.bool t) := by exact rfl) (hp : t = true → p := by (intro hc; (try simp only [nrB] at hc); exact hc)) (hq : t = false → q := by (intro hc; (try simp only [nrB] at hc); exact hc)) : WC P n (.cond c x y) Q M L :=
  WC_cond hc (fun h => ht (hp h)) (fun h => hf (hq h))
theorem kU {A : Nat → Prop} {g : Prop} (h : ∀ b, A b) (s : Wr (∀ b, A b) → g := by (intro h9; (show OW _ _ _ _ _ _); first | exact jK h9.out | exact jL h9.out)) : g := s ⟨h⟩
theorem kV {p A g : Prop} (h : p → A) (s : Wr (p → A) → g := by (intro h9; first | ((show WC _ _ _ _ _ _); first | exact kT h9.out | exact kF h9.out) | ((show WL _ _ _ _ _ _ _); first | (refine jG (fun hc => ?_) (fun hc => ?_); (focus (rw [hc]; have h8 := hc; (try simp only [nrB] at h8); exact h9.out h8)); (exfalso; (try simp only [nrB] at hc); first | done | omega)) | (refine jG (fun hc => ?_) (fun hc => ?_); rotate_left; (focus (rw [hc]; have h8 := hc; (try simp only [nrB] at h8); exact h9.out h8)); (exfalso; (try simp only [nrB] at hc); first | done | omega))))) : g := s ⟨h⟩
theorem kZ {p q A B g : Prop} (ht : p → A) (hf : q → B) (s : Wr ((p → A) ∧ (q → B)) → g := by (intro h9; first | ((show WC _ _ _ _ _ _); exact kQ h9.out.1 h9.out.2) | ((show WL _ _ _ _ _ _ _); (refine jG (fun hc => ?_) (fun hc => ?_); (focus (rw [hc]; have h8 := hc; (try simp only [nrB] at h8); exact h9.out.1 h8)); (rw [hc]; have h8 := hc; (try simp only [nrB] at h8); exact h9.out.2 h8))))) : g := s ⟨ht, hf⟩
theorem iP {R : Exit → Act → World → Prop} (h : PO R := by exact (by repeat (first | with_reducible exact PO.body | with_reducible exact RP_po | with_reducible refine PO.then ?_ | with_reducible refine PO.block ?_))) : PO R := h
theorem iU {L' : List Chunk} {b : Nat} {o o' : Obj} (h : Upd L b o o' L' := by exact (by repeat (first | exact Upd.here | apply Upd.there))) : Upd L b o o' L' := h
theorem kR {q g : Prop} (h : q) (s : Wr q → g := by (intro h9; first | exact WQ_retI rfl rfl h9.out | exact WQ_endI rfl rfl h9.out)) : g := s ⟨h⟩
theorem kE {g : Prop} (s : g := by (first | refine WQ_retI rfl rfl ?_ | refine WQ_endI rfl rfl ?_); exact ⟨_, (by repeat (first | exact Inc.refl | exact Inc.nil | (show Inc (_ :: _) _; refine Inc.cons (by repeat (first | exact Take.here | apply Take.there)) ?_) | refine Inc.skip ?_)), rfl, rfl⟩) : g := s
end
end Go.Vx
namespace Go.Vx
open Go
set_option linter.all false
variable [W0]
omit [W0] in
/-- The word that an integer stands for. -/
class WI (i : Int) (a : outParam (BitVec 32)) : Prop where out : BitVec.ofInt 32 i = a
omit [W0] in
instance instWIv (a : BitVec 32) : WI (a.toNat : Int) a := ⟨by apply BitVec.eq_of_toNat_eq; rw [BitVec.toNat_ofInt]; have := a.isLt; omega⟩
omit [W0] in
instance instWIc (n : Nat) : WI (no_index (@OfNat.ofNat Int n _)) (BitVec.ofNat 32 (@OfNat.ofNat Nat n _)) := ⟨by apply BitVec.eq_of_toNat_eq; rw [BitVec.toNat_ofInt, BitVec.toNat_ofNat]; show ((n : Int) % _).toNat = n % _; omega⟩
omit [W0] in
/-- The number that an integer stands for. -/
class WN (i : Int) (s : outParam Nat) : Prop where out : i = (s : Int)
omit [W0] in
instance instWNv (n : Nat) : WN (n : Int) n := ⟨rfl⟩
omit [W0] in
instance instWNc (n : Nat) : WN (no_index (@OfNat.ofNat Int n _)) (@OfNat.ofNat Nat n _) := ⟨rfl⟩
theorem wrap_u32 (r : Int) : IntKind.u32.wrap r = ((BitVec.ofInt 32 r).toNat : Int) := by
  rw [BitVec.toNat_ofInt]
  simp [IntKind.wrap, IntKind.bits, IntKind.signed]
  omega
theorem wrap_u8 (r : Int) : IntKind.u8.wrap r = ((r % 256).toNat : Int) := by
  simp [IntKind.wrap, IntKind.bits, IntKind.signed]
  omega
omit [W0] in
def wop : BinOp → BitVec 32 → BitVec 32 → Option (BitVec 32)
  | .add, a, b => some (a + b) | .sub, a, b => some (a - b) | .mul, a, b => some (a * b)
  | .and, a, b => some (a &&& b) | .or, a, b => some (a ||| b) | .xor, a, b => some (a ^^^ b)
  | _, _, _ => none
omit [W0] in
/-- A byte as a word, and back. -/
def b2w (b : UInt8) : BitVec 32 := BitVec.ofNat 32 b.toNat
omit [W0] in
def w2b (w : BitVec 32) : UInt8 := UInt8.ofNat w.toNat
omit [W0] in
/-- Words as cells. -/
def wsv (l : List (BitVec 32)) : List Value := l.map fun w => .int .u32 (w.toNat : Int)
theorem wsv_length {l : List (BitVec 32)} : (wsv l).length = l.length := by simp [wsv]
theorem wsv_ones {l : List (BitVec 32)} : ones (wsv l) = true := by simp [ones, wsv, Value.oneCell']
theorem wsv_get {l : List (BitVec 32)} {i : Nat} {w : BitVec 32} (h : l[i]? = some w) : (wsv l)[i]? = some (.int .u32 (w.toNat : Int)) := by simp [wsv, h]
theorem bsv_get {l : List UInt8} {i : Nat} {b : UInt8} (h : l[i]? = some b) : (bsv l)[i]? = some (.int .u8 (b.toNat : Int)) := by simp [bsv, h]
section
variable {P : Program} {n : Nat} {Q : Exit → Act → World → Prop} {M : List (Nat × Value)} {L : List Chunk} {K : List (Nat × Value) → List Chunk → Prop}
variable {d : Nat} {ty : TypeId} {ps : String} {af : Array Edge} {g : Option (Nat × Bool)} {x y : Operand} {v : Value}
theorem ofInt_nat (a : BitVec 32) : BitVec.ofInt 32 (a.toNat : Int) = a := (instWIv a).out
theorem EV_wop {op : BinOp} {t u : TypeId} {i j : Int} {a b r : BitVec 32} (hx : ev M x = some (.int .u32 i)) (hy : ev M y = some (.int .u32 j)) [ha' : WI i a] [hb' : WI j b] (hr : wop op a b = some r) :
    EV P n ⟨some d, .binOp op t x y u, ty, ps, af, g⟩ M L d (.int .u32 (r.toNat : Int)) := by
  have h1 := ha'.out
  have h2 := hb'.out
  subst h1 h2
  cases op <;> simp only [wop, Option.some.injEq, reduceCtorEq] at hr <;> subst hr
  · have := EV_ari (P := P) (n := n) (L := L) (d := d) (ty := ty) (ps := ps) (af := af) (g := g) (op := .add) (t := t) (u := u) hx hy rfl
    rw [wrap_u32, BitVec.ofInt_add] at this
    exact this
  · have := EV_ari (P := P) (n := n) (L := L) (d := d) (ty := ty) (ps := ps) (af := af) (g := g) (op := .sub) (t := t) (u := u) hx hy rfl
    rw [wrap_u32, Int.sub_eq_add_neg, BitVec.ofInt_add, BitVec.ofInt_neg, ← BitVec.sub_eq_add_neg] at this
    exact this
  · have := EV_ari (P := P) (n := n) (L := L) (d := d) (ty := ty) (ps := ps) (af := af) (g := g) (op := .mul) (t := t) (u := u) hx hy rfl
    rw [wrap_u32, BitVec.ofInt_mul] at this
    exact this
  · refine EV_bit (op := .and) hx hy ?_
    show some (IntKind.u32.wrap ((BitVec.ofInt 32 i &&& BitVec.ofInt 32 j).toNat : Int)) = _
    rw [wrap_u32, ofInt_nat]
  · refine EV_bit (op := .or) hx hy ?_
    show some (IntKind.u32.wrap ((BitVec.ofInt 32 i ||| BitVec.ofInt 32 j).toNat : Int)) = _
    rw [wrap_u32, ofInt_nat]
  · refine EV_bit (op := .xor) hx hy ?_
    show some (IntKind.u32.wrap ((BitVec.ofInt 32 i ^^^ BitVec.ofInt 32 j).toNat : Int)) = _
    rw [wrap_u32, ofInt_nat]
theorem EV_wnot {t : TypeId} {i : Int} {a : BitVec 32} (hx : ev M x = some (.int .u32 i)) [ha' : WI i a] :
    EV P n ⟨some d, .unOp .xor t x, ty, ps, af, g⟩ M L d (.int .u32 ((~~~ a).toNat : Int)) :=
  ⟨rfl, fun a' w ha _ => by
    have h1 := ha'.out
    subst h1
    have e : (Op.unary .xor (.int .u32 i)).run P w = .ok (.int .u32 ((~~~ BitVec.ofInt 32 i).toNat : Int)) w := by
      show (Sem.pure (Value.int .u32 (IntKind.u32.wrap ((BitVec.ofInt 32 4294967295 ^^^ BitVec.ofInt 32 i).toNat : Int)))).run P w = _
      rw [wrap_u32, ofInt_nat]
      have e3 : BitVec.ofInt 32 4294967295 ^^^ BitVec.ofInt 32 i = ~~~ BitVec.ofInt 32 i := by
        have : BitVec.ofInt 32 4294967295 = BitVec.allOnes 32 := by decide
        rw [this, BitVec.allOnes_xor]
      rw [e3]; rfl
    simp only [execOp, ha.eval hx, Sem.run_bind, e, Result.andThen_ok, Sem.run_pure]⟩
theorem EV_wshl {t u : TypeId} {k' : IntKind} {i j : Int} {a : BitVec 32} {s : Nat} (hx : ev M x = some (.int .u32 i)) (hy : ev M y = some (.int k' j)) [ha' : WI i a] [hj' : WN j s] (hs : s ≤ 32) :
    EV P n ⟨some d, .binOp .shl t x y u, ty, ps, af, g⟩ M L d (.int .u32 ((a <<< s).toNat : Int)) :=
  ⟨rfl, fun a' w ha _ => by
    have hj := hj'.out
    subst hj
    have h0 : ¬ ((s : Int) < 0) := by omega
    have hm : min (Int.toNat (s : Int)) IntKind.u32.bits = s := by simp [IntKind.bits]; omega
    have e : BitVec.ofInt 32 (i * 2 ^ s) = a <<< s := by
      rw [BitVec.ofInt_mul, ha'.out, BitVec.shiftLeft_eq_mul_twoPow]
      congr 1
      apply BitVec.eq_of_toNat_eq
      rw [BitVec.toNat_ofInt, BitVec.toNat_twoPow]
      have : ((2 : Int) ^ s) = ((2 ^ s : Nat) : Int) := by simp
      rw [this]
      omega
    simp [execOp, ha.eval hx, ha.eval hy, eqGuard, binOp, Op.shift, h0, hm, wrap_u32, e]⟩
theorem EV_wshr {t u : TypeId} {k' : IntKind} {j : Int} {a : BitVec 32} {s : Nat} (hx : ev M x = some (.int .u32 (a.toNat : Int))) (hy : ev M y = some (.int k' j)) [hj' : WN j s] (hs : s ≤ 32) :
    EV P n ⟨some d, .binOp .shr t x y u, ty, ps, af, g⟩ M L d (.int .u32 ((a >>> s).toNat : Int)) :=
  ⟨rfl, fun a' w ha _ => by
    have hj := hj'.out
    subst hj
    have h0 : ¬ ((s : Int) < 0) := by omega
    have hm : min (Int.toNat (s : Int)) IntKind.u32.bits = s := by simp [IntKind.bits]; omega
    have e : (a.toNat : Int).fdiv (2 ^ s) = ((a >>> s).toNat : Int) := by
      have : ((2 : Int) ^ s) = ((2 ^ s : Nat) : Int) := by simp
      rw [BitVec.toNat_ushiftRight, Nat.shiftRight_eq_div_pow, this, Int.fdiv_eq_ediv_of_nonneg _ (Int.natCast_nonneg _), ← Int.natCast_ediv]
    simp only [execOp, ha.eval hx, ha.eval hy, eqGuard, binOp, Op.shift, h0, hm, e, if_false, Sem.run_bind, Sem.run_pure, Result.andThen_ok]
    simp [e]⟩
theorem EV_wrem {t u : TypeId} {j : Int} {a b : BitVec 32} (hx : ev M x = some (.int .u32 (a.toNat : Int))) (hy : ev M y = some (.int .u32 j)) [hjb : WI j b] (hj : j = (b.toNat : Int)) (h0 : b.toNat ≠ 0) :
    EV P n ⟨some d, .binOp .rem t x y u, ty, ps, af, g⟩ M L d (.int .u32 ((a % b).toNat : Int)) := by
  subst hj
  have := EV_rem (P := P) (n := n) (L := L) (d := d) (ty := ty) (ps := ps) (af := af) (g := g) (t := t) (u := u) hx hy (by omega)
  have e : (a.toNat : Int).tmod (b.toNat : Int) = ((a % b).toNat : Int) := by
    rw [BitVec.toNat_umod, Int.tmod_eq_emod_of_nonneg (by omega), Int.natCast_emod]
  rwa [e] at this
theorem EV_w8to32 {s t : Nat} {b : UInt8} [h1 : IK P s .u8] [h2 : IK P t .u32] (hx : ev M x = some (.int .u8 (b.toNat : Int))) :
    EV P n ⟨some d, .convert s t x, ty, ps, af, g⟩ M L d (.int .u32 ((b2w b).toNat : Int)) :=
  EV_convII hx (by rw [wrap_u32]; congr 2)
theorem EV_w32to8 {s t : Nat} {a : BitVec 32} [h1 : IK P s .u32] [h2 : IK P t .u8] (hx : ev M x = some (.int .u32 (a.toNat : Int))) :
    EV P n ⟨some d, .convert s t x, ty, ps, af, g⟩ M L d (.int .u8 ((w2b a).toNat : Int)) :=
  EV_convII hx (by rw [wrap_u8]; simp only [w2b, UInt8.toNat_ofNat']; first | done | omega)
theorem EV_w64to32 {s t : Nat} {i : Int} [h1 : IK P s .u64] [h2 : IK P t .u32] (hx : ev M x = some (.int .u64 i)) :
    EV P n ⟨some d, .convert s t x, ty, ps, af, g⟩ M L d (.int .u32 ((BitVec.ofInt 32 i).toNat : Int)) :=
  EV_convII hx (wrap_u32 i)
omit [W0] in
def arrOf (P : Program) (T : Nat) : Option (Nat × Nat × Nat) := match P.underlying T with
  | some (.array len e) => match P.info? e with
    | some i => if Nat.blt 0 i.size then some (e, len, i.size) else none
    | none => none
  | _ => none
omit [W0] in
class AR (P : Program) (T : Nat) (e : outParam Nat) (len : outParam Nat) (k : outParam Nat) : Prop where out : arrOf P T = some (e, len, k)
theorem AR.parts {T e len k : Nat} (h : AR P T e len k) : P.underlying T = some (.array len e) ∧ ∃ i, P.info? e = some i ∧ i.size = k ∧ 0 < k := by
  have h := h.out
  unfold arrOf at h
  split at h
  · rename_i len' e' hu
    split at h
    · rename_i i hi
      split at h
      · rename_i hz
        simp at h
        obtain ⟨rfl, rfl, rfl⟩ := h
        rw [Nat.blt_eq] at hz
        exact ⟨hu, i, hi, rfl, hz⟩
      · simp at h
    · simp at h
  · simp at h
theorem EV_indexAddrA {T e len k : Nat} [hs : AR P T e len k] {b off j : Nat} {kk : IntKind} {i : Int} (hx : ev M x = some (.pointer (some ⟨b, off, none⟩))) (hy : ev M y = some (.int kk i))
    [hj' : WN i j] (hlt : j < len) : EV P n ⟨some d, .indexAddr T x y, ty, ps, af, g⟩ M L d (.pointer (some ⟨b, off + j * k, none⟩)) :=
  ⟨rfl, fun a w ha _ => by
    obtain ⟨hu, i', hi, hk, hk0⟩ := hs.parts
    have hj := hj'.out
    subst hj
    have h2 : (j : Int) < (len : Int) := by omega
    simp [execOp, ha.eval hx, ha.eval hy, Instr.indexAt, Instr.sureAddr, asIntOf, run_underlying hu, sizeOf, typeInfo, hi, hk, addr_add, h2, hlt]⟩
theorem EV_indexAddrW {T e k by_ : Nat} [hs : SL P T e k by_] {b off len cap j : Nat} {kk : IntKind} {i : Int} (hx : ev M x = some (.slice (some ⟨b, off, none⟩) len cap)) (hy : ev M y = some (.int kk i))
    [hj' : WN i j] (hlt : j < len) : EV P n ⟨some d, .indexAddr T x y, ty, ps, af, g⟩ M L d (.pointer (some ⟨b, off + j * k, none⟩)) := EV_indexAddr hx hy hj'.out hlt
theorem EV_indexAddrW0 {T e k by_ : Nat} [hs : SL P T e k by_] {b len cap j : Nat} {kk : IntKind} {i : Int} (hx : ev M x = some (.slice (some ⟨b, 0, none⟩) len cap)) (hy : ev M y = some (.int kk i))
    [hj' : WN i j] (hlt : j < len) : EV P n ⟨some d, .indexAddr T x y, ty, ps, af, g⟩ M L d (.pointer (some ⟨b, j * k, none⟩)) := EV_indexAddr0 hx hy hj'.out hlt
theorem EV_indexAddrA' {T e len k : Nat} [hs : AR P T e len k] {b off : Nat} (j : Nat) {kk : IntKind} {i : Int} (hx : ev M x = some (.pointer (some ⟨b, off, none⟩))) (hy : ev M y = some (.int kk i))
    (hj : i = (j : Int)) (hlt : j < len) : EV P n ⟨some d, .indexAddr T x y, ty, ps, af, g⟩ M L d (.pointer (some ⟨b, off + j * k, none⟩)) := by
  haveI : WN i j := ⟨hj⟩
  exact EV_indexAddrA hx hy hlt
theorem EV_sliceArr {T e len k : Nat} [hs : AR P T e len k] {b off : Nat} {lo hi : Option Operand} {l h : Nat} (hx : ev M x = some (.pointer (some ⟨b, off, none⟩))) (hl : bnd M lo 0 = some (l : Int)) (hh : bnd M hi len = some (h : Int))
    (h1 : l ≤ h) (h2 : h ≤ len) (h3 : l < len) : EV P n ⟨some d, .slice T x lo hi none, ty, ps, af, g⟩ M L d (.slice (some ⟨b, off + l * k, none⟩) (h - l) (len - l)) :=
  ⟨rfl, fun a w ha _ => by
    obtain ⟨hu, i', hi', hk', hk0⟩ := hs.parts
    have h4 : ¬ (len = l) := by omega
    simp [execOp, ha.eval hx, Instr.sliceAt, Instr.sureAddr, run_underlying hu, sliceBounds_run ha hl hh h1 h2, sizeOf, typeInfo, hi', hk', addr_add, h4]⟩
theorem EV_indexAgg {T e len : Nat} [hs : AR P T e len 1] [hn : NA P e] {vs : List Value} {j : Nat} {kk : IntKind} {i : Int} (hx : ev M x = some (.agg vs.toArray)) (hy : ev M y = some (.int kk i))
    (hj : i = (j : Int)) (hv : vs[j]? = some v) (hlt : j < len) : EV P n ⟨some d, .index T x y, ty, ps, af, g⟩ M L d v :=
  ⟨rfl, fun a w ha _ => by
    obtain ⟨hu, i', hi, hk, hk0⟩ := hs.parts
    subst hj
    have h2 : (j : Int) < (len : Int) := by omega
    simp [execOp, ha.eval hx, ha.eval hy, Instr.index, asIntOf, run_underlying hu, sizeOf, typeInfo, hi, hk, h2, hlt, part, isAgg_false hn.out, hv]⟩
theorem fill_key {len k : Nat} : ∀ (ps : List (Nat × Value)) (c : Array Value), ps.all (fun x => Nat.blt x.1 len) = true → Instr.fill (((List.range len).map fun j => (j * k, k)).toArray[·]?) c ps = Instr.fill (fun j => some (j * k, k)) c ps := by
  intro ps
  induction ps with
  | nil => intro c _; simp [Instr.fill]
  | cons p r ih =>
    intro c hall
    obtain ⟨j, v⟩ := p
    simp only [List.all_cons, Bool.and_eq_true, Nat.blt_eq] at hall
    unfold Instr.fill
    simp only [List.getElem?_toArray, List.getElem?_map, List.getElem?_range hall.1, Option.map_some]
    split
    · rfl
    · have := ih (v.cells.zipIdx.foldl (fun cs (x : Value × Nat) => cs.setIfInBounds (j * k + x.2) x.1) c) hall.2
      simp only [List.getElem?_toArray, List.getElem?_map] at this
      exact this
theorem EV_buildArr {t e len k : Nat} {z : Value} [hb : AR P t e len k] [hz : ZV P t z] {parts : List (Nat × Operand)} {pvs : List (Nat × Value)} {cs : List Value} (hp : evp M parts = some pvs)
    (hf : fillL ((List.range len).map fun i => (i * k, k)) z.cells.toList pvs = some cs) (hpl : pvs.all (fun x => Nat.blt x.1 len) = true) : EV P n ⟨some d, .build t parts.toArray, ty, ps, af, g⟩ M L d (.agg cs.toArray) :=
  ⟨rfl, fun a w ha _ => by
    obtain ⟨hu, i', hi, hk, hk0⟩ := hb.parts
    have hfill := fill_eq _ pvs z.cells.toList cs hf
    rw [fill_key pvs _ hpl, Array.toArray_toList] at hfill
    have hpe := ha.evalp hp
    simp [execOp, Instr.build, zero_run hz.out, run_underlying hu, sizeOf, typeInfo, hi, hk, hpe, hfill]⟩
theorem OW_W {o : Oper} (h : K ((d, v) :: M) L) (he : EV P n o M L d v := by first | (show EV _ _ ⟨_, .binOp .., _, _, _, _⟩ _ _ _ _; first | exact EV_wop rfl rfl rfl | exact EV_wshl rfl rfl (by omega) | exact EV_wshr rfl rfl (by omega) | exact EV_wrem rfl rfl (by rfl) (by decide)) | (show EV _ _ ⟨_, .unOp .., _, _, _, _⟩ _ _ _ _; first | exact EV_wnot rfl) | (show EV _ _ ⟨_, .convert .., _, _, _, _⟩ _ _ _ _; first | exact EV_w8to32 rfl | exact EV_w32to8 rfl | exact EV_w64to32 rfl) | (show EV _ _ ⟨_, .indexAddr .., _, _, _, _⟩ _ _ _ _; first | exact EV_indexAddrA rfl rfl (by omega) | exact EV_indexAddrW0 rfl rfl (by omega) | exact EV_indexAddrW rfl rfl (by omega)) | (show EV _ _ ⟨_, .build .., _, _, _, _⟩ _ _ _ _; first | exact EV_buildArr rfl (by simp [fillL, patch, Value.cells]; rfl) (by rfl)) | (show EV _ _ ⟨_, .move _, _, _, _, _⟩ _ _ _ _; first | exact EV_move rfl) | (show EV _ _ ⟨_, .assign _, _, _, _, _⟩ _ _ _ _; first | exact EV_assign rfl) | (show EV _ _ ⟨_, .nilCheck _, _, _, _, _⟩ _ _ _ _; first | exact EV_nilCheck rfl) | (show EV _ _ ⟨_, .fieldAddr .., _, _, _, _⟩ _ _ _ _; first | exact EV_fieldAddr0 rfl | exact EV_fieldAddr rfl) | (show EV _ _ ⟨_, .load .., _, _, _, _⟩ _ _ _ _; first | exact EV_loadc rfl (by repeat (first | assumption | exact Fnd.here | refine Fnd.there ?_)) rfl | exact EV_loadAggC rfl (by repeat (first | assumption | exact Fnd.here | refine Fnd.there ?_)) rfl) | (show EV _ _ ⟨_, .binOp .., _, _, _, _⟩ _ _ _ _; first | exact EV_cmp rfl rfl rfl | exact EV_ari64 rfl rfl rfl (by omega) | exact EV_shr rfl rfl (by decide) (shr_lit (by omega) (by simp [IntKind.bits]; rfl)) | exact EV_strEq rfl rfl | exact EV_strNe rfl rfl | exact EV_strLt rfl rfl | exact EV_sliceEqNil rfl rfl | exact EV_sliceNeNil rfl rfl | exact EV_ptrEqNil rfl rfl | exact EV_ptrNeNil rfl rfl | exact EV_boolEq rfl rfl | exact EV_boolNe rfl rfl) | (show EV _ _ ⟨_, .convert .., _, _, _, _⟩ _ _ _ _; first | exact EV_convII rfl (wrap_i64 (by omega) (by omega)) | exact EV_convII rfl (wrap_u64 (by omega) (by omega)) | exact EV_convII rfl rfl) | (show EV _ _ ⟨_, .extract .., _, _, _, _⟩ _ _ _ _; first | exact EV_extract rfl rfl) | (show EV _ _ ⟨_, .unOp .., _, _, _, _⟩ _ _ _ _; first | exact EV_not rfl) | (show EV _ _ ⟨_, .pick .., _, _, _, _⟩ _ _ _ _; first | exact EV_pick rfl rfl) | (show EV _ _ ⟨_, .call ⟨.builtin .len, _, _⟩, _, _, _, _⟩ _ _ _ _; first | exact EV_lenSl rfl | exact EV_lenStr rfl) | (show EV _ _ ⟨_, .call ⟨.builtin .cap, _, _⟩, _, _, _, _⟩ _ _ _ _; first | exact EV_capSl rfl) | (show EV _ _ ⟨_, .call ⟨.builtin .min, _, _⟩, _, _, _, _⟩ _ _ _ _; first | exact EV_min rfl rfl) | (show EV _ _ ⟨_, .call ⟨.builtin .max, _, _⟩, _, _, _, _⟩ _ _ _ _; first | exact EV_max rfl rfl) | (show EV _ _ ⟨_, .makeInterface .., _, _, _, _⟩ _ _ _ _; first | exact EV_makeInterface rfl) | (show EV _ _ ⟨_, .makeFunc .., _, _, _, _⟩ _ _ _ _; first | exact EV_makeFunc rfl rfl) | (show EV _ _ ⟨_, .typeAssert .., _, _, _, _⟩ _ _ _ _; first | exact EV_assertYes rfl | exact EV_assertNo rfl rfl) | (show EV _ _ ⟨_, .build .., _, _, _, _⟩ _ _ _ _; first | exact EV_build rfl (by simp [fillL, patch, Value.cells]; rfl))) (hn : Nat.blt d n = true := by exact rfl) : OW P n o K M L := OW_EV he hn h
theorem kX {p q : Prop} (h : q) (s : Wr q → p := by (intro h9; (first | (show WL _ _ _ _ _ _ _; first | refine jA ?_ | refine jB ?_ | refine jC ?_ | refine jD ?_ | refine jE ?_ | refine jF ?_) | (show OW _ _ _ _ _ _; first | refine OW_W ?_ | refine jI ?_ | refine jJ ?_) | (show WC _ _ _ _ _ _; first | refine jM ?_ | refine jN ?_ | refine jO ?_ | refine jP ?_ | refine jR ?_ | refine jS ?_ | refine jT ?_ | refine jU ?_) | (show WQ _ _ _ _; with_reducible first | refine jV ?_ | refine jW ?_ | refine jX ?_ | refine jY ?_ | refine jZ ?_ | refine kA ?_ | refine kB ?_ | refine kC ?_)); (repeat (first | (show WL _ _ _ _ _ _ _; first | refine jA ?_ | refine jB ?_ | refine jC ?_ | refine jD ?_ | refine jE ?_ | refine jF ?_) | (show OW _ _ _ _ _ _; first | refine OW_W ?_ | refine jI ?_ | refine jJ ?_) | (show WC _ _ _ _ _ _; first | refine jM ?_ | refine jN ?_ | refine jO ?_ | refine jP ?_ | refine jR ?_ | refine jS ?_ | refine jT ?_ | refine jU ?_) | (show WQ _ _ _ _; with_reducible first | refine jV ?_ | refine jW ?_ | refine jX ?_ | refine jY ?_ | refine jZ ?_ | refine kA ?_ | refine kB ?_ | refine kC ?_))); exact h9.out)) : p := s ⟨h⟩
theorem WR_w {S : List Chunk} {ops : List Oper} {T : List Nat} {fuel : Nat} {listed : Array Bool} (i : Nat) {o : Oper} (h : WR P n ops Q S T fuel (listed.setIfInBounds i true) ((d, v) :: M) L)
    (hi : ops[i]? = some o := by exact rfl) (hg : o.guard = none := by exact rfl) (hb : takeB ops T listed i = true := by kernel_rfl) (hPO : PO Q := by exact iP) (hinc : Inc S L := by exact iC) (he : EV P n o M S d v := by exact (by first | (show EV _ _ ⟨_, .binOp .., _, _, _, _⟩ _ _ _ _; first | exact EV_wop rfl rfl rfl | exact EV_wshl rfl rfl (by omega) | exact EV_wshr rfl rfl (by omega) | exact EV_wrem rfl rfl (by rfl) (by decide)) | (show EV _ _ ⟨_, .unOp .., _, _, _, _⟩ _ _ _ _; first | exact EV_wnot rfl) | (show EV _ _ ⟨_, .convert .., _, _, _, _⟩ _ _ _ _; first | exact EV_w8to32 rfl | exact EV_w32to8 rfl | exact EV_w64to32 rfl) | (show EV _ _ ⟨_, .indexAddr .., _, _, _, _⟩ _ _ _ _; first | exact EV_indexAddrA rfl rfl (by omega) | exact EV_indexAddrW0 rfl rfl (by omega) | exact EV_indexAddrW rfl rfl (by omega)) | (show EV _ _ ⟨_, .build .., _, _, _, _⟩ _ _ _ _; first | exact EV_buildArr rfl (by simp [fillL, patch, Value.cells]; rfl) (by rfl)) | (show EV _ _ ⟨_, .move _, _, _, _, _⟩ _ _ _ _; first | exact EV_move rfl) | (show EV _ _ ⟨_, .assign _, _, _, _, _⟩ _ _ _ _; first | exact EV_assign rfl) | (show EV _ _ ⟨_, .nilCheck _, _, _, _, _⟩ _ _ _ _; first | exact EV_nilCheck rfl) | (show EV _ _ ⟨_, .fieldAddr .., _, _, _, _⟩ _ _ _ _; first | exact EV_fieldAddr0 rfl | exact EV_fieldAddr rfl) | (show EV _ _ ⟨_, .load .., _, _, _, _⟩ _ _ _ _; first | exact EV_loadc rfl (by repeat (first | assumption | exact Fnd.here | refine Fnd.there ?_)) rfl | exact EV_loadAggC rfl (by repeat (first | assumption | exact Fnd.here | refine Fnd.there ?_)) rfl) | (show EV _ _ ⟨_, .binOp .., _, _, _, _⟩ _ _ _ _; first | exact EV_cmp rfl rfl rfl | exact EV_ari64 rfl rfl rfl (by omega) | exact EV_shr rfl rfl (by decide) (shr_lit (by omega) (by simp [IntKind.bits]; rfl)) | exact EV_strEq rfl rfl | exact EV_strNe rfl rfl | exact EV_strLt rfl rfl | exact EV_sliceEqNil rfl rfl | exact EV_sliceNeNil rfl rfl | exact EV_ptrEqNil rfl rfl | exact EV_ptrNeNil rfl rfl | exact EV_boolEq rfl rfl | exact EV_boolNe rfl rfl) | (show EV _ _ ⟨_, .convert .., _, _, _, _⟩ _ _ _ _; first | exact EV_convII rfl (wrap_i64 (by omega) (by omega)) | exact EV_convII rfl (wrap_u64 (by omega) (by omega)) | exact EV_convII rfl rfl) | (show EV _ _ ⟨_, .extract .., _, _, _, _⟩ _ _ _ _; first | exact EV_extract rfl rfl) | (show EV _ _ ⟨_, .unOp .., _, _, _, _⟩ _ _ _ _; first | exact EV_not rfl) | (show EV _ _ ⟨_, .pick .., _, _, _, _⟩ _ _ _ _; first | exact EV_pick rfl rfl) | (show EV _ _ ⟨_, .call ⟨.builtin .len, _, _⟩, _, _, _, _⟩ _ _ _ _; first | exact EV_lenSl rfl | exact EV_lenStr rfl) | (show EV _ _ ⟨_, .call ⟨.builtin .cap, _, _⟩, _, _, _, _⟩ _ _ _ _; first | exact EV_capSl rfl) | (show EV _ _ ⟨_, .call ⟨.builtin .min, _, _⟩, _, _, _, _⟩ _ _ _ _; first | exact EV_min rfl rfl) | (show EV _ _ ⟨_, .call ⟨.builtin .max, _, _⟩, _, _, _, _⟩ _ _ _ _; first | exact EV_max rfl rfl) | (show EV _ _ ⟨_, .makeInterface .., _, _, _, _⟩ _ _ _ _; first | exact EV_makeInterface rfl) | (show EV _ _ ⟨_, .makeFunc .., _, _, _, _⟩ _ _ _ _; first | exact EV_makeFunc rfl rfl) | (show EV _ _ ⟨_, .typeAssert .., _, _, _, _⟩ _ _ _ _; first | exact EV_assertYes rfl | exact EV_assertNo rfl rfl) | (show EV _ _ ⟨_, .build .., _, _, _, _⟩ _ _ _ _; first | exact EV_build rfl (by simp [fillL, patch, Value.cells]; rfl)))) (hn : Nat.blt d n = true := by exact rfl) :
    WR P n ops Q S T (fuel + 1) listed M L := WR_take i hi hg hb hPO hinc he hn h
end
theorem wpAnyT_mono {P : Program} {md : Region.Mode} {ops : Array Oper} {Q : Exit → Act → World → Prop} {S S' : World → Prop} {T : List Nat} (hs : ∀ w, S' w → S w) :
    ∀ (fuel : Nat) (listed : Array Bool) (a : Act) (w : World), wpAnyT P md ops Q S' T fuel listed a w → wpAnyT P md ops Q S T fuel listed a w
  | 0, _, _, _, h => h
  | fuel + 1, _, _, _, h => ⟨h.1, fun i hi => wpOp_mono (fun a' w' h' => ⟨fun hT => hs _ (h'.1 hT), wpAnyT_mono hs fuel _ a' w' h'.2⟩) (h.2 i hi)⟩
theorem WR_more {P : Program} {n : Nat} {ops : List Oper} {Q : Exit → Act → World → Prop} {S : List Chunk} (S' : List Chunk) {T : List Nat} {fuel : Nat} {listed : Array Bool} {M : List (Nat × Value)} {L : List Chunk} (hi : Inc S S') (h : WR P n ops Q S' T fuel listed M L) :
    WR P n ops Q S T fuel listed M L := ⟨fun a w ha hw => wpAnyT_mono (fun _ h => hi.holds h) fuel listed a w (h.out a w ha hw)⟩
end Go.Vx
namespace Go.Vx
open Go
set_option linter.all false
variable [W0]
theorem wrap_nat {k : IntKind} (hs : k.signed = false) {m : Nat} (h : m < 2 ^ k.bits) : k.wrap (m : Int) = (m : Int) := by
  unfold IntKind.wrap
  simp only [hs, Bool.false_and, Bool.false_eq_true, if_false]
  have c1 : ((2 : Int) ^ k.bits) = ((2 ^ k.bits : Nat) : Int) := by simp
  rw [c1]
  have h2 : ((m : Nat) : Int) < ((2 ^ k.bits : Nat) : Int) := by exact_mod_cast h
  exact Int.emod_eq_of_lt (Int.natCast_nonneg m) h2
theorem ofInt_toNat {b m : Nat} (h : m < 2 ^ b) : (BitVec.ofInt b (m : Int)).toNat = m := by
  rw [BitVec.toNat_ofInt]
  have h2 : ((m : Nat) : Int) < ((2 ^ b : Nat) : Int) := by exact_mod_cast h
  rw [Int.emod_eq_of_lt (Int.natCast_nonneg m) h2]
  rfl
section
variable {P : Program} {n : Nat} {Q : Exit → Act → World → Prop} {M : List (Nat × Value)} {L : List Chunk} {K : List (Nat × Value) → List Chunk → Prop}
variable {d : Nat} {ty : TypeId} {ps : String} {af : Array Edge} {g : Option (Nat × Bool)} {x y : Operand} {v : Value}
theorem EV_nshl {t u : TypeId} {k k' : IntKind} {i j : Int} (a s : Nat) (hx : ev M x = some (.int k i)) (hy : ev M y = some (.int k' j)) (hi : i = (a : Int)) (hj : j = (s : Int)) (hs : k.signed = false) (hr : a * 2 ^ s < 2 ^ k.bits) :
    EV P n ⟨some d, .binOp .shl t x y u, ty, ps, af, g⟩ M L d (.int k ((a * 2 ^ s : Nat) : Int)) := by
  subst hi hj
  refine EV_shl hx hy (by omega) ?_
  rw [Int.toNat_natCast]
  rcases Nat.lt_or_ge k.bits s with h | h
  · have h0 : a = 0 := by
      rcases Nat.eq_zero_or_pos a with h0 | h0
      · exact h0
      · exfalso
        have h1 : 2 ^ k.bits ≤ 2 ^ s := Nat.pow_le_pow_right (by decide) (Nat.le_of_lt h)
        have h2 : 1 * 2 ^ s ≤ a * 2 ^ s := Nat.mul_le_mul_right _ h0
        omega
    subst h0
    have := wrap_nat hs (m := 0) (Nat.pow_pos (by decide))
    simpa using this
  · rw [Nat.min_eq_left h]
    have c : (a : Int) * 2 ^ s = ((a * 2 ^ s : Nat) : Int) := by simp
    rw [c]
    exact wrap_nat hs hr
theorem EV_nshr {t u : TypeId} {k k' : IntKind} {i j : Int} (a s : Nat) (hx : ev M x = some (.int k i)) (hy : ev M y = some (.int k' j)) (hi : i = (a : Int)) (hj : j = (s : Int)) (hr : a < 2 ^ k.bits) :
    EV P n ⟨some d, .binOp .shr t x y u, ty, ps, af, g⟩ M L d (.int k ((a / 2 ^ s : Nat) : Int)) := by
  subst hi hj
  refine EV_shr hx hy (by omega) ?_
  rw [Int.toNat_natCast]
  have c : ∀ q : Nat, (a : Int).fdiv (2 ^ q) = ((a / 2 ^ q : Nat) : Int) := fun q => by
    have : ((2 : Int) ^ q) = ((2 ^ q : Nat) : Int) := by simp
    rw [this, Int.fdiv_eq_ediv_of_nonneg _ (Int.natCast_nonneg _), ← Int.natCast_ediv]
  rw [c]
  rcases Nat.lt_or_ge k.bits s with h | h
  · rw [Nat.min_eq_right (Nat.le_of_lt h), Nat.div_eq_of_lt hr, Nat.div_eq_of_lt (Nat.lt_of_lt_of_le hr (Nat.pow_le_pow_right (by decide) (Nat.le_of_lt h)))]
  · rw [Nat.min_eq_left h]
theorem EV_nand {t u : TypeId} {k : IntKind} {i j : Int} (a s : Nat) (hx : ev M x = some (.int k i)) (hy : ev M y = some (.int k j)) (hi : i = (a : Int)) (hj : j = ((2 ^ s - 1 : Nat) : Int)) (hs : k.signed = false) (ha : a < 2 ^ k.bits) (hb : s ≤ k.bits) :
    EV P n ⟨some d, .binOp .and t x y u, ty, ps, af, g⟩ M L d (.int k ((a % 2 ^ s : Nat) : Int)) := by
  subst hi hj
  refine EV_bit (op := .and) hx hy ?_
  have h1 : 2 ^ s - 1 < 2 ^ k.bits := by
    have := Nat.pow_le_pow_right (n := 2) (by decide) hb
    have h0 : 0 < 2 ^ s := Nat.pow_pos (by decide)
    omega
  show some (k.wrap ((BitVec.ofInt k.bits (a : Int) &&& BitVec.ofInt k.bits ((2 ^ s - 1 : Nat) : Int)).toNat : Int)) = _
  rw [BitVec.toNat_and, ofInt_toNat ha, ofInt_toNat h1, Nat.and_two_pow_sub_one_eq_mod, wrap_nat hs (Nat.lt_of_le_of_lt (Nat.mod_le _ _) ha)]
theorem or_add {a b s : Nat} (h : a < 2 ^ s) : a ||| b * 2 ^ s = a + b * 2 ^ s := by
  rw [Nat.mul_comm, Nat.or_comm, ← Nat.two_pow_add_eq_or_of_lt h, Nat.add_comm]
theorem EV_nor {t u : TypeId} {k : IntKind} {i j : Int} (a b s : Nat) (hx : ev M x = some (.int k i)) (hy : ev M y = some (.int k j)) (hi : i = (a : Int)) (hj : j = ((b * 2 ^ s : Nat) : Int)) (hs : k.signed = false) (ha : a < 2 ^ s) (hr : a + b * 2 ^ s < 2 ^ k.bits) :
    EV P n ⟨some d, .binOp .or t x y u, ty, ps, af, g⟩ M L d (.int k ((a + b * 2 ^ s : Nat) : Int)) := by
  subst hi hj
  refine EV_bit (op := .or) hx hy ?_
  show some (k.wrap ((BitVec.ofInt k.bits (a : Int) ||| BitVec.ofInt k.bits ((b * 2 ^ s : Nat) : Int)).toNat : Int)) = _
  rw [BitVec.toNat_or, ofInt_toNat (by omega), ofInt_toNat (by omega), or_add ha, wrap_nat hs hr]
theorem EV_nor' {t u : TypeId} {k : IntKind} {i j : Int} (a b s : Nat) (hx : ev M x = some (.int k i)) (hy : ev M y = some (.int k j)) (hi : i = ((b * 2 ^ s : Nat) : Int)) (hj : j = (a : Int)) (hs : k.signed = false) (ha : a < 2 ^ s) (hr : a + b * 2 ^ s < 2 ^ k.bits) :
    EV P n ⟨some d, .binOp .or t x y u, ty, ps, af, g⟩ M L d (.int k ((a + b * 2 ^ s : Nat) : Int)) := by
  subst hi hj
  refine EV_bit (op := .or) hx hy ?_
  show some (k.wrap ((BitVec.ofInt k.bits ((b * 2 ^ s : Nat) : Int) ||| BitVec.ofInt k.bits (a : Int)).toNat : Int)) = _
  rw [BitVec.toNat_or, ofInt_toNat (by omega), ofInt_toNat (by omega), Nat.or_comm, or_add ha, wrap_nat hs hr]
theorem EV_nconv {s t : Nat} {k k' : IntKind} [h1 : IK P s k] [h2 : IK P t k'] {i : Int} (a : Nat) (hx : ev M x = some (.int k i)) (hi : i = (a : Int)) (hs : k'.signed = false) (ha : a < 2 ^ k'.bits) :
    EV P n ⟨some d, .convert s t x, ty, ps, af, g⟩ M L d (.int k' (a : Int)) := by
  subst hi
  exact EV_convII hx (wrap_nat hs ha)
theorem wrap_byte (a : Nat) : IntKind.u8.wrap (a : Int) = ((UInt8.ofNat a).toNat : Int) := by
  rw [wrap_u8, UInt8.toNat_ofNat']
  omega
theorem EV_quoN {t u : TypeId} {i j : Int} (a b : Nat) (hx : ev M x = some (.int .i64 i)) (hy : ev M y = some (.int .i64 j)) (hi : i = (a : Int)) (hj : j = (b : Int)) (hb : b ≠ 0) (ha : a ≤ 9223372036854775807) :
    EV P n ⟨some d, .binOp .quo t x y u, ty, ps, af, g⟩ M L d (.int .i64 ((a / b : Nat) : Int)) := by
  subst hi hj
  have := EV_quo (P := P) (n := n) (L := L) (d := d) (ty := ty) (ps := ps) (af := af) (g := g) (t := t) (u := u) hx hy (by omega)
  have e : IntKind.i64.wrap (((a : Nat) : Int).tdiv (b : Int)) = ((a / b : Nat) : Int) := by
    rw [Int.tdiv_eq_ediv_of_nonneg (by omega), ← Int.natCast_ediv]
    have : a / b ≤ a := Nat.div_le_self _ _
    generalize a / b = q at *
    exact wrap_i64 (by omega) (by omega)
  rwa [e] at this
theorem EV_remN {t u : TypeId} {k : IntKind} {i j : Int} (a b : Nat) (hx : ev M x = some (.int k i)) (hy : ev M y = some (.int k j)) (hi : i = (a : Int)) (hj : j = (b : Int)) (hb : b ≠ 0) :
    EV P n ⟨some d, .binOp .rem t x y u, ty, ps, af, g⟩ M L d (.int k ((a % b : Nat) : Int)) := by
  subst hi hj
  have := EV_rem (P := P) (n := n) (L := L) (d := d) (ty := ty) (ps := ps) (af := af) (g := g) (t := t) (u := u) hx hy (by omega)
  have e : ((a : Nat) : Int).tmod (b : Int) = ((a % b : Nat) : Int) := by
    rw [Int.tmod_eq_emod_of_nonneg (by omega), Int.natCast_emod]
  rwa [e] at this
end
omit [W0] in
def val : List UInt8 → Nat
  | [] => 0
  | b :: r => b.toNat + 256 * val r
omit [W0] in
def byB (V i : Nat) : UInt8 := UInt8.ofNat (V / 2 ^ (8 * i))
omit [W0] in
def leB (V k : Nat) : List UInt8 := (List.range k).map (byB V)
theorem p256 (i : Nat) : 2 ^ (8 * (i + 1)) = 256 * 2 ^ (8 * i) := by
  rw [Nat.mul_add, Nat.pow_add, Nat.mul_comm]
theorem val_get : ∀ (d : List UInt8) (i : Nat), i < d.length → val d / 2 ^ (8 * i) % 256 = (d.getD i 0).toNat
  | [], i, h => by simp at h
  | b :: r, 0, _ => by
    have hb := b.toNat_lt
    simp [val]
  | b :: r, i + 1, h => by
    have hb := b.toNat_lt
    have h2 := val_get r i (by simpa using h)
    rw [p256, ← Nat.div_div_eq_div_mul]
    have e : val (b :: r) / 256 = val r := by simp only [val]; omega
    rw [e, h2]
    simp
omit [W0] in
/-- The lowest bits of a number, turned round. -/
def mir (v : Nat) : Nat → Nat
  | 0 => 0
  | i + 1 => 2 * mir v i + v / 2 ^ i % 2
end Go.Vx
namespace Go.Vx
open Go
set_option linter.all false
variable [W0]
theorem ow_byte {e m : Nat} {v : Value} {xs : List UInt8} {C : Chunk} (h : Ow e 1 v m (bsv xs) C) {k : Nat} (hk : k < m) :
    ∃ b cap rest, v = .slice (some ⟨b, 0, none⟩) m cap ∧ C = [(b, cl (bsv xs ++ rest) e)] ∧ (bsv xs ++ rest).toArray[k * 1]? = some (.int .u8 ((xs.getD k 0).toNat : Int)) := by
  rcases h with ⟨rfl, rfl, _⟩ | ⟨b, cap, rest, rfl, rfl, hxl, hrl, hmc, hcm⟩
  · omega
  · refine ⟨b, cap, rest, rfl, rfl, ?_⟩
    have hlt : k < xs.length := by rw [bsv_length] at hxl; omega
    rw [Nat.mul_one]
    simpa using getE_app (r := rest) (bsv_get (l := xs) (i := k) (b := xs.getD k 0) (by simp [List.getD, hlt]))
theorem Gv.take2 {P : Program} {L : List Chunk} {f : FuncId} {args : Array Value} {post : Value → List Chunk → Prop} {L1 R : List Chunk} {C D : Chunk} (h : Gv P f args (C :: D :: R) post) (h1 : Take C L L1) (h2 : Take D L1 R) : Gv P f args L post :=
  h.holds fun _ hw => (hw.take h1).perm ((h2.perm).cons C)
theorem Holds.gap {w : World} {D : Chunk} {L : List Chunk} : Holds w (D :: [] :: L) ↔ Holds w (D :: L) := by simp [Holds]
theorem sl_at {L : List Chunk} {v : Value} {m : Nat} {xs : List Value} (h : Sl L 1 v m xs) {k : Nat} {u : Value} (hk : xs[k]? = some u) :
    ∃ b off cap c T fr, v = .slice (some ⟨b, off, none⟩) m cap ∧ Fnd L b (.cells c T fr) ∧ c[off + k * 1]? = some u := by
  rcases h with ⟨c, rfl, rfl, rfl⟩ | ⟨a, cap, rfl, hr, hl⟩
  · simp at hk
  · rcases hr with h0 | ⟨b, off, c, T, fr, rfl, h1, h2⟩
    · subst h0; simp at hk
    · exact ⟨b, off, cap, c, T, fr, rfl, h1, by rw [Nat.mul_one]; exact h2 _ _ hk⟩
theorem ow_put {e m : Nat} {v : Value} {xs : List UInt8} {C : Chunk} (h : Ow e 1 v m (bsv xs) C) {k : Nat} (hk : k < m) :
    ∃ b cap rest, v = .slice (some ⟨b, 0, none⟩) m cap ∧ C = [(b, cl (bsv xs ++ rest) e)] ∧ (bsv xs ++ rest).toArray[k * 1]? = some (.int .u8 ((xs.getD k 0).toNat : Int)) ∧ k * 1 < (bsv xs ++ rest).length ∧
      ∀ y : UInt8, Ow e 1 v m (bsv (xs.set k y)) [(b, cl ((bsv xs ++ rest).set (k * 1) (.int .u8 (y.toNat : Int))) e)] := by
  rcases h with ⟨rfl, rfl, _⟩ | ⟨b, cap, rest, rfl, rfl, hxl, hrl, hmc, hcm⟩
  · omega
  · have hlt : k < xs.length := by rw [bsv_length] at hxl; omega
    refine ⟨b, cap, rest, rfl, rfl, ?_, ?_, fun y => ?_⟩
    · rw [Nat.mul_one]
      simpa using getE_app (r := rest) (bsv_get (l := xs) (i := k) (b := xs.getD k 0) (by simp [List.getD, hlt]))
    · simp [bsv_length]; omega
    · refine .inr ⟨b, cap, rest, rfl, ?_, by simpa [bsv_length] using hxl, hrl, hmc, hcm⟩
      have e : (bsv xs ++ rest).set (k * 1) (.int .u8 (y.toNat : Int)) = bsv (xs.set k y) ++ rest := by
        rw [Nat.mul_one, List.set_append_left _ _ (by simpa [bsv_length] using hlt)]
        congr 1
        simp [bsv, List.map_set]
      rw [e]
end Go.Vx
namespace Go.Proofs.YtfbeigbkdkiliaaGreatDoor
open Go Go.Vx
instance : SZ Tryz.prog 3 1 := ⟨by kernel_rfl⟩
instance : NA Tryz.prog 3 := ⟨by kernel_rfl⟩
instance : IK Tryz.prog 3 .i64 := ⟨by kernel_rfl⟩
instance : ZV Tryz.prog 3 (.int .i64 0) := ⟨by kernel_rfl⟩
instance : BB Tryz.prog 4 := ⟨by kernel_rfl⟩
instance : SZ Tryz.prog 5 1 := ⟨by kernel_rfl⟩
instance : NA Tryz.prog 5 := ⟨by kernel_rfl⟩
instance : IK Tryz.prog 5 .u8 := ⟨by kernel_rfl⟩
instance : ZV Tryz.prog 5 (.int .u8 0) := ⟨by kernel_rfl⟩
instance : SZ Tryz.prog 9 1 := ⟨by kernel_rfl⟩
instance : ST Tryz.prog 9 := ⟨by kernel_rfl⟩
instance : SZ Tryz.prog 23 1 := ⟨by kernel_rfl⟩
instance : NA Tryz.prog 23 := ⟨by kernel_rfl⟩
instance : SL Tryz.prog 23 5 1 1 := ⟨by kernel_rfl⟩
instance : SL Tryz.prog 28 98 7 80 := ⟨by kernel_rfl⟩
instance : IK Tryz.prog 32 .u64 := ⟨by kernel_rfl⟩
instance : SL Tryz.prog 34 41 5 64 := ⟨by kernel_rfl⟩
instance : SZ Tryz.prog 39 1 := ⟨by kernel_rfl⟩
instance : NA Tryz.prog 39 := ⟨by kernel_rfl⟩
instance : IK Tryz.prog 39 .u32 := ⟨by kernel_rfl⟩
instance : FO Tryz.prog 57 0 0 := ⟨by kernel_rfl⟩
instance : FO Tryz.prog 57 1 1 := ⟨by kernel_rfl⟩
instance : BL Tryz.prog 57 [(0, 1), (1, 1)] := ⟨by kernel_rfl⟩
instance : ZV Tryz.prog 57 (.agg #[.slice none 0 0, .int .i64 0]) := ⟨by kernel_rfl⟩
instance : SZ Tryz.prog 62 1 := ⟨by kernel_rfl⟩
instance : ZV Tryz.prog 62 (.map none) := ⟨by kernel_rfl⟩
instance : BL Tryz.prog 76 [(0, 1), (1, 1)] := ⟨by kernel_rfl⟩
instance : ZV Tryz.prog 76 (.agg #[.slice none 0 0, .map none]) := ⟨by kernel_rfl⟩
instance : SZ Tryz.prog 81 1 := ⟨by kernel_rfl⟩
instance : NA Tryz.prog 81 := ⟨by kernel_rfl⟩
instance : IK Tryz.prog 81 .u64 := ⟨by kernel_rfl⟩
instance : SZ Tryz.prog 84 1 := ⟨by kernel_rfl⟩
instance : NA Tryz.prog 84 := ⟨by kernel_rfl⟩
instance : SL Tryz.prog 84 3 1 8 := ⟨by kernel_rfl⟩
instance : ZV Tryz.prog 84 (.slice none 0 0) := ⟨by kernel_rfl⟩
instance : AG Tryz.prog 98 7 := ⟨by kernel_rfl, by kernel_rfl⟩
instance : FO Tryz.prog 98 0 0 := ⟨by kernel_rfl⟩
instance : FO Tryz.prog 98 1 1 := ⟨by kernel_rfl⟩
instance : FO Tryz.prog 98 2 2 := ⟨by kernel_rfl⟩
instance : FO Tryz.prog 98 3 3 := ⟨by kernel_rfl⟩
instance : FO Tryz.prog 98 4 4 := ⟨by kernel_rfl⟩
instance : FO Tryz.prog 98 5 5 := ⟨by kernel_rfl⟩
instance : FO Tryz.prog 98 6 6 := ⟨by kernel_rfl⟩
instance : BL Tryz.prog 98 [(0, 1), (1, 1), (2, 1), (3, 1), (4, 1), (5, 1), (6, 1)] := ⟨by kernel_rfl⟩
instance : ZV Tryz.prog 98 (.agg #[.int .i64 0, .int .i64 0, .int .i64 0, .int .u32 0, .slice none 0 0, .string .empty, .int .i64 0]) := ⟨by kernel_rfl⟩
instance : AG Tryz.prog 120 5 := ⟨by kernel_rfl, by kernel_rfl⟩
instance : AR Tryz.prog 120 39 5 1 := ⟨by kernel_rfl⟩
instance : ZV Tryz.prog 120 (.agg #[.int .u32 0, .int .u32 0, .int .u32 0, .int .u32 0, .int .u32 0]) := ⟨by kernel_rfl⟩
instance : AR Tryz.prog 121 5 64 1 := ⟨by kernel_rfl⟩
instance : AG Tryz.prog 123 70 := ⟨by kernel_rfl, by kernel_rfl⟩
instance : FO Tryz.prog 123 0 0 := ⟨by kernel_rfl⟩
instance : FO Tryz.prog 123 1 5 := ⟨by kernel_rfl⟩
instance : FO Tryz.prog 123 2 69 := ⟨by kernel_rfl⟩
instance : BL Tryz.prog 123 [(0, 5), (5, 64), (69, 1)] := ⟨by kernel_rfl⟩
instance : ZV Tryz.prog 123 (.agg #[.int .u32 0, .int .u32 0, .int .u32 0, .int .u32 0, .int .u32 0, .int .u8 0, .int .u8 0, .int .u8 0, .int .u8 0, .int .u8 0, .int .u8 0, .int .u8 0, .int .u8 0, .int .u8 0, .int .u8 0, .int .u8 0, .int .u8 0, .int .u8 0, .int .u8 0, .int .u8 0, .int .u8 0, .int .u8 0, .int .u8 0, .int .u8 0, .int .u8 0, .int .u8 0, .int .u8 0, .int .u8 0, .int .u8 0, .int .u8 0, .int .u8 0, .int .u8 0, .int .u8 0, .int .u8 0, .int .u8 0, .int .u8 0, .int .u8 0, .int .u8 0, .int .u8 0, .int .u8 0, .int .u8 0, .int .u8 0, .int .u8 0, .int .u8 0, .int .u8 0, .int .u8 0, .int .u8 0, .int .u8 0, .int .u8 0, .int .u8 0, .int .u8 0, .int .u8 0, .int .u8 0, .int .u8 0, .int .u8 0, .int .u8 0, .int .u8 0, .int .u8 0, .int .u8 0, .int .u8 0, .int .u8 0, .int .u8 0, .int .u8 0, .int .u8 0, .int .u8 0, .int .u8 0, .int .u8 0, .int .u8 0, .int .u8 0, .int .u64 0]) := ⟨by kernel_rfl⟩
instance : NA Tryz.prog 125 := ⟨by kernel_rfl⟩
instance : ZV Tryz.prog 125 (.nilFunc) := ⟨by kernel_rfl⟩
instance : SL Tryz.prog 126 125 1 8 := ⟨by kernel_rfl⟩
instance : AG Tryz.prog 159 80 := ⟨by kernel_rfl, by kernel_rfl⟩
instance : AR Tryz.prog 159 39 80 1 := ⟨by kernel_rfl⟩
instance : ZV Tryz.prog 159 (.agg #[.int .u32 0, .int .u32 0, .int .u32 0, .int .u32 0, .int .u32 0, .int .u32 0, .int .u32 0, .int .u32 0, .int .u32 0, .int .u32 0, .int .u32 0, .int .u32 0, .int .u32 0, .int .u32 0, .int .u32 0, .int .u32 0, .int .u32 0, .int .u32 0, .int .u32 0, .int .u32 0, .int .u32 0, .int .u32 0, .int .u32 0, .int .u32 0, .int .u32 0, .int .u32 0, .int .u32 0, .int .u32 0, .int .u32 0, .int .u32 0, .int .u32 0, .int .u32 0, .int .u32 0, .int .u32 0, .int .u32 0, .int .u32 0, .int .u32 0, .int .u32 0, .int .u32 0, .int .u32 0, .int .u32 0, .int .u32 0, .int .u32 0, .int .u32 0, .int .u32 0, .int .u32 0, .int .u32 0, .int .u32 0, .int .u32 0, .int .u32 0, .int .u32 0, .int .u32 0, .int .u32 0, .int .u32 0, .int .u32 0, .int .u32 0, .int .u32 0, .int .u32 0, .int .u32 0, .int .u32 0, .int .u32 0, .int .u32 0, .int .u32 0, .int .u32 0, .int .u32 0, .int .u32 0, .int .u32 0, .int .u32 0, .int .u32 0, .int .u32 0, .int .u32 0, .int .u32 0, .int .u32 0, .int .u32 0, .int .u32 0, .int .u32 0, .int .u32 0, .int .u32 0, .int .u32 0, .int .u32 0]) := ⟨by kernel_rfl⟩
instance : NA Tryz.prog 162 := ⟨by kernel_rfl⟩
instance : AG Tryz.prog 163 4 := ⟨by kernel_rfl, by kernel_rfl⟩
instance : AR Tryz.prog 163 162 4 1 := ⟨by kernel_rfl⟩
instance : ZV Tryz.prog 163 (.agg #[.nilFunc, .nilFunc, .nilFunc, .nilFunc]) := ⟨by kernel_rfl⟩
instance : SL Tryz.prog 165 39 1 4 := ⟨by kernel_rfl⟩
instance : SZ Tryz.prog 170 1 := ⟨by kernel_rfl⟩
instance : NA Tryz.prog 170 := ⟨by kernel_rfl⟩
instance : ZV Tryz.prog 170 (.int .u32 0) := ⟨by kernel_rfl⟩
instance : FO Tryz.prog 202 0 0 := ⟨by kernel_rfl⟩
instance : FO Tryz.prog 202 1 1 := ⟨by kernel_rfl⟩
instance : BL Tryz.prog 202 [(0, 1), (1, 1)] := ⟨by kernel_rfl⟩
instance : ZV Tryz.prog 202 (.agg #[.int .u32 0, .int .u32 0]) := ⟨by kernel_rfl⟩
instance : AG Tryz.prog 216 16 := ⟨by kernel_rfl, by kernel_rfl⟩
instance : AR Tryz.prog 216 39 16 1 := ⟨by kernel_rfl⟩
instance : ZV Tryz.prog 216 (.agg #[.int .u32 0, .int .u32 0, .int .u32 0, .int .u32 0, .int .u32 0, .int .u32 0, .int .u32 0, .int .u32 0, .int .u32 0, .int .u32 0, .int .u32 0, .int .u32 0, .int .u32 0, .int .u32 0, .int .u32 0, .int .u32 0]) := ⟨by kernel_rfl⟩
instance : NA Tryz.prog 262 := ⟨by kernel_rfl⟩
instance : SZ Tryz.prog 264 1 := ⟨by kernel_rfl⟩
instance : NA Tryz.prog 264 := ⟨by kernel_rfl⟩
instance : PT Tryz.prog 264 := ⟨⟨347, by kernel_rfl⟩⟩
instance : FO Tryz.prog 266 0 0 := ⟨by kernel_rfl⟩
instance : FO Tryz.prog 266 1 1 := ⟨by kernel_rfl⟩
instance : FO Tryz.prog 266 2 2 := ⟨by kernel_rfl⟩
instance : FO Tryz.prog 266 3 3 := ⟨by kernel_rfl⟩
instance : BL Tryz.prog 266 [(0, 1), (1, 1), (2, 1), (3, 1)] := ⟨by kernel_rfl⟩
instance : ZV Tryz.prog 266 (.agg #[.pointer none, .slice none 0 0, .int .i64 0, .pointer none]) := ⟨by kernel_rfl⟩
instance : FO Tryz.prog 290 0 0 := ⟨by kernel_rfl⟩
instance : FO Tryz.prog 290 1 1 := ⟨by kernel_rfl⟩
instance : FO Tryz.prog 290 2 2 := ⟨by kernel_rfl⟩
instance : FO Tryz.prog 290 3 3 := ⟨by kernel_rfl⟩
instance : BL Tryz.prog 290 [(0, 1), (1, 1), (2, 1), (3, 1)] := ⟨by kernel_rfl⟩
instance : ZV Tryz.prog 290 (.agg #[.slice none 0 0, .int .i64 0, .int .u64 0, .int .i64 0]) := ⟨by kernel_rfl⟩
instance : NA Tryz.prog 291 := ⟨by kernel_rfl⟩
instance : AG Tryz.prog 292 3 := ⟨by kernel_rfl, by kernel_rfl⟩
instance : AR Tryz.prog 292 291 3 1 := ⟨by kernel_rfl⟩
instance : ZV Tryz.prog 292 (.agg #[.nilFunc, .nilFunc, .nilFunc]) := ⟨by kernel_rfl⟩
instance : SL Tryz.prog 303 84 1 24 := ⟨by kernel_rfl⟩
instance : AG Tryz.prog 307 16 := ⟨by kernel_rfl, by kernel_rfl⟩
instance : AR Tryz.prog 307 3 16 1 := ⟨by kernel_rfl⟩
instance : ZV Tryz.prog 307 (.agg #[.int .i64 0, .int .i64 0, .int .i64 0, .int .i64 0, .int .i64 0, .int .i64 0, .int .i64 0, .int .i64 0, .int .i64 0, .int .i64 0, .int .i64 0, .int .i64 0, .int .i64 0, .int .i64 0, .int .i64 0, .int .i64 0]) := ⟨by kernel_rfl⟩
instance : NA Tryz.prog 343 := ⟨by kernel_rfl⟩
instance : FO Tryz.prog 347 0 0 := ⟨by kernel_rfl⟩
instance : FO Tryz.prog 347 1 1 := ⟨by kernel_rfl⟩
instance : BL Tryz.prog 347 [(0, 1), (1, 1)] := ⟨by kernel_rfl⟩
instance : ZV Tryz.prog 347 (.agg #[.pointer none, .pointer none]) := ⟨by kernel_rfl⟩
instance : AR Tryz.prog 362 3 19 1 := ⟨by kernel_rfl⟩
instance : AR Tryz.prog 364 84 16 1 := ⟨by kernel_rfl⟩
instance : FO Tryz.prog 366 0 0 := ⟨by kernel_rfl⟩
instance : FO Tryz.prog 366 1 16 := ⟨by kernel_rfl⟩
instance : FO Tryz.prog 366 2 32 := ⟨by kernel_rfl⟩
instance : BL Tryz.prog 366 [(0, 16), (16, 16), (32, 1)] := ⟨by kernel_rfl⟩
instance : ZV Tryz.prog 366 (.agg #[.int .u32 0, .int .u32 0, .int .u32 0, .int .u32 0, .int .u32 0, .int .u32 0, .int .u32 0, .int .u32 0, .int .u32 0, .int .u32 0, .int .u32 0, .int .u32 0, .int .u32 0, .int .u32 0, .int .u32 0, .int .u32 0, .slice none 0 0, .slice none 0 0, .slice none 0 0, .slice none 0 0, .slice none 0 0, .slice none 0 0, .slice none 0 0, .slice none 0 0, .slice none 0 0, .slice none 0 0, .slice none 0 0, .slice none 0 0, .slice none 0 0, .slice none 0 0, .slice none 0 0, .slice none 0 0, .int .i64 0]) := ⟨by kernel_rfl⟩
theorem mixed : Tryz.prog.follows .mixedOrders = true := by kernel_rfl
instance : BD Tryz.prog 4 := ⟨by kernel_rfl⟩
instance : BD Tryz.prog 5 := ⟨by kernel_rfl⟩
instance : BD Tryz.prog 6 := ⟨by kernel_rfl⟩
instance : BD Tryz.prog 7 := ⟨by kernel_rfl⟩
instance : BD Tryz.prog 8 := ⟨by kernel_rfl⟩
instance : BD Tryz.prog 9 := ⟨by kernel_rfl⟩
instance : BD Tryz.prog 10 := ⟨by kernel_rfl⟩
instance : BD Tryz.prog 11 := ⟨by kernel_rfl⟩
instance : BD Tryz.prog 12 := ⟨by kernel_rfl⟩
instance : BD Tryz.prog 13 := ⟨by kernel_rfl⟩
instance : BD Tryz.prog 14 := ⟨by kernel_rfl⟩
instance : BD Tryz.prog 17 := ⟨by kernel_rfl⟩
instance : BD Tryz.prog 18 := ⟨by kernel_rfl⟩
instance : BD Tryz.prog 19 := ⟨by kernel_rfl⟩
instance : BD Tryz.prog 20 := ⟨by kernel_rfl⟩
instance : BD Tryz.prog 28 := ⟨by kernel_rfl⟩
instance : BD Tryz.prog 35 := ⟨by kernel_rfl⟩
instance : BD Tryz.prog 36 := ⟨by kernel_rfl⟩
instance : BD Tryz.prog 37 := ⟨by kernel_rfl⟩
instance : BD Tryz.prog 38 := ⟨by kernel_rfl⟩
instance : BD Tryz.prog 39 := ⟨by kernel_rfl⟩
instance : BD Tryz.prog 40 := ⟨by kernel_rfl⟩
instance : BD Tryz.prog 41 := ⟨by kernel_rfl⟩
instance : BD Tryz.prog 42 := ⟨by kernel_rfl⟩
instance : BD Tryz.prog 43 := ⟨by kernel_rfl⟩
instance : BD Tryz.prog 44 := ⟨by kernel_rfl⟩
instance : BD Tryz.prog 48 := ⟨by kernel_rfl⟩
instance : BD Tryz.prog 53 := ⟨by kernel_rfl⟩
instance : BD Tryz.prog 57 := ⟨by kernel_rfl⟩
instance : BD Tryz.prog 58 := ⟨by kernel_rfl⟩
instance : BD Tryz.prog 59 := ⟨by kernel_rfl⟩
instance : BD Tryz.prog 63 := ⟨by kernel_rfl⟩
instance : BD Tryz.prog 64 := ⟨by kernel_rfl⟩
instance : BD Tryz.prog 73 := ⟨by kernel_rfl⟩
instance : BD Tryz.prog 81 := ⟨by kernel_rfl⟩
instance : BD Tryz.prog 82 := ⟨by kernel_rfl⟩
instance : BD Tryz.prog 83 := ⟨by kernel_rfl⟩
instance : BD Tryz.prog 96 := ⟨by kernel_rfl⟩
instance : BD Tryz.prog 97 := ⟨by kernel_rfl⟩
instance : BD Tryz.prog 98 := ⟨by kernel_rfl⟩
instance : BD Tryz.prog 99 := ⟨by kernel_rfl⟩
instance : BD Tryz.prog 100 := ⟨by kernel_rfl⟩
instance : BD Tryz.prog 101 := ⟨by kernel_rfl⟩
instance : BD Tryz.prog 102 := ⟨by kernel_rfl⟩
instance : BD Tryz.prog 103 := ⟨by kernel_rfl⟩
instance : BD Tryz.prog 104 := ⟨by kernel_rfl⟩
instance : BD Tryz.prog 133 := ⟨by kernel_rfl⟩
instance : BD Tryz.prog 134 := ⟨by kernel_rfl⟩
instance : BD Tryz.prog 135 := ⟨by kernel_rfl⟩
instance : BD Tryz.prog 136 := ⟨by kernel_rfl⟩
instance : BD Tryz.prog 137 := ⟨by kernel_rfl⟩
instance : BD Tryz.prog 139 := ⟨by kernel_rfl⟩
instance : BD Tryz.prog 140 := ⟨by kernel_rfl⟩
instance : BD Tryz.prog 141 := ⟨by kernel_rfl⟩
instance : BD Tryz.prog 146 := ⟨by kernel_rfl⟩
instance : BD Tryz.prog 152 := ⟨by kernel_rfl⟩
instance : BD Tryz.prog 167 := ⟨by kernel_rfl⟩
instance : BD Tryz.prog 168 := ⟨by kernel_rfl⟩
instance : BD Tryz.prog 169 := ⟨by kernel_rfl⟩
instance : BD Tryz.prog 179 := ⟨by kernel_rfl⟩
instance : BD Tryz.prog 181 := ⟨by kernel_rfl⟩
instance : BD Tryz.prog 184 := ⟨by kernel_rfl⟩
instance : BD Tryz.prog 185 := ⟨by kernel_rfl⟩
instance : BD Tryz.prog 193 := ⟨by kernel_rfl⟩
instance : BD Tryz.prog 194 := ⟨by kernel_rfl⟩
instance : BD Tryz.prog 201 := ⟨by kernel_rfl⟩
instance : BD Tryz.prog 202 := ⟨by kernel_rfl⟩
instance : BD Tryz.prog 207 := ⟨by kernel_rfl⟩
instance : BD Tryz.prog 208 := ⟨by kernel_rfl⟩
instance : BD Tryz.prog 210 := ⟨by kernel_rfl⟩
instance : BD Tryz.prog 211 := ⟨by kernel_rfl⟩
instance : BD Tryz.prog 215 := ⟨by kernel_rfl⟩
instance : BD Tryz.prog 216 := ⟨by kernel_rfl⟩
instance : BD Tryz.prog 217 := ⟨by kernel_rfl⟩
instance : BD Tryz.prog 218 := ⟨by kernel_rfl⟩
instance : BD Tryz.prog 222 := ⟨by kernel_rfl⟩
instance : BD Tryz.prog 223 := ⟨by kernel_rfl⟩
instance : BD Tryz.prog 224 := ⟨by kernel_rfl⟩
instance : BD Tryz.prog 230 := ⟨by kernel_rfl⟩
instance : BD Tryz.prog 231 := ⟨by kernel_rfl⟩
instance : BD Tryz.prog 232 := ⟨by kernel_rfl⟩
instance : BD Tryz.prog 233 := ⟨by kernel_rfl⟩
instance : BD Tryz.prog 234 := ⟨by kernel_rfl⟩
instance : BD Tryz.prog 235 := ⟨by kernel_rfl⟩
instance : BD Tryz.prog 237 := ⟨by kernel_rfl⟩
instance : BD Tryz.prog 244 := ⟨by kernel_rfl⟩
instance : BD Tryz.prog 245 := ⟨by kernel_rfl⟩
instance : BD Tryz.prog 246 := ⟨by kernel_rfl⟩
instance : BD Tryz.prog 247 := ⟨by kernel_rfl⟩
instance : BD Tryz.prog 248 := ⟨by kernel_rfl⟩
instance : BD Tryz.prog 249 := ⟨by kernel_rfl⟩
instance : BD Tryz.prog 250 := ⟨by kernel_rfl⟩
instance : BD Tryz.prog 251 := ⟨by kernel_rfl⟩
instance : BD Tryz.prog 252 := ⟨by kernel_rfl⟩
instance : BD Tryz.prog 261 := ⟨by kernel_rfl⟩
instance : BD Tryz.prog 262 := ⟨by kernel_rfl⟩
instance : BD Tryz.prog 263 := ⟨by kernel_rfl⟩
instance : BD Tryz.prog 264 := ⟨by kernel_rfl⟩
instance : BD Tryz.prog 265 := ⟨by kernel_rfl⟩
instance : BD Tryz.prog 266 := ⟨by kernel_rfl⟩
instance : BD Tryz.prog 267 := ⟨by kernel_rfl⟩
instance : BD Tryz.prog 268 := ⟨by kernel_rfl⟩
end Go.Proofs.YtfbeigbkdkiliaaGreatDoor
namespace Go.Pm
set_option linter.all false
structure It where
  w : Nat
  c : Option Nat
  f : Nat → Nat
def isC (x : It) : Bool := x.c.isSome
def coin (wt : Nat → Nat) (i : Nat) : It := ⟨wt i, some i, fun j => if j = i then 1 else 0⟩
def pack (a b : It) : It := ⟨a.w + b.w, none, fun i => a.f i + b.f i⟩
def pairs : List It → List It
  | a :: b :: r => pack a b :: pairs r
  | _ => []
structure Mg (cs ps A : List It) : Prop where
  up : A.Pairwise fun a b => a.w ≤ b.w
  cs : A.filter isC = cs
  ps : A.filter (fun x => !isC x) = ps
theorem pairs_length : ∀ l : List It, (pairs l).length = l.length / 2
  | [] => rfl
  | [_] => by simp [pairs]
  | a :: b :: r => by
    have := pairs_length r
    simp only [pairs, List.length_cons, this]
    omega
theorem take_filter {α : Type} (q : α → Bool) : ∀ (l : List α) (m : Nat), (l.take m).filter q = (l.filter q).take ((l.take m).filter q).length
  | [], m => by simp
  | x :: r, 0 => by simp
  | x :: r, m + 1 => by
    simp only [List.take_succ_cons, List.filter_cons]
    have ih := take_filter q r m
    split
    · simp only [List.length_cons, List.take_succ_cons]
      rw [← ih]
    · exact ih
theorem filter_perm {α : Type} (q : α → Bool) : ∀ l : List α, l.Perm (l.filter q ++ l.filter fun x => !q x)
  | [] => .refl _
  | x :: r => by
    have ih := filter_perm q r
    cases h : q x with
    | true => simp only [List.filter_cons, h, if_true, Bool.not_true, Bool.false_eq_true, if_false, List.cons_append]; exact ih.cons x
    | false =>
      simp only [List.filter_cons, h, Bool.not_false, if_true, Bool.false_eq_true, if_false]
      exact (ih.cons x).trans List.perm_middle.symm
structure Lv (cs : List It) (lv : Nat → List It) : Prop where
  zero : lv 0 = []
  next : ∀ k, Mg cs (pairs (lv k)) (lv (k + 1))
section
variable {cs : List It} {lv : Nat → List It} (h : Lv cs lv)
def sC (lv : Nat → List It) (k m : Nat) : Nat := (((lv k).take m).filter isC).length
def pC (lv : Nat → List It) (k m : Nat) : Nat := (((lv k).take m).filter fun x => !isC x).length
def sel (lv : Nat → List It) : Nat → Nat → List Nat
  | 0, _ => []
  | k + 1, m => sC lv (k + 1) m :: sel lv k (2 * pC lv (k + 1) m)
theorem sp (lv : Nat → List It) (k m : Nat) (hm : m ≤ (lv k).length) : sC lv k m + pC lv k m = m := by
  have := (filter_perm isC ((lv k).take m)).length_eq
  simp only [List.length_append, List.length_take] at this
  unfold sC pC
  omega
include h in
theorem coins_of (k m : Nat) : ((lv (k + 1)).take m).filter isC = cs.take (sC lv (k + 1) m) := by
  have := take_filter isC (lv (k + 1)) m
  rw [(h.next k).cs] at this
  exact this
include h in
theorem packs_of (k m : Nat) : ((lv (k + 1)).take m).filter (fun x => !isC x) = (pairs (lv k)).take (pC lv (k + 1) m) := by
  have := take_filter (fun x => !isC x) (lv (k + 1)) m
  rw [(h.next k).ps] at this
  exact this
include h in
theorem pC_le (k m : Nat) : pC lv (k + 1) m ≤ (pairs (lv k)).length := by
  rw [← (h.next k).ps]
  unfold pC
  exact ((List.take_sublist m (lv (k + 1))).filter _).length_le
include h in
theorem sC_le (k m : Nat) : sC lv (k + 1) m ≤ cs.length := by
  rw [← (h.next k).cs]
  unfold sC
  exact ((List.take_sublist m (lv (k + 1))).filter _).length_le
include h in
theorem pC_two (k m : Nat) : 2 * pC lv (k + 1) m ≤ (lv k).length := by
  have := pC_le h k m
  rw [pairs_length] at this
  omega
def kr : List Nat → Nat
  | [] => 0
  | s :: r => s * 2 ^ r.length + kr r
theorem sel_length (lv : Nat → List It) : ∀ k m, (sel lv k m).length = k
  | 0, _ => rfl
  | k + 1, m => by simp [sel, sel_length lv k]
include h in
theorem kr_sel : ∀ k m, m ≤ (lv (k + 1)).length → kr (sel lv (k + 1) m) = m * 2 ^ k
  | 0, m, hm => by
    have h1 := sp lv 1 m hm
    have h2 := pC_le h 0 m
    rw [h.zero] at h2
    simp [pairs] at h2
    simp only [sel, kr, List.length_nil]
    simp only [Nat.zero_add] at h2 ⊢
    omega
  | k + 1, m, hm => by
    have h1 := sp lv (k + 2) m hm
    have h2 := pC_two h (k + 1) m
    have ih := kr_sel k _ h2
    rw [sel, kr, ih, sel_length, Nat.pow_succ]
    rw [show 2 * pC lv (k + 1 + 1) m * 2 ^ k = pC lv (k + 1 + 1) m * (2 ^ k * 2) from by rw [Nat.mul_comm 2, Nat.mul_assoc, Nat.mul_comm 2], ← Nat.add_mul, h1]
def down : List Nat → Prop
  | [] => True
  | [_] => True
  | a :: b :: r => b ≤ a ∧ down (b :: r)
theorem mem_pairs : ∀ {l : List It} {t : Nat} {x : It}, l[t]? = some x → (h2 : t < 2 * (pairs l).length) → (hp : ∀ y ∈ l, 0 < y.w) → ∃ y, (pairs l)[t / 2]? = some y ∧ x.w < y.w
  | [], t, x, h, _, _ => by simp at h
  | [_], t, x, h, h2, _ => by simp [pairs] at h2
  | a :: b :: r, 0, x, h, _, hp => by
    simp at h; subst h
    have := hp b (by simp)
    exact ⟨pack a b, rfl, by simp only [pack]; omega⟩
  | a :: b :: r, 1, x, h, _, hp => by
    simp at h; subst h
    have := hp a (by simp)
    exact ⟨pack a b, rfl, by simp only [pack]; omega⟩
  | a :: b :: r, t + 2, x, h, h2, hp => by
    have h' : r[t]? = some x := by simpa using h
    obtain ⟨y, hy, hw⟩ := mem_pairs h' (by simp [pairs] at h2; omega) (fun y hy => hp y (by simp [hy]))
    refine ⟨y, ?_, hw⟩
    rw [show (t + 2) / 2 = t / 2 + 1 from by omega]
    simpa [pairs] using hy
include h in
theorem pos (hp : ∀ x ∈ cs, 0 < x.w) : ∀ k, ∀ y ∈ lv k, 0 < y.w
  | 0, y, hy => by rw [h.zero] at hy; simp at hy
  | k + 1, y, hy => by
    cases hc : isC y with
    | true =>
      have : y ∈ (lv (k + 1)).filter isC := List.mem_filter.2 ⟨hy, hc⟩
      rw [(h.next k).cs] at this
      exact hp y this
    | false =>
      have : y ∈ (lv (k + 1)).filter fun x => !isC x := List.mem_filter.2 ⟨hy, by simp [hc]⟩
      rw [(h.next k).ps] at this
      have ih := pos hp k
      have key : ∀ (l : List It), (∀ z ∈ l, 0 < z.w) → ∀ z ∈ pairs l, 0 < z.w := by
        intro l
        induction l using pairs.induct with
        | case1 a b r ihr =>
          intro hl z hz
          simp only [pairs, List.mem_cons] at hz
          rcases hz with rfl | hz
          · have := hl a (by simp); simp only [pack]; omega
          · exact ihr (fun z hz => hl z (by simp [hz])) z hz
        | case2 l hl2 =>
          intro _ z hz
          rw [pairs] at hz
          · simp at hz
          · exact hl2
      exact key _ ih y this
include h in
theorem sel_down2 (hp : ∀ x ∈ cs, 0 < x.w) (k m : Nat) : sC lv (k + 1) (2 * pC lv (k + 2) m) ≤ sC lv (k + 2) m := by
  rcases Nat.lt_or_ge (sC lv (k + 2) m) (sC lv (k + 1) (2 * pC lv (k + 2) m)) with hlt | hle
  · exfalso
    have hn := sC_le h k (2 * pC lv (k + 2) m)
    have hcs : sC lv (k + 2) m < cs.length := by omega
    -- the coin that comes next
    obtain ⟨x, hx⟩ : ∃ x, cs[sC lv (k + 2) m]? = some x := ⟨cs[sC lv (k + 2) m], by simp [hcs]⟩
    have hin : x ∈ ((lv (k + 1)).take (2 * pC lv (k + 2) m)).filter isC := by
      rw [coins_of h]
      refine List.mem_of_getElem? (i := sC lv (k + 2) m) ?_
      rw [List.getElem?_take, if_pos hlt]; exact hx
    obtain ⟨hin1, hxc⟩ := List.mem_filter.1 hin
    obtain ⟨t, ht⟩ := List.getElem?_of_mem hin1
    rw [List.getElem?_take] at ht
    split at ht
    · rename_i htl
      have h2 : pC lv (k + 2) m ≤ (pairs (lv (k + 1))).length := pC_le h (k + 1) m
      have hpk : ((lv (k + 2)).take m).filter (fun x => !isC x) = (pairs (lv (k + 1))).take (pC lv (k + 2) m) := packs_of h (k + 1) m
      obtain ⟨y, hy, hyw⟩ := mem_pairs ht (by omega) (pos h hp (k + 1))
      have hym : y ∈ ((lv (k + 2)).take m).filter fun x => !isC x := by
        rw [hpk]
        refine List.mem_of_getElem? (i := t / 2) ?_
        rw [List.getElem?_take, if_pos (by omega)]; exact hy
      have hy1 := (List.mem_filter.1 hym).1
      -- the coin stands behind
      have hxd : x ∈ (lv (k + 2)).drop m := by
        have e : cs = ((lv (k + 2)).take m).filter isC ++ ((lv (k + 2)).drop m).filter isC := by
          rw [← List.filter_append, List.take_append_drop, (h.next (k + 1)).cs]
        have hl : (((lv (k + 2)).take m).filter isC).length = sC lv (k + 2) m := rfl
        rw [e, List.getElem?_append_right (by omega), hl, Nat.sub_self] at hx
        exact (List.mem_filter.1 (List.mem_of_getElem? hx)).1
      have hup := (h.next (k + 1)).up
      rw [← List.take_append_drop m (lv (k + 1 + 1)), List.pairwise_append] at hup
      have := hup.2.2 y hy1 x hxd
      omega
    · cases ht
  · exact hle
include h in
theorem sel_down (hp : ∀ x ∈ cs, 0 < x.w) : ∀ k m, down (sel lv k m)
  | 0, _ => trivial
  | 1, _ => trivial
  | k + 2, m => ⟨sel_down2 h hp k m, sel_down hp (k + 1) _⟩
end
end Go.Pm
namespace Go.Pm
set_option linter.all false
def ln (S : List Nat) (r : Nat) : Nat := (S.filter fun s => decide (r < s)).length
def sumTo (g : Nat → Nat) : Nat → Nat
  | 0 => 0
  | n + 1 => sumTo g n + g n
theorem sumTo_congr {g h : Nat → Nat} : ∀ {n : Nat}, (∀ i, i < n → g i = h i) → sumTo g n = sumTo h n
  | 0, _ => rfl
  | n + 1, hh => by
    have h1 := sumTo_congr (n := n) (fun i hi => hh i (by omega))
    simp only [sumTo, h1, hh n (by omega)]
theorem sumTo_add (g : Nat → Nat) (a : Nat) : ∀ b, sumTo g (a + b) = sumTo g a + sumTo (fun i => g (a + i)) b
  | 0 => rfl
  | b + 1 => by
    have h1 := sumTo_add g a b
    rw [← Nat.add_assoc]
    simp only [sumTo, h1]
    omega
theorem sumTo_const (c : Nat) : ∀ n, sumTo (fun _ => c) n = n * c
  | 0 => by simp [sumTo]
  | n + 1 => by simp only [sumTo, sumTo_const c n, Nat.add_mul, Nat.one_mul]
theorem sumTo_le (g : Nat → Nat) : ∀ {n i : Nat}, i < n → g i ≤ sumTo g n
  | 0, i, h => by omega
  | n + 1, i, h => by
    simp only [sumTo]
    rcases Nat.lt_or_ge i n with h' | h'
    · have := sumTo_le g h'; omega
    · rw [show i = n from by omega]; omega
theorem sumTo_two (g : Nat → Nat) {n i j : Nat} (hi : i < n) (hj : j < n) (hne : i ≠ j) : g i + g j ≤ sumTo g n := by
  induction n with
  | zero => omega
  | succ n ih =>
    simp only [sumTo]
    by_cases h1 : i = n
    · have := sumTo_le g (show j < n by omega); subst h1; omega
    · by_cases h2 : j = n
      · have := sumTo_le g (show i < n by omega); subst h2; omega
      · have := ih (by omega) (by omega); omega
theorem down_tail {s : Nat} {R : List Nat} (h : down (s :: R)) : down R := by
  cases R with
  | nil => trivial
  | cons b r => exact h.2
theorem down_le : ∀ {R : List Nat} {s : Nat}, down (s :: R) → ∀ x ∈ R, x ≤ s
  | [], s, _, x, hx => by simp at hx
  | b :: r, s, h, x, hx => by
    rcases List.mem_cons.1 hx with rfl | hx
    · exact h.1
    · exact Nat.le_trans (down_le h.2 x hx) h.1
theorem ln_cons (s : Nat) (R : List Nat) (r : Nat) : ln (s :: R) r = (if r < s then 1 else 0) + ln R r := by
  unfold ln
  by_cases h : r < s
  · simp [h]; omega
  · simp [h]
theorem ln_zero {R : List Nat} {r : Nat} (h : ∀ x ∈ R, x ≤ r) : ln R r = 0 := by
  unfold ln
  rw [List.filter_eq_nil_iff.2 (fun x hx => by have := h x hx; simp; omega)]
  rfl
theorem shares : ∀ (S : List Nat) (n : Nat), down S → (∀ s ∈ S, s ≤ n) → sumTo (fun r => 2 ^ (S.length - ln S r)) n + kr S = n * 2 ^ S.length
  | [], n, _, _ => by simp [ln, kr, sumTo_const]
  | s :: R, n, hd, hn => by
    have hs : s ≤ n := hn s (by simp)
    have hR := down_le hd
    have ih := shares R s (down_tail hd) hR
    obtain ⟨j, rfl⟩ := Nat.le.dest hs
    rw [sumTo_add]
    have e1 : sumTo (fun r => 2 ^ ((s :: R).length - ln (s :: R) r)) s = sumTo (fun r => 2 ^ (R.length - ln R r)) s := by
      refine sumTo_congr fun r hr => ?_
      rw [ln_cons, if_pos hr, List.length_cons]
      congr 1
      omega
    have e2 : sumTo (fun i => 2 ^ ((s :: R).length - ln (s :: R) (s + i))) j = j * 2 ^ (R.length + 1) := by
      rw [← sumTo_const]
      refine sumTo_congr fun i hi => ?_
      rw [ln_cons, if_neg (by omega), ln_zero (fun x hx => by have := hR x hx; omega), List.length_cons]
      rfl
    rw [e1, e2, kr, List.length_cons, Nat.pow_succ]
    generalize sumTo (fun r => 2 ^ (R.length - ln R r)) s = x at *
    generalize 2 ^ R.length = y at *
    generalize kr R = z at *
    rw [Nat.add_mul, ← Nat.mul_assoc, ← Nat.mul_assoc]
    omega
section
variable {cs : List It} {lv : Nat → List It} (h : Lv cs lv)
include h in
theorem lv_length (k : Nat) : (lv (k + 1)).length = cs.length + (lv k).length / 2 := by
  have := (filter_perm isC (lv (k + 1))).length_eq
  rw [(h.next k).cs, (h.next k).ps] at this
  simpa [pairs_length] using this
include h in
theorem lv_room (hn : 0 < cs.length) : ∀ k, ∃ c, (lv (k + 1)).length + c = 2 * cs.length ∧ 1 ≤ c ∧ (c - 1) * 2 ^ k < cs.length
  | 0 => ⟨cs.length, by rw [lv_length h, h.zero]; simp; omega, hn, by omega⟩
  | k + 1 => by
    obtain ⟨c, h1, h2, h3⟩ := lv_room hn k
    refine ⟨(c + 1) / 2, by rw [lv_length h (k + 1)]; omega, by omega, ?_⟩
    have h4 : 2 * ((c + 1) / 2 - 1) ≤ c - 1 := by omega
    have h5 := Nat.mul_le_mul_right (2 ^ k) h4
    rw [Nat.pow_succ, Nat.mul_comm (2 ^ k), ← Nat.mul_assoc, Nat.mul_comm _ 2]
    omega
include h in
theorem lv_full (k : Nat) (hn : 0 < cs.length) (hk : cs.length ≤ 2 ^ (k + 1)) : 2 * cs.length - 2 ≤ (lv (k + 1)).length := by
  obtain ⟨c, h1, h2, h3⟩ := lv_room h hn k
  rw [Nat.pow_succ] at hk
  have h4 : c - 1 < 2 := by
    rcases Nat.lt_or_ge (c - 1) 2 with h' | h'
    · exact h'
    · have := Nat.mul_le_mul_right (2 ^ k) h'
      omega
  omega
theorem sel_all (hh : ∀ k m, sC lv (k + 1) m ≤ cs.length) : ∀ k m, ∀ s ∈ sel lv k m, s ≤ cs.length
  | 0, m, s, hs => by simp [sel] at hs
  | k + 1, m, s, hs => by
    simp only [sel, List.mem_cons] at hs
    rcases hs with rfl | hs
    · exact hh k m
    · exact sel_all hh k _ s hs
theorem whole (h : Lv cs lv) (hp : ∀ x ∈ cs, 0 < x.w) (k : Nat) (hn : 1 ≤ cs.length) (hk : cs.length ≤ 2 ^ (k + 1)) :
    sumTo (fun r => 2 ^ (k + 1 - ln (sel lv (k + 1) (2 * cs.length - 2)) r)) cs.length = 2 ^ (k + 1) := by
  have h1 := shares (sel lv (k + 1) (2 * cs.length - 2)) cs.length (sel_down h hp _ _) (sel_all (sC_le h) _ _)
  rw [sel_length, kr_sel h k _ (lv_full h k hn hk)] at h1
  have e : (2 * cs.length - 2) * 2 ^ k + 2 ^ (k + 1) = cs.length * 2 ^ (k + 1) := by
    rw [Nat.pow_succ, show 2 ^ k * 2 = 2 * 2 ^ k from Nat.mul_comm _ _, ← Nat.mul_assoc]
    obtain ⟨j, hj⟩ : ∃ j, cs.length = j + 1 := ⟨cs.length - 1, by omega⟩
    rw [hj, show 2 * (j + 1) - 2 = 2 * j from by omega, show (j + 1) * 2 = 2 * j + 2 from by omega, Nat.add_mul]
  omega
theorem taken (h : Lv cs lv) (hp : ∀ x ∈ cs, 0 < x.w) (k : Nat) (hn : 2 ≤ cs.length) (hk : cs.length ≤ 2 ^ (k + 1)) (r : Nat) (hr : r < cs.length) : 1 ≤ ln (sel lv (k + 1) (2 * cs.length - 2)) r := by
  have h1 := whole h hp k (by omega) hk
  rcases Nat.eq_zero_or_pos (ln (sel lv (k + 1) (2 * cs.length - 2)) r) with h0 | h0
  · exfalso
    obtain ⟨q, hq, hne⟩ : ∃ q, q < cs.length ∧ r ≠ q := by
      rcases Nat.eq_zero_or_pos r with h2 | h2
      · exact ⟨1, by omega, by omega⟩
      · exact ⟨0, by omega, by omega⟩
    have := sumTo_two (fun r => 2 ^ (k + 1 - ln (sel lv (k + 1) (2 * cs.length - 2)) r)) hr hq hne
    simp only [h0, Nat.sub_zero] at this
    have hpos : 0 < 2 ^ (k + 1 - ln (sel lv (k + 1) (2 * cs.length - 2)) q) := Nat.pow_pos (by decide)
    omega
  · exact h0
end
end Go.Pm
namespace Go.Pm
set_option linter.all false
def psum : List Nat → List Nat
  | a :: b :: r => (a + b) :: psum r
  | _ => []
theorem pairs_w : ∀ l : List It, (pairs l).map It.w = psum (l.map It.w)
  | [] => rfl
  | [_] => rfl
  | a :: b :: r => by simp only [pairs, List.map_cons, psum, pairs_w r, pack]
structure Lw (ws : List Nat) (lw : Nat → List Nat) : Prop where
  zero : lw 0 = []
  up : ∀ k, (lw (k + 1)).Pairwise fun a b => a ≤ b
  perm : ∀ k, (lw (k + 1)).Perm (ws ++ psum (lw k))
theorem Lv.lw {cs : List It} {lv : Nat → List It} (h : Lv cs lv) : Lw (cs.map It.w) (fun k => (lv k).map It.w) where
  zero := by rw [h.zero]; rfl
  up k := by
    rw [List.pairwise_map]
    exact (h.next k).up
  perm k := by
    have := (filter_perm isC (lv (k + 1))).map It.w
    rw [(h.next k).cs, (h.next k).ps, List.map_append, pairs_w] at this
    exact this
theorem Lw.same {ws ws' : List Nat} {lw lw' : Nat → List Nat} (h : Lw ws lw) (h' : Lw ws' lw') (hp : ws.Perm ws') : ∀ k, lw k = lw' k
  | 0 => by rw [h.zero, h'.zero]
  | k + 1 => by
    have ih := Lw.same h h' hp k
    have p : (lw (k + 1)).Perm (lw' (k + 1)) := (h.perm k).trans (((hp.append (by rw [ih])).trans (h'.perm k).symm))
    exact List.Perm.eq_of_pairwise (fun a b _ _ h1 h2 => Nat.le_antisymm h1 h2) (h.up k) (h'.up k) p
end Go.Pm
namespace Go.Hf
set_option linter.all false
def kS : List Nat → Nat
  | [] => 0
  | x :: r => (if 0 < x then 2 ^ (15 - x) else 0) + kS r
theorem kS_le (l : List Nat) : kS l ≤ l.length * 16384 := by
  induction l with
  | nil => simp [kS]
  | cons x r ih =>
    have : (if 0 < x then 2 ^ (15 - x) else 0) ≤ 16384 := by
      split
      · exact Nat.le_trans (Nat.pow_le_pow_right (by decide) (show 15 - x ≤ 14 by omega)) (by decide)
      · omega
    simp only [kS, List.length_cons]
    omega
def cn (l : List Nat) (n : Nat) : Nat := (l.filter fun x => x == n).length
theorem cn_app (a b : List Nat) (n : Nat) : cn (a ++ b) n = cn a n + cn b n := by simp [cn]
theorem cn_cons (x : Nat) (r : List Nat) (n : Nat) : cn (x :: r) n = (if x = n then 1 else 0) + cn r n := by
  unfold cn
  by_cases h : x = n
  · simp [h]; omega
  · simp [h]
def fs (l : List Nat) : Nat → Nat
  | 0 => 0
  | n + 1 => 2 * (fs l n + if n = 0 then 0 else cn l n)
theorem fs_one (l : List Nat) : fs l 1 = 0 := rfl
theorem fs_succ (l : List Nat) {n : Nat} (h : 0 < n) : fs l (n + 1) = 2 * (fs l n + cn l n) := by
  rw [fs, if_neg (by omega)]
def ks (l : List Nat) (n : Nat) : Nat := kS (l.filter fun x => decide (x ≤ n))
theorem ks_succ (l : List Nat) (n : Nat) : ks l (n + 1) = ks l n + cn l (n + 1) * 2 ^ (15 - (n + 1)) := by
  induction l with
  | nil => simp [ks, kS, cn]
  | cons x r ih =>
    unfold ks at *
    rw [cn_cons]
    rcases Nat.lt_trichotomy x (n + 1) with h | h | h
    · have h1 : x ≤ n + 1 := by omega
      have h2 : x ≤ n := by omega
      have h3 : x ≠ n + 1 := by omega
      simp only [List.filter_cons, h1, h2, h3, decide_true, if_true, kS, if_false, ih, Nat.zero_add]
      omega
    · subst h
      have h2 : ¬ n + 1 ≤ n := by omega
      simp only [List.filter_cons, Nat.le_refl, h2, decide_true, decide_false, if_true, Bool.false_eq_true, if_false, kS, ih, Nat.zero_lt_succ, Nat.add_mul, Nat.one_mul]
      omega
    · have h1 : ¬ x ≤ n + 1 := by omega
      have h2 : ¬ x ≤ n := by omega
      have h3 : x ≠ n + 1 := by omega
      simp only [List.filter_cons, h1, h2, h3, decide_false, Bool.false_eq_true, if_false, ih, Nat.zero_add]
theorem ks_zero (l : List Nat) : ks l 0 = 0 := by
  induction l with
  | nil => rfl
  | cons x r ih =>
    unfold ks at *
    by_cases h : x ≤ 0
    · simp only [List.filter_cons, h, decide_true, if_true, kS, ih]
      rw [if_neg (by omega)]
    · simp only [List.filter_cons, h, decide_false, Bool.false_eq_true, if_false, ih]
theorem ks_all {l : List Nat} {n : Nat} (h : ∀ x ∈ l, x ≤ n) : ks l n = kS l := by
  unfold ks
  rw [List.filter_eq_self.2 (fun x hx => by simpa using h x hx)]
theorem ks_mono (l : List Nat) {a b : Nat} (h : a ≤ b) : ks l a ≤ ks l b := by
  induction b with
  | zero => rw [Nat.le_zero.1 h]; exact Nat.le_refl _
  | succ b ih =>
    rcases Nat.lt_or_ge a (b + 1) with h' | h'
    · rw [ks_succ]; have := ih (by omega); omega
    · rw [show a = b + 1 from by omega]; exact Nat.le_refl _
theorem ks_le (l : List Nat) (n : Nat) : ks l n ≤ kS l := by
  have key : ∀ l : List Nat, kS (l.filter fun x => decide (x ≤ n)) ≤ kS l := by
    intro l
    induction l with
    | nil => exact Nat.le_refl _
    | cons x r ih =>
      by_cases h : x ≤ n
      · simp only [List.filter_cons, h, decide_true, if_true, kS]; omega
      · simp only [List.filter_cons, h, decide_false, Bool.false_eq_true, if_false, kS]; omega
  exact key l
theorem fs_end (l : List Nat) : ∀ n, 1 ≤ n → n ≤ 15 → (fs l n + cn l n) * 2 ^ (15 - n) = ks l n
  | 0, h, _ => by omega
  | 1, _, _ => by
    have h : ks l 1 = ks l 0 + cn l 1 * 2 ^ (15 - 1) := ks_succ l 0
    rw [ks_zero] at h
    rw [fs_one, Nat.zero_add]
    omega
  | n + 2, _, h2 => by
    have ih := fs_end l (n + 1) (by omega) (by omega)
    rw [fs_succ l (by omega), ks_succ, ← ih, Nat.add_mul]
    congr 1
    rw [show 15 - (n + 1) = 15 - (n + 1 + 1) + 1 from by omega, Nat.pow_succ]
    generalize fs l (n + 1) + cn l (n + 1) = x
    generalize 2 ^ (15 - (n + 1 + 1)) = y
    rw [Nat.mul_comm 2 x, Nat.mul_assoc, Nat.mul_comm 2 y]
theorem fs_fit {l : List Nat} (hk : kS l ≤ 32768) {n : Nat} (h1 : 1 ≤ n) (h2 : n ≤ 15) : fs l n + cn l n ≤ 2 ^ n := by
  have h := fs_end l n h1 h2
  have h3 := ks_le l n
  have h4 : (fs l n + cn l n) * 2 ^ (15 - n) ≤ 2 ^ n * 2 ^ (15 - n) := by
    rw [h, ← Nat.pow_add, show n + (15 - n) = 15 from by omega]
    exact Nat.le_trans h3 hk
  exact Nat.le_of_mul_le_mul_right h4 (Nat.pow_pos (by decide))
def cd (l : List Nat) (i : Nat) : Nat := if l.getD i 0 = 0 then 0 else fs l (l.getD i 0) + cn (l.take i) (l.getD i 0)
def cds (l : List Nat) : List Nat := (List.range l.length).map (cd l)
theorem cn_take_lt {l : List Nat} {i n : Nat} (hi : l[i]? = some n) : cn (l.take i) n < cn l n := by
  have hlt : i < l.length := by
    rcases Nat.lt_or_ge i l.length with h | h
    · exact h
    · simp [List.getElem?_eq_none h] at hi
  have e : l = l.take i ++ (n :: l.drop (i + 1)) := by
    rw [List.getElem?_eq_getElem hlt] at hi
    rw [← Option.some.inj hi, ← List.drop_eq_getElem_cons hlt, List.take_append_drop]
  have := congrArg (fun x => cn x n) e
  simp only [cn_app, cn_cons, if_true] at this
  omega
theorem cd_in {l : List Nat} {i n : Nat} (hi : l[i]? = some n) (h0 : n ≠ 0) : fs l n ≤ cd l i ∧ cd l i < fs l n + cn l n := by
  have hg : l.getD i 0 = n := by simp [List.getD, hi]
  have := cn_take_lt hi
  unfold cd
  rw [hg, if_neg h0]
  omega
theorem cn_take_mono (l : List Nat) (n : Nat) {i j : Nat} (h : i ≤ j) : cn (l.take i) n ≤ cn (l.take j) n := by
  have : l.take j = l.take i ++ (l.drop i).take (j - i) := by
    rw [List.take_drop, show i + (j - i) = j from by omega]
    have h1 : l.take i = (l.take j).take i := by rw [List.take_take, Nat.min_eq_left h]
    rw [h1, List.take_append_drop]
  rw [this, cn_app]
  omega
theorem cd_inj {l : List Nat} {i j n : Nat} (hi : l[i]? = some n) (hj : l[j]? = some n) (h0 : n ≠ 0) (he : cd l i = cd l j) : i = j := by
  have key : ∀ {i j : Nat}, l[i]? = some n → l[j]? = some n → i < j → cd l i < cd l j := by
    intro i j hi hj hlt
    have hg : l.getD i 0 = n := by simp [List.getD, hi]
    have hg2 : l.getD j 0 = n := by simp [List.getD, hj]
    have h1 : cn (l.take (i + 1)) n = cn (l.take i) n + 1 := by
      rw [List.take_add_one, hi, cn_app]
      simp [cn]
    have h2 := cn_take_mono l n (show i + 1 ≤ j from hlt)
    unfold cd
    rw [hg, hg2, if_neg h0, if_neg h0]
    omega
  rcases Nat.lt_trichotomy i j with h | h | h
  · have := key hi hj h; omega
  · exact h
  · have := key hj hi h; omega
theorem cd_surj {l : List Nat} {n v : Nat} (h0 : n ≠ 0) (h1 : fs l n ≤ v) (h2 : v < fs l n + cn l n) : ∃ i, l[i]? = some n ∧ cd l i = v := by
  have key : ∀ (l : List Nat) (k : Nat), k < cn l n → ∃ i, l[i]? = some n ∧ cn (l.take i) n = k := by
    intro l
    induction l with
    | nil => intro k hk; simp [cn] at hk
    | cons x r ih =>
      intro k hk
      rw [cn_cons] at hk
      by_cases hx : x = n
      · rw [if_pos hx] at hk
        rcases Nat.eq_zero_or_pos k with h | h
        · exact ⟨0, by simp [hx], by simp [cn, h]⟩
        · obtain ⟨i, hi, hc⟩ := ih (k - 1) (by omega)
          exact ⟨i + 1, by simpa using hi, by rw [List.take_succ_cons, cn_cons, if_pos hx, hc]; omega⟩
      · rw [if_neg hx, Nat.zero_add] at hk
        obtain ⟨i, hi, hc⟩ := ih k hk
        exact ⟨i + 1, by simpa using hi, by rw [List.take_succ_cons, cn_cons, if_neg hx, hc]; omega⟩
  obtain ⟨i, hi, hc⟩ := key l (v - fs l n) (by omega)
  have hg : l.getD i 0 = n := by simp [List.getD, hi]
  refine ⟨i, hi, ?_⟩
  unfold cd
  rw [hg, if_neg h0, hc]
  omega
theorem fs_later (l : List Nat) {n : Nat} (h0 : 0 < n) : ∀ k, (fs l n + cn l n) * 2 ^ (k + 1) ≤ fs l (n + k + 1)
  | 0 => by rw [fs_succ l (by omega)]; simp; omega
  | k + 1 => by
    have ih := fs_later l h0 k
    rw [show n + (k + 1) + 1 = (n + k + 1) + 1 from by omega, fs_succ l (by omega), Nat.pow_succ, ← Nat.mul_assoc]
    omega
theorem cd_prefix {l : List Nat} {i n m : Nat} (hi : l[i]? = some m) (h0 : 0 < n) (hm : n < m) : fs l n + cn l n ≤ cd l i / 2 ^ (m - n) := by
  obtain ⟨k, rfl⟩ : ∃ k, m = n + k + 1 := ⟨m - n - 1, by omega⟩
  have h1 := fs_later l h0 k
  have h2 := (cd_in hi (by omega)).1
  rw [Nat.le_div_iff_mul_le (Nat.pow_pos (by decide)), show n + k + 1 - n = k + 1 from by omega]
  omega
def ext (l : List Nat) (n v : Nat) : Prop := ∃ (i m : Nat), l[i]? = some m ∧ n < m ∧ cd l i / 2 ^ (m - n) = v
theorem ext_iff {l : List Nat} (hk : kS l ≤ 32768) (hl : ∀ x ∈ l, x ≤ 15) {n v : Nat} (hn : n ≤ 15) : ext l n v ↔ ((if n = 0 then 0 else fs l n + cn l n) ≤ v ∧ v * 2 ^ (15 - n) < kS l) := by
  have hend : ∀ m, 1 ≤ m → m ≤ 15 → (fs l m + cn l m) * 2 ^ (15 - m) ≤ kS l := fun m h1 h2 => by rw [fs_end l m h1 h2]; exact ks_le l m
  constructor
  · rintro ⟨i, m, hi, hm, rfl⟩
    have hm15 := hl m (List.mem_of_getElem? hi)
    obtain ⟨c1, c2⟩ := cd_in hi (by omega)
    refine ⟨?_, ?_⟩
    · split
      · exact Nat.zero_le _
      · exact cd_prefix hi (by omega) hm
    · have h1 := hend m (by omega) hm15
      have h2 : cd l i / 2 ^ (m - n) * 2 ^ (15 - n) ≤ cd l i * 2 ^ (15 - m) := by
        rw [show 15 - n = (m - n) + (15 - m) from by omega, Nat.pow_add, ← Nat.mul_assoc]
        exact Nat.mul_le_mul_right _ (Nat.div_mul_le_self _ _)
      have h3 : (cd l i + 1) * 2 ^ (15 - m) ≤ (fs l m + cn l m) * 2 ^ (15 - m) := Nat.mul_le_mul_right _ c2
      have h4 : 0 < 2 ^ (15 - m) := Nat.pow_pos (by decide)
      rw [Nat.add_mul] at h3
      omega
  · rintro ⟨h1, h2⟩
    -- the first length whose codes reach beyond v
    have hex : ∃ m, n < m ∧ m ≤ 15 ∧ v * 2 ^ (15 - n) < ks l m := by
      refine ⟨15, ?_, Nat.le_refl _, by rw [ks_all hl]; exact h2⟩
      rcases Nat.lt_or_ge n 15 with h | h
      · exact h
      · exfalso
        have hn15 : n = 15 := by omega
        subst hn15
        rw [if_neg (by omega)] at h1
        have h3 := fs_end l 15 (by omega) (by omega)
        rw [ks_all hl] at h3
        simp at h3 h2
        omega
    have hmin : ∃ m, n < m ∧ m ≤ 15 ∧ v * 2 ^ (15 - n) < ks l m ∧ ∀ q, n < q → q < m → ks l q ≤ v * 2 ^ (15 - n) := by
      obtain ⟨m, a1, a2, a3⟩ := hex
      have key : ∀ m, n < m → m ≤ 15 → v * 2 ^ (15 - n) < ks l m → ∃ m, n < m ∧ m ≤ 15 ∧ v * 2 ^ (15 - n) < ks l m ∧ ∀ q, n < q → q < m → ks l q ≤ v * 2 ^ (15 - n) := by
        intro m
        induction m with
        | zero => intro h; omega
        | succ m ih =>
          intro b1 b2 b3
          by_cases hc : n < m ∧ v * 2 ^ (15 - n) < ks l m
          · exact ih hc.1 (by omega) hc.2
          · refine ⟨m + 1, b1, b2, b3, fun q c1 c2 => ?_⟩
            have : ks l q ≤ ks l m := ks_mono l (by omega)
            have h5 : ¬ v * 2 ^ (15 - n) < ks l m := fun h => hc ⟨by omega, h⟩
            omega
      exact key m a1 a2 a3
    obtain ⟨m, m1, m2, m3, m4⟩ := hmin
    have hlow : ks l (m - 1) ≤ v * 2 ^ (15 - n) := by
      rcases Nat.lt_or_ge n (m - 1) with h | h
      · exact m4 (m - 1) h (by omega)
      · have hmn : m - 1 = n := by omega
        rw [hmn]
        rcases Nat.eq_zero_or_pos n with h0 | h0
        · subst h0; rw [ks_zero]; exact Nat.zero_le _
        · rw [if_neg (by omega)] at h1
          rw [← fs_end l n h0 hn]
          exact Nat.mul_le_mul_right _ h1
    have hstep : ks l m = ks l (m - 1) + cn l m * 2 ^ (15 - m) := by
      obtain ⟨q, rfl⟩ : ∃ q, m = q + 1 := ⟨m - 1, by omega⟩
      exact ks_succ l q
    have hfe := fs_end l m (by omega) m2
    -- the code of length m that begins with v and goes on with zeros
    have hp : v * 2 ^ (15 - n) = v * 2 ^ (m - n) * 2 ^ (15 - m) := by
      rw [Nat.mul_assoc, ← Nat.pow_add, show m - n + (15 - m) = 15 - n from by omega]
    have hpos : 0 < 2 ^ (15 - m) := Nat.pow_pos (by decide)
    have g1 : fs l m ≤ v * 2 ^ (m - n) := by
      have : fs l m * 2 ^ (15 - m) ≤ v * 2 ^ (m - n) * 2 ^ (15 - m) := by
        rw [← hp]
        rw [Nat.add_mul] at hfe
        omega
      exact Nat.le_of_mul_le_mul_right this hpos
    have g2 : v * 2 ^ (m - n) < fs l m + cn l m := by
      have : v * 2 ^ (m - n) * 2 ^ (15 - m) < (fs l m + cn l m) * 2 ^ (15 - m) := by rw [← hp, hfe]; exact m3
      exact Nat.lt_of_mul_lt_mul_right this
    obtain ⟨i, hi, hc⟩ := cd_surj (show m ≠ 0 by omega) g1 g2
    refine ⟨i, m, hi, m1, ?_⟩
    rw [hc, Nat.mul_div_cancel _ (Nat.pow_pos (by decide))]
end Go.Hf
namespace Go.Vx
open Go
set_option linter.all false
variable [W0]
section
variable {P : Program} {n : Nat} {M : List (Nat × Value)} {L : List Chunk} {d : Nat} {ty : TypeId} {ps : String} {af : Array Edge} {g : Option (Nat × Bool)} {x y : Operand}
theorem EV_shl64 {t u : TypeId} {k' : IntKind} {i j : Int} (a s : Nat) (hx : ev M x = some (.int .i64 i)) (hy : ev M y = some (.int k' j)) (hi : i = (a : Int)) (hj : j = (s : Int)) (hs : s ≤ 64) (hr : a * 2 ^ s ≤ 9223372036854775807) :
    EV P n ⟨some d, .binOp .shl t x y u, ty, ps, af, g⟩ M L d (.int .i64 ((a * 2 ^ s : Nat) : Int)) := by
  subst hi hj
  refine EV_shl hx hy (by omega) ?_
  rw [Int.toNat_natCast, Nat.min_eq_left (by simpa [IntKind.bits] using hs)]
  have c : (a : Int) * 2 ^ s = ((a * 2 ^ s : Nat) : Int) := by simp
  rw [c]
  exact wrap_i64 (by omega) (by omega)
end
omit [W0] in
/-- Words as cells, by their numbers. -/
def wnv (l : List Nat) : List Value := l.map fun (n : Nat) => Value.int .u32 (n : Int)
theorem wnv_length {l : List Nat} : (wnv l).length = l.length := by simp [wnv]
theorem wnv_ones {l : List Nat} : ones (wnv l) = true := by simp [ones, wnv, Value.oneCell']
theorem wnv_get {l : List Nat} {i n : Nat} (h : l[i]? = some n) : (wnv l)[i]? = some (.int .u32 (n : Int)) := by simp [wnv, h]
theorem ints_get {l : List Int} {i : Nat} (h : i < l.length) : (intsN l)[i]? = some (.int .i64 (l.getD i 0)) := by simp [intsN, List.getD, h]
end Go.Vx
namespace Go.Hf
def okL (ls : List Int) : Bool := ls.all fun x => decide (0 ≤ x) && decide (x ≤ 15)
def nl (ls : List Int) : List Nat := ls.map Int.toNat
def wgt (ls : List Int) : Int := if okL ls then (kS (nl ls) : Int) else -1
theorem nl_length (ls : List Int) : (nl ls).length = ls.length := by simp [nl]
theorem okL_take {ls : List Int} {i : Nat} (hi : i < ls.length) (h : okL (ls.take i) = true) (h1 : 0 ≤ ls.getD i 0) (h2 : ls.getD i 0 ≤ 15) : okL (ls.take (i + 1)) = true := by
  have hg : ls.getD i 0 = ls[i] := by simp [List.getD, hi]
  rw [hg] at h1 h2
  unfold okL at *
  rw [List.take_add_one, List.getElem?_eq_getElem hi, List.all_append, h]
  simp [h1, h2]
theorem okL_bad {ls : List Int} {i : Nat} (hi : i < ls.length) (h : ls.getD i 0 < 0 ∨ 15 < ls.getD i 0) : okL ls = false := by
  have hg : ls.getD i 0 = ls[i] := by simp [List.getD, hi]
  rw [hg] at h
  unfold okL
  rw [List.all_eq_false]
  refine ⟨ls[i], List.getElem_mem hi, ?_⟩
  simp only [Bool.and_eq_true, decide_eq_true_eq]
  omega
theorem okL_mem {ls : List Int} (h : okL ls = true) {x : Int} (hx : x ∈ ls) : 0 ≤ x ∧ x ≤ 15 := by
  have := List.all_eq_true.1 h x hx
  simpa using this
theorem okL_nl {ls : List Int} (h : okL ls = true) {x : Nat} (hx : x ∈ nl ls) : x ≤ 15 := by
  obtain ⟨y, hy, rfl⟩ := List.mem_map.1 hx
  have := okL_mem h hy
  omega
theorem okL_at {ls : List Int} (h : okL ls = true) (i : Nat) : 0 ≤ ls.getD i 0 ∧ ls.getD i 0 ≤ 15 ∧ ((nl ls).getD i 0 : Int) = ls.getD i 0 := by
  rcases Nat.lt_or_ge i ls.length with hi | hi
  · have hg : ls.getD i 0 = ls[i] := by simp [List.getD, hi]
    have hg2 : (nl ls).getD i 0 = ls[i].toNat := by simp [nl, List.getD, hi]
    have := okL_mem h (List.getElem_mem hi)
    rw [hg, hg2]
    omega
  · have hg : ls.getD i 0 = 0 := by simp [List.getD, List.getElem?_eq_none hi]
    have hg2 : (nl ls).getD i 0 = 0 := by simp [nl, List.getD, List.getElem?_eq_none hi]
    rw [hg, hg2]
    omega
end Go.Hf
namespace Go.Proofs.YtfbeigbkdkiliaaGreatDoor
open Go Go.Vx Go.Hf
variable [W0]
set_option maxRecDepth 4000
set_option linter.all false
omit [W0] in
/-- Numbers as integers. -/
def icn (l : List Nat) : List Int := l.map fun (n : Nat) => (n : Int)
theorem icn_length (l : List Nat) : (icn l).length = l.length := by simp [icn]
end Go.Proofs.YtfbeigbkdkiliaaGreatDoor
namespace Go.Hf
set_option linter.all false
def cdE (ls : List Int) : Nat := if 400 < ls.length ∨ okL ls = false then 1 else if 32768 < kS (nl ls) then 3 else 0
def cdL (ls : List Int) : List Nat := if cdE ls = 0 then cds (nl ls) else []
theorem cdE_one {ls : List Int} (h : 400 < ls.length ∨ okL ls = false) : cdE ls = 1 ∧ cdL ls = [] := by
  have e : cdE ls = 1 := if_pos h
  exact ⟨e, by unfold cdL; rw [e]; rfl⟩
theorem cdE_three {ls : List Int} (h1 : ls.length ≤ 400) (h2 : okL ls = true) (h3 : 32768 < kS (nl ls)) : cdE ls = 3 ∧ cdL ls = [] := by
  have e : cdE ls = 3 := by unfold cdE; rw [if_neg (by rw [h2]; simp; omega), if_pos h3]
  exact ⟨e, by unfold cdL; rw [e]; rfl⟩
theorem cdE_zero {ls : List Int} (h1 : ls.length ≤ 400) (h2 : okL ls = true) (h3 : kS (nl ls) ≤ 32768) : cdE ls = 0 ∧ cdL ls = cds (nl ls) := by
  have e : cdE ls = 0 := by unfold cdE; rw [if_neg (by rw [h2]; simp; omega), if_neg (by omega)]
  exact ⟨e, by unfold cdL; rw [e]; rfl⟩
theorem cdE_inv {ls : List Int} (h : cdE ls = 0) : ls.length ≤ 400 ∧ okL ls = true ∧ kS (nl ls) ≤ 32768 := by
  unfold cdE at h
  split at h
  · omega
  · rename_i h1
    split at h
    · omega
    · refine ⟨by omega, ?_, by omega⟩
      cases ho : okL ls with
      | true => rfl
      | false => exact absurd (.inr ho) h1
def nx (l : List Nat) (n : Nat) : Nat := fs l (n - 1) + if n - 1 = 0 then 0 else cn l (n - 1)
theorem cn_take_succ {l : List Nat} {j : Nat} (hj : j < l.length) (n : Nat) : cn (l.take (j + 1)) n = cn (l.take j) n + if l.getD j 0 = n then 1 else 0 := by
  have hg : l.getD j 0 = l[j] := by simp [List.getD, hj]
  rw [List.take_add_one, List.getElem?_eq_getElem hj, cn_app, hg]
  congr 1
  simp only [Option.toList, cn_cons]
  simp [cn]
end Go.Hf
namespace Go.Hf
set_option linter.all false
def hit (l : List Nat) (n v i : Nat) : Bool := l.getD i 0 == n && decide (0 < n) && cd l i == v
def far (l : List Nat) (n v i : Nat) : Bool := decide (n < l.getD i 0) && cd l i / 2 ^ (l.getD i 0 - n) == v
def symAt (l : List Nat) (n v : Nat) : Option Nat := (List.range l.length).find? (hit l n v)
def extB (l : List Nat) (n v : Nat) : Bool := (List.range l.length).any (far l n v)
def hv (w t : Nat) : Nat → Nat
  | 0 => 0
  | n + 1 => 2 * hv w t n + w / 2 ^ (t + n) % 2
def rdS (l : List Nat) (w t z : Nat) : Nat → Nat → Nat × Nat × Nat
  | 0, n => (0, 3, n)
  | f + 1, n => match symAt l n (hv w t n) with
    | some i => (i, 0, n)
    | none => if extB l n (hv w t n) = false then (0, 3, n) else if z ≤ t + n then (0, 4, n) else rdS l w t z f (n + 1)
theorem hv_lt (w t : Nat) : ∀ n, hv w t n < 2 ^ n
  | 0 => by simp [hv]
  | n + 1 => by
    have := hv_lt w t n
    simp only [hv, Nat.pow_succ]
    omega
theorem find_range {f : Nat → Bool} {i n : Nat} (hi : i < n) (h : f i = true) (hb : ∀ j, j < i → f j = false) : (List.range n).find? f = some i := by
  obtain ⟨m, rfl⟩ := Nat.le.dest hi
  rw [show i + 1 + m = i + (1 + m) from by omega, List.range_add, List.find?_append]
  have h1 : (List.range i).find? f = none := by
    rw [List.find?_eq_none]
    intro j hj
    rw [hb j (List.mem_range.1 hj)]
    simp
  rw [h1, Nat.add_comm 1 m, List.range_succ_eq_map]
  simp [h]
theorem find_none {f : Nat → Bool} {n : Nat} (hb : ∀ j, j < n → f j = false) : (List.range n).find? f = none := by
  rw [List.find?_eq_none]
  intro j hj
  rw [hb j (List.mem_range.1 hj)]
  simp
theorem getD_lt {l : List Nat} {i : Nat} (h : 0 < l.getD i 0) : i < l.length := by
  rcases Nat.lt_or_ge i l.length with h' | h'
  · exact h'
  · simp [List.getD, List.getElem?_eq_none h'] at h
end Go.Hf
namespace Go.Hf
open Go.Vx Go.Pm
set_option linter.all false
theorem hit_iff {l : List Nat} {n v i : Nat} : hit l n v i = true ↔ l.getD i 0 = n ∧ 0 < n ∧ cd l i = v := by
  simp [hit, and_assoc]
theorem getD_some {l : List Nat} {i n : Nat} (h : l.getD i 0 = n) (h0 : 0 < n) : l[i]? = some n := by
  have hi := getD_lt (l := l) (i := i) (by omega)
  rw [← h]
  simp [List.getD, hi]
theorem symAt_some {l : List Nat} {i n : Nat} (hi : l[i]? = some n) (h0 : 0 < n) : symAt l n (cd l i) = some i := by
  have hg : l.getD i 0 = n := by simp [List.getD, hi]
  have hl := getD_lt (l := l) (i := i) (by omega)
  refine find_range hl (hit_iff.2 ⟨hg, h0, rfl⟩) fun j hj => ?_
  cases hh : hit l n (cd l i) j with
  | false => rfl
  | true =>
    obtain ⟨h1, h2, h3⟩ := hit_iff.1 hh
    have := cd_inj (getD_some h1 h2) hi (by omega) h3
    omega
theorem symAt_none {l : List Nat} {n v : Nat} (h : v < fs l n ∨ fs l n + cn l n ≤ v) : symAt l n v = none := by
  refine find_none fun j hj => ?_
  cases hh : hit l n v j with
  | false => rfl
  | true =>
    obtain ⟨h1, h2, h3⟩ := hit_iff.1 hh
    have := cd_in (getD_some h1 h2) (by omega)
    omega
theorem symAt_none0 {l : List Nat} {v : Nat} : symAt l 0 v = none := by
  refine find_none fun j hj => ?_
  simp [hit]
theorem extB_iff {l : List Nat} {n v : Nat} : extB l n v = true ↔ ext l n v := by
  unfold extB ext
  rw [List.any_eq_true]
  constructor
  · rintro ⟨i, hi, hf⟩
    simp only [far, Bool.and_eq_true, decide_eq_true_eq, beq_iff_eq] at hf
    exact ⟨i, l.getD i 0, getD_some rfl (by omega), hf.1, hf.2⟩
  · rintro ⟨i, m, hi, hm, he⟩
    have hg : l.getD i 0 = m := by simp [List.getD, hi]
    refine ⟨i, List.mem_range.2 (getD_lt (by omega)), ?_⟩
    simp only [far, hg, Bool.and_eq_true, decide_eq_true_eq, beq_iff_eq]
    exact ⟨hm, he⟩
end Go.Hf
