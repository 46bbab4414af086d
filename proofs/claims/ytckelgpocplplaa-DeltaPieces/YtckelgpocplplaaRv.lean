/- Pure facts on deltas that are made: copies as numbers, inserted pieces, what two texts share. It proves no statement by itself. No conditions. -/
import Derived.Test.YtckelgpocplplaaRh
set_option linter.all false
namespace Go.Dl
/-- Byte k of a number. -/
def byN (v k : Nat) : Nat := v / 2 ^ (8 * k) % 256
/-- Which of the first k bytes of v are not nought. -/
def msk : Nat → Nat → Nat
  | 0, _ => 0
  | k + 1, v => msk k v + (if byN v k = 0 then 0 else 2 ^ k)
/-- Those bytes. -/
def bts : Nat → Nat → List UInt8
  | 0, _ => []
  | k + 1, v => bts k v ++ (if byN v k = 0 then [] else [UInt8.ofNat (byN v k)])
theorem msk_lt : ∀ k v, msk k v < 2 ^ k
  | 0, v => by simp [msk]
  | k + 1, v => by
    have := msk_lt k v
    rw [msk, Nat.pow_succ]
    split <;> omega
theorem fd_bts : ∀ (k v : Nat) (r : List UInt8), fd (msk k v) k (bts k v ++ r) = some (v % 2 ^ (8 * k), r)
  | 0, v, r => by simp [fd, bts, Nat.mod_one]
  | k + 1, v, r => by
    have hlt := msk_lt k v
    have h256 : 256 ^ k = 2 ^ (8 * k) := by rw [Nat.pow_mul]
    have hm : v % 2 ^ (8 * (k + 1)) = v % 2 ^ (8 * k) + 2 ^ (8 * k) * byN v k := by
      rw [show 8 * (k + 1) = 8 * k + 8 from by omega, Nat.pow_add, Nat.mod_mul]; rfl
    rw [fd_split k 1]
    by_cases hz : byN v k = 0
    · have e1 : msk (k + 1) v = msk k v := by rw [msk, if_pos hz]; rfl
      have e2 : bts (k + 1) v = bts k v := by rw [bts, if_pos hz, List.append_nil]
      have e3 : msk k v / 2 ^ k = 0 := Nat.div_eq_of_lt hlt
      rw [e1, e2, fd_bts k v r, e3, hm, hz]
      simp [fd]
    · have e1 : msk (k + 1) v = msk k v + 2 ^ k := by rw [msk, if_neg hz]
      have e2 : bts (k + 1) v ++ r = bts k v ++ (UInt8.ofNat (byN v k) :: r) := by rw [bts, if_neg hz, List.append_assoc]; rfl
      have e3 : (msk k v + 2 ^ k) / 2 ^ k = 1 := by
        rw [Nat.add_div_right _ (Nat.pow_pos (by decide)), Nat.div_eq_of_lt hlt]
      have e4 : fd (msk k v + 2 ^ k) k (bts k v ++ (UInt8.ofNat (byN v k) :: r)) = some (v % 2 ^ (8 * k), UInt8.ofNat (byN v k) :: r) := by
        rw [← fd_bts k v]
        refine fd_mod k _ _ _ ?_
        rw [Nat.add_mod_right]
      have e5 : (UInt8.ofNat (byN v k)).toNat = byN v k := by simp [byN]
      rw [e1, e2, e4, e3, hm]
      simp [fd, h256, e5]
theorem bts_len1 (k v : Nat) : (bts (k + 1) v).length ≤ (bts k v).length + 1 := by
  rw [bts]; split <;> simp
theorem bts_len0 {k v : Nat} (h : byN v k = 0) : (bts (k + 1) v).length = (bts k v).length := by
  rw [bts, if_pos h]; simp
/-- A copy as a number. -/
def cpV (v : Nat) : List UInt8 := UInt8.ofNat (128 + msk 7 v) :: bts 7 v
theorem cpV_len {v : Nat} (h3 : byN v 3 = 0) (h6 : byN v 6 = 0) : (cpV v).length ≤ 6 := by
  have l0 : (bts 0 v).length = 0 := rfl
  have l1 : (bts 1 v).length ≤ (bts 0 v).length + 1 := bts_len1 0 v
  have l2 : (bts 2 v).length ≤ (bts 1 v).length + 1 := bts_len1 1 v
  have l3 : (bts 3 v).length ≤ (bts 2 v).length + 1 := bts_len1 2 v
  have l4 : (bts 4 v).length = (bts 3 v).length := bts_len0 h3
  have l5 : (bts 5 v).length ≤ (bts 4 v).length + 1 := bts_len1 4 v
  have l6 : (bts 6 v).length ≤ (bts 5 v).length + 1 := bts_len1 5 v
  have l7 : (bts 7 v).length = (bts 6 v).length := bts_len0 h6
  have hl : (cpV v).length = (bts 7 v).length + 1 := List.length_cons
  omega
theorem cpV_len' {v : Nat} (h3 : byN v 3 = 0) (h4 : byN v 4 = 0) (h5 : byN v 5 = 0) (h6 : byN v 6 = 0) : (cpV v).length ≤ 4 := by
  have l0 : (bts 0 v).length = 0 := rfl
  have l1 : (bts 1 v).length ≤ (bts 0 v).length + 1 := bts_len1 0 v
  have l2 : (bts 2 v).length ≤ (bts 1 v).length + 1 := bts_len1 1 v
  have l3 : (bts 3 v).length ≤ (bts 2 v).length + 1 := bts_len1 2 v
  have l4 : (bts 4 v).length = (bts 3 v).length := bts_len0 h3
  have l5 : (bts 5 v).length = (bts 4 v).length := bts_len0 h4
  have l6 : (bts 6 v).length = (bts 5 v).length := bts_len0 h5
  have l7 : (bts 7 v).length = (bts 6 v).length := bts_len0 h6
  have hl : (cpV v).length = (bts 7 v).length + 1 := List.length_cons
  omega
theorem cpV_mk {base : List UInt8} {v a n : Nat} (e1 : v < 2 ^ (8 * 7)) (e2 : v % 4294967296 = a) (e3 : v / 4294967296 = n % 65536) (h0 : 0 < n) (hn : n ≤ 65536) (hl : a + n ≤ base.length) : Mk base (cpV v) ((base.drop a).take n) := fun to pre rest hp => by
  have hm := msk_lt 7 v
  have h1 : (UInt8.ofNat (128 + msk 7 v)).toNat = 128 + msk 7 v := by simp; omega
  have hw : (if n % 65536 = 0 then 65536 else n % 65536) = n := by split <;> omega
  have hf : fd (128 + msk 7 v) 7 (bts 7 v ++ rest) = some (v, rest) := by
    have h := fd_bts 7 v rest
    rw [Nat.mod_eq_of_lt e1] at h
    rw [← h]
    refine fd_mod 7 _ _ _ ?_
    omega
  have hlen : ((base.drop a).take n).length = n := by simp; omega
  rw [hlen] at hp
  have e : cpV v ++ rest = UInt8.ofNat (128 + msk 7 v) :: (bts 7 v ++ rest) := rfl
  rw [e, List.length_cons]
  rw [ap_copy _ _ _ _ _ _ (by rw [h1]; omega), h1, hf]
  simp only [e2, e3, hw]
  rw [if_neg (by omega)]
  exact ap_fuel _ _ _ _ _ _ (by simp) (by omega)
/-- The number of a copy of n bytes at a. -/
def CpN (v a n : Nat) : Prop := v = a + n % 65536 * 4294967296
theorem CpN.mk {base : List UInt8} {v a n : Nat} (h : CpN v a n) (ha : a < 16777216) (h0 : 0 < n) (hn : n ≤ 65536) (hl : a + n ≤ base.length) : Mk base (cpV v) ((base.drop a).take n) := by
  unfold CpN at h
  exact cpV_mk (by omega) (by omega) (by omega) h0 hn hl
theorem CpN.len {v a n : Nat} (h : CpN v a n) (ha : a < 16777216) : (cpV v).length ≤ 6 := by
  unfold CpN at h
  exact cpV_len (by unfold byN; omega) (by unfold byN; omega)
theorem CpN.len4 {v a : Nat} (h : CpN v a 65536) (ha : a < 16777216) : (cpV v).length ≤ 4 := by
  unfold CpN at h
  have h2 : v = a := by omega
  exact cpV_len' (by unfold byN; omega) (by unfold byN; omega) (by unfold byN; omega) (by unfold byN; omega)
/-- A piece inserted. -/
def inB (xs : List UInt8) : List UInt8 := UInt8.ofNat xs.length :: xs
theorem take_piece (l : List UInt8) (a n : Nat) : l.take (a + n) = l.take a ++ (l.drop a).take n := List.take_add
theorem Mk.more {base D out E xs : List UInt8} (h : Mk base D out) (g : Mk base E xs) {res : List UInt8} (e : res = out ++ xs) : Mk base (D ++ E) res := by
  rw [e]; exact h.app g
/-- How many bytes are the same from the beginning on. -/
def cm : List UInt8 → List UInt8 → Nat
  | x :: a, y :: b => if x = y then cm a b + 1 else 0
  | _, _ => 0
theorem cm_nil (b : List UInt8) : cm [] b = 0 := rfl
theorem cm_nil' (a : List UInt8) : cm a [] = 0 := by cases a <;> rfl
theorem cm_le : ∀ a b : List UInt8, cm a b ≤ a.length ∧ cm a b ≤ b.length
  | [], b => by simp [cm]
  | x :: a, [] => by simp [cm]
  | x :: a, y :: b => by
    have := cm_le a b
    rw [cm]; split <;> simp <;> omega
theorem cm_take : ∀ a b : List UInt8, a.take (cm a b) = b.take (cm a b)
  | [], b => by simp [cm]
  | x :: a, [] => by simp [cm]
  | x :: a, y :: b => by
    have := cm_take a b
    rw [cm]; split
    · rename_i h; subst h; simp [this]
    · simp
theorem cm_ge : ∀ (k : Nat) (a b : List UInt8), k ≤ a.length → k ≤ b.length → a.take k = b.take k → k ≤ cm a b
  | 0, a, b, _, _, _ => Nat.zero_le _
  | k + 1, [], b, h, _, _ => by simp at h
  | k + 1, x :: a, [], _, h, _ => by simp at h
  | k + 1, x :: a, y :: b, h1, h2, h => by
    simp only [List.take_succ_cons, List.cons.injEq] at h
    rw [cm, if_pos h.1]
    have := cm_ge k a b (by simpa using h1) (by simpa using h2) h.2
    omega
/-- The block's number. -/
def bnN (l : List UInt8) : Nat := l.foldl (fun n x => n * 256 + x.toNat) 0
theorem bnN_snoc (l : List UInt8) (x : UInt8) : bnN (l ++ [x]) = bnN l * 256 + x.toNat := by simp [bnN]
theorem bnF_lt : ∀ (l : List UInt8) (n k : Nat), n < 2 ^ (8 * k) → l.foldl (fun n x => n * 256 + x.toNat) n < 2 ^ (8 * (k + l.length))
  | [], n, k, h => h
  | x :: l, n, k, h => by
    have hx := x.toNat_lt
    have := bnF_lt l (n * 256 + x.toNat) (k + 1) (by rw [Nat.mul_add, Nat.pow_add]; omega)
    rw [List.foldl_cons, List.length_cons, show k + (l.length + 1) = k + 1 + l.length from by omega]
    exact this
theorem bnN_lt (l : List UInt8) : bnN l < 2 ^ (8 * l.length) := by
  have := bnF_lt l 0 0 (by decide)
  rwa [Nat.zero_add] at this
theorem bnN_inj : ∀ (k : Nat) (a b : List UInt8), a.length = k → b.length = k → bnN a = bnN b → a = b
  | 0, a, b, h1, h2, _ => by rw [List.eq_nil_of_length_eq_zero h1, List.eq_nil_of_length_eq_zero h2]
  | k + 1, a, b, h1, h2, h => by
    have ha : a ≠ [] := by intro e; rw [e] at h1; simp at h1
    have hb : b ≠ [] := by intro e; rw [e] at h2; simp at h2
    obtain ⟨a', x, rfl⟩ : ∃ a' x, a = a' ++ [x] := ⟨a.dropLast, a.getLast ha, (List.dropLast_concat_getLast ha).symm⟩
    obtain ⟨b', y, rfl⟩ : ∃ b' y, b = b' ++ [y] := ⟨b.dropLast, b.getLast hb, (List.dropLast_concat_getLast hb).symm⟩
    rw [bnN_snoc, bnN_snoc] at h
    have hx := x.toNat_lt
    have hy := y.toNat_lt
    have e1 : bnN a' = bnN b' := by omega
    have e2 : x = y := UInt8.toNat_inj.1 (by omega)
    rw [e2, bnN_inj k a' b' (by simpa using h1) (by simpa using h2) e1]
/-- A match: a piece of the base that the target has, some of it ahead of a place. -/
structure MtOk (base before after : List UInt8) (f s bf : Nat) : Prop where
  adv : 8 ≤ s - bf
  inb : f + s ≤ base.length
  bfs : bf ≤ s
  bfl : bf ≤ before.length
  afl : s - bf ≤ after.length
  eq : (base.drop f).take s = before.drop (before.length - bf) ++ after.take (s - bf)
theorem rev_take (l : List UInt8) (k : Nat) : (l.reverse.take k).reverse = l.drop (l.length - k) := by
  rw [List.take_reverse, List.reverse_reverse]
/-- What lies round a place in both texts. -/
theorem mt_at {base before after : List UInt8} {a : Nat} (h8 : a + 8 ≤ base.length) (ha : 8 ≤ after.length) (he : (base.drop a).take 8 = after.take 8) :
    MtOk base before after (a - cm (base.take a).reverse before.reverse) (cm (base.take a).reverse before.reverse + cm (base.drop a) after) (cm (base.take a).reverse before.reverse) := by
  have h1 := cm_le (base.take a).reverse before.reverse
  have h2 := cm_le (base.drop a) after
  have h3 := cm_take (base.take a).reverse before.reverse
  have h4 := cm_take (base.drop a) after
  have h5 := cm_ge 8 (base.drop a) after (by rw [List.length_drop]; omega) ha he
  have h6 := congrArg List.reverse h3
  rw [rev_take, rev_take] at h6
  simp only [List.length_reverse, List.length_take, List.length_drop] at h1 h2 h6
  generalize cm (base.take a).reverse before.reverse = n at *
  generalize cm (base.drop a) after = m at *
  rw [Nat.min_eq_left (by omega)] at h1 h6
  refine ⟨by omega, by omega, by omega, h1.2, by omega, ?_⟩
  rw [show n + m - n = m from by omega, ← h4, ← h6]
  rw [show base.drop (a - n) = (base.drop (a - n)).take n ++ (base.drop (a - n)).drop n from (List.take_append_drop _ _).symm]
  have e1 : (base.drop (a - n)).drop n = base.drop a := by rw [List.drop_drop]; congr 1; omega
  have e2 : (base.take a).drop (a - n) = (base.drop (a - n)).take n := by rw [List.drop_take]; congr 1; omega
  have e3 : ((base.drop (a - n)).take n).length = n := by rw [List.length_take, List.length_drop]; omega
  rw [e1, e2, List.take_append, e3, List.take_of_length_le (by rw [e3]; omega), show n + m - n = m from by omega]
end Go.Dl

namespace Go.Dl
theorem mt_piece {t : List UInt8} {dn at_ bf s : Nat} (h1 : dn ≤ at_) (h2 : at_ ≤ t.length) (h3 : bf ≤ at_ - dn) (h4 : bf ≤ s) :
    ((t.drop dn).take (at_ - dn)).drop ((at_ - dn) - bf) ++ (t.drop at_).take (s - bf) = (t.drop (at_ - bf)).take s := by
  have e1 : ((t.drop dn).take (at_ - dn)).drop ((at_ - dn) - bf) = (t.drop (at_ - bf)).take bf := by
    rw [List.drop_take, List.drop_drop, show dn + (at_ - dn - bf) = at_ - bf from by omega, show at_ - dn - (at_ - dn - bf) = bf from by omega]
  have e2 : t.drop at_ = (t.drop (at_ - bf)).drop bf := by rw [List.drop_drop, show at_ - bf + bf = at_ from by omega]
  rw [e1, e2, ← take_piece, show bf + (s - bf) = s from by omega]
theorem mt_bound {d dn k i s c n : Nat} (h1 : d ≤ dn + dn / 127) (hk : i ≤ k + (k + 126) / 127) (hc : c ≤ 4 * (s / 65536) + 6) (hs : 8 ≤ s) (hn : n = dn + k + s) : d + i + c ≤ n + n / 127 := by
  subst hn
  omega
theorem mt_last {d dn i n : Nat} (h1 : d ≤ dn + dn / 127) (hl : dn ≤ n) (hi : i ≤ (n - dn) + (n - dn + 126) / 127) : d + i ≤ n + n / 127 + 1 := by
  omega
end Go.Dl
