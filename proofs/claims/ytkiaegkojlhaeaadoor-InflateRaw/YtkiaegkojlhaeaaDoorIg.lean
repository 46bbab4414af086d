/- Package inflate: bits, bytes, numbers, lengths and distances. It proves no statement by itself. No conditions. -/
import Derived.Test.YtkiaegkojlhaeaaDoorIo
import Derived.Test.YtkiaegkojlhaeaaDoorZe
namespace Go.If
open Go.Vx Go.Hf
set_option linter.all false
theorem tk_ok {d : List UInt8} {s : S6} {n : Nat} (h : s.t + n ≤ 8 * d.length) : tk d s n = ⟨s.t + n, s.out, s.e⟩ := by unfold tk; rw [if_pos h]
theorem tk_no {d : List UInt8} {s : S6} {n : Nat} (h : ¬ s.t + n ≤ 8 * d.length) (he : s.e = 0) : tk d s n = ⟨s.t, s.out, 4⟩ := by unfold tk fl; rw [if_neg h, if_pos he]
theorem tv_ok [W0] {d : List UInt8} {s : S6} {n : Nat} (h : s.t + n ≤ 8 * d.length) : tv d s n = val d / 2 ^ s.t % 2 ^ n := by unfold tv; rw [if_pos h]
theorem tv_zero [W0] (d : List UInt8) (s : S6) : tv d s 0 = 0 := by unfold tv; split <;> simp [Nat.mod_one]
theorem tk_zero {d : List UInt8} {s : S6} (h : s.t ≤ 8 * d.length) : tk d s 0 = s := by unfold tk; rw [if_pos (by omega)]; rfl
def spF (n st : Nat) : Nat := if n < 2 * st then n else (st + n % st) * 2 ^ (n / st - 1)
def spX (n st : Nat) : Nat := if n < 2 * st then 0 else n / st - 1
theorem sp_len : ∀ t, t < 28 → 3 + spF t 4 = baB 3 4 8 t ∧ spX t 4 = exB t 4 8 := by decide
theorem sp_dst : ∀ t, t < 30 → 1 + spF t 2 = baB 1 2 4 t ∧ spX t 2 = exB t 2 4 := by decide
/-- Behind a length's symbol. -/
def lnS (d : List UInt8) (k : Nat) (s : S6) : S6 := if 285 < k then fl s 3 else tk d s (lnB k).2
/-- A distance. -/
def dsS [W0] (d : List UInt8) (dl : List Nat) (s : S6) : S6 := if (sy d s dl).e ≠ 0 then sy d s dl else if 29 < sv d s dl then fl (sy d s dl) 3 else tk d (sy d s dl) (exB (sv d s dl) 2 4)
def dsV [W0] (d : List UInt8) (dl : List Nat) (s : S6) : Nat := baB 1 2 4 (sv d s dl) + tv d (sy d s dl) (exB (sv d s dl) 2 4)
theorem fl_err {s : S6} {k : Nat} (h : s.e ≠ 0) : fl s k = s := by unfold fl; rw [if_neg h]
theorem sy_err [W0] {d : List UInt8} {s : S6} {l : List Nat} (h : s.e ≠ 0) : sy d s l = s := by unfold sy; rw [if_neg h]
theorem cpL_err {most far : Nat} {s : S6} (h : s.e ≠ 0) : ∀ n, cpL most far n s = s
  | 0 => rfl
  | n + 1 => by rw [cpL, if_neg h]
theorem mtS_over [W0] {d : List UInt8} {most k : Nat} {dl : List Nat} {s : S6} (h : 285 < k) : mtS d most k dl s = fl s 3 := by unfold mtS; rw [if_pos h]
theorem mtS_err1 [W0] {d : List UInt8} {most k : Nat} {dl : List Nat} {s : S6} (h : (lnS d k s).e ≠ 0) : (mtS d most k dl s).e = (lnS d k s).e := by
  unfold lnS at h ⊢
  unfold mtS
  split
  · rfl
  · rename_i h2
    rw [if_neg h2] at h
    rw [sy_err h, if_pos h]
theorem mtS_err2 [W0] {d : List UInt8} {most k : Nat} {dl : List Nat} {s : S6} (h1 : ¬ 285 < k) (h : (dsS d dl (tk d s (lnB k).2)).e ≠ 0) : (mtS d most k dl s).e = (dsS d dl (tk d s (lnB k).2)).e := by
  unfold dsS at h ⊢
  unfold mtS
  rw [if_neg h1]
  split
  · rfl
  · rename_i h2
    rw [if_neg h2] at h
    split
    · rfl
    · rename_i h3
      rw [if_neg h3] at h
      unfold mtD
      rw [if_neg (fun hh => h hh.1), cpL_err h]
theorem mtS_ok [W0] {d : List UInt8} {most k : Nat} {dl : List Nat} {s : S6} (h1 : ¬ 285 < k) (h : (dsS d dl (tk d s (lnB k).2)).e = 0) :
    mtS d most k dl s = cpL most (dsV d dl (tk d s (lnB k).2)) ((lnB k).1 + tv d s (lnB k).2) (if (dsS d dl (tk d s (lnB k).2)).out.length < dsV d dl (tk d s (lnB k).2) then fl (dsS d dl (tk d s (lnB k).2)) 3 else dsS d dl (tk d s (lnB k).2)) := by
  unfold dsS at h ⊢
  unfold mtS dsV
  rw [if_neg h1]
  split
  · rename_i h2; rw [if_pos h2] at h; exact absurd h h2
  · rename_i h2
    rw [if_neg h2] at h
    split
    · rename_i h3
      rw [if_pos h3, fl_e] at h
      split at h
      · cases h
      · exact absurd h (by assumption)
    · rename_i h3
      rw [if_neg h3] at h
      unfold mtD
      simp only [h, true_and]
theorem pt_ok {most : Nat} {s : S6} {c : UInt8} (h : s.out.length < most) : pt most s c = ⟨s.t, s.out ++ [c], s.e⟩ := by unfold pt; rw [if_neg (by omega)]
theorem pt_no {most : Nat} {s : S6} {c : UInt8} (h : most ≤ s.out.length) : pt most s c = fl s 5 := by unfold pt; rw [if_pos h]
theorem cpL_over (most far : Nat) : ∀ n s, s.e = 0 → s.out.length ≤ most → most < s.out.length + n → (cpL most far n s).e = 5
  | 0, s, _, h2, h => by omega
  | n + 1, s, he, h2, h => by
    rw [cpL, if_pos he]
    by_cases h1 : s.out.length < most
    · rw [pt_ok h1]
      exact cpL_over most far n _ he (by simp; omega) (by simp; omega)
    · rw [pt_no (by omega)]
      have : (fl s 5).e = 5 := by rw [fl_e, if_pos he]
      rw [cpL_err (by rw [this]; decide), this]
end Go.If
namespace Go.Proofs.YtkiaegkojlhaeaaDoor
open Go Go.Vx Go.Hf Go.If
variable [W0]
set_option maxRecDepth 4000
set_option linter.all false
omit [W0] in
/-- The program's reader. -/
def rdR (p q : Nat) (v : Value) (most : Nat) (kn : Value) : Chunk := [(p, cl [.pointer (some ⟨q, 0, none⟩), v, .int .i64 (most : Int), kn] 47)]

set_option maxHeartbeats 2000000 in
theorem ptake_n (p q most n : Nat) (v kn : Value) (d : List UInt8) (s : S6) (D E : Chunk) (L : List Chunk) (h : RdN q d s.t D E) (hl : d.length ≤ 140737488355328) (hn : n ≤ 32) (he : s.e = 0) :
    Gv Tryd.prog 33 [.pointer (some ⟨p, 0, none⟩), .int .i64 (n : Int)].toArray (rdR p q v most kn :: D :: E :: L) (fun r L' =>
      ((tk d s n).e ≠ 0 ∧ r = .tuple #[.int .i64 0, .int .i64 ((tk d s n).e : Int)] ∧ L' = L) ∨
      ((tk d s n).e = 0 ∧ r = .tuple #[.int .i64 ((tv d s n : Nat) : Int), .int .i64 0] ∧ ∃ D', RdN q d (tk d s n).t D' E ∧ L' = rdR p q v most kn :: D' :: E :: L)) := by
  refine Gv.of_body Tryd.func33 rfl rfl ?_
  have hbt := take_n q s.t (n : Int) d D E (rdR p q v most kn :: L) h hl
  by_cases hc : s.t + n ≤ 8 * d.length
  · rw [tkB_nat hn hc, (tk_nat hn hc).1, (tk_nat hn hc).2] at hbt
    rw [tk_ok hc, tv_ok hc]
    have hb32 : val d / 2 ^ s.t % 2 ^ n < 2 ^ 32 := Nat.lt_of_lt_of_le (Nat.mod_lt _ (Nat.pow_pos (by decide))) (Nat.pow_le_pow_right (by decide) hn)
    generalize val d / 2 ^ s.t % 2 ^ n = z at hbt hb32 ⊢
    unfold rdR at hbt ⊢
    (repeat' (first | (show WL _ _ _ _ _ _ _; first | refine jA ?_ | refine jB ?_ | refine jC ?_ | refine jD ?_ | refine jE ?_ | refine jF ?_) | (show OW _ _ _ _ _ _; first | refine OW_E ?_ | refine jI ?_ | refine jJ ?_ | refine jK (fun bk => ?_) | refine jL (fun bk => ?_)) | (show WC _ _ _ _ _ _; first | refine jM ?_ | refine jN ?_ | refine jO ?_ | refine jP ?_ | refine jR ?_ | refine jS ?_ | refine jT ?_ | refine jU ?_) | (show WQ _ _ _ _; with_reducible first | refine jV ?_ | refine jW ?_ | refine jX ?_ | refine jY ?_ | refine jZ ?_ | refine kA ?_ | refine kB ?_ | refine kC ?_) | ((first | (refine jG (fun hc => ?_) (fun hc => ?_) <;> rw [hc]) | refine jQ (fun hc => ?_) (fun hc => ?_)) <;> (try simp only [nrB] at hc) <;> (try (exfalso; first | omega | exact hc trivial | exact hc rfl)))))
    refine OW_call rfl rfl rfl (Gv.holds hbt (fun w h => iH h)) rfl (fun r L' hp => ?_)
    obtain ⟨rfl, D', hr, rfl⟩ := hp
    (repeat' (first | (show WL _ _ _ _ _ _ _; first | refine jA ?_ | refine jB ?_ | refine jC ?_ | refine jD ?_ | refine jE ?_ | refine jF ?_) | (show OW _ _ _ _ _ _; first | refine OW_E ?_ | refine jI ?_ | refine jJ ?_ | refine jK (fun bk => ?_) | refine jL (fun bk => ?_)) | (show WC _ _ _ _ _ _; first | refine jM ?_ | refine jN ?_ | refine jO ?_ | refine jP ?_ | refine jR ?_ | refine jS ?_ | refine jT ?_ | refine jU ?_) | (show WQ _ _ _ _; with_reducible first | refine jV ?_ | refine jW ?_ | refine jX ?_ | refine jY ?_ | refine jZ ?_ | refine kA ?_ | refine kB ?_ | refine kC ?_) | ((first | (refine jG (fun hc => ?_) (fun hc => ?_) <;> rw [hc]) | refine jQ (fun hc => ?_) (fun hc => ?_)) <;> (try simp only [nrB] at hc) <;> (try (exfalso; first | omega | exact hc trivial | exact hc rfl)))))
    refine WQ_retI (rs := [.tmp 4, .tmp 5]) (vs := [.int .i64 (z : Int), .int .i64 0]) rfl rfl ?_
    exact ⟨_, iC, .inr ⟨he, rfl, D', hr, rfl⟩⟩
  · have hb0 := tkB_no (d := d) (t := s.t) (n := (n : Int)) (by omega)
    rw [hb0, (Go.Proofs.YtkiaegkojlhaeaaDoor.tk_no hb0).1, (Go.Proofs.YtkiaegkojlhaeaaDoor.tk_no hb0).2] at hbt
    rw [Go.If.tk_no hc he]
    unfold rdR at hbt ⊢
    (repeat' (first | (show WL _ _ _ _ _ _ _; first | refine jA ?_ | refine jB ?_ | refine jC ?_ | refine jD ?_ | refine jE ?_ | refine jF ?_) | (show OW _ _ _ _ _ _; first | refine OW_E ?_ | refine jI ?_ | refine jJ ?_ | refine jK (fun bk => ?_) | refine jL (fun bk => ?_)) | (show WC _ _ _ _ _ _; first | refine jM ?_ | refine jN ?_ | refine jO ?_ | refine jP ?_ | refine jR ?_ | refine jS ?_ | refine jT ?_ | refine jU ?_) | (show WQ _ _ _ _; with_reducible first | refine jV ?_ | refine jW ?_ | refine jX ?_ | refine jY ?_ | refine jZ ?_ | refine kA ?_ | refine kB ?_ | refine kC ?_) | ((first | (refine jG (fun hc => ?_) (fun hc => ?_) <;> rw [hc]) | refine jQ (fun hc => ?_) (fun hc => ?_)) <;> (try simp only [nrB] at hc) <;> (try (exfalso; first | omega | exact hc trivial | exact hc rfl)))))
    refine OW_call rfl rfl rfl (Gv.holds hbt (fun w h => iH h)) rfl (fun r L' hp => ?_)
    obtain ⟨rfl, D', hr, rfl⟩ := hp
    (repeat' (first | (show WL _ _ _ _ _ _ _; first | refine jA ?_ | refine jB ?_ | refine jC ?_ | refine jD ?_ | refine jE ?_ | refine jF ?_) | (show OW _ _ _ _ _ _; first | refine OW_E ?_ | refine jI ?_ | refine jJ ?_ | refine jK (fun bk => ?_) | refine jL (fun bk => ?_)) | (show WC _ _ _ _ _ _; first | refine jM ?_ | refine jN ?_ | refine jO ?_ | refine jP ?_ | refine jR ?_ | refine jS ?_ | refine jT ?_ | refine jU ?_) | (show WQ _ _ _ _; with_reducible first | refine jV ?_ | refine jW ?_ | refine jX ?_ | refine jY ?_ | refine jZ ?_ | refine kA ?_ | refine kB ?_ | refine kC ?_) | ((first | (refine jG (fun hc => ?_) (fun hc => ?_) <;> rw [hc]) | refine jQ (fun hc => ?_) (fun hc => ?_)) <;> (try simp only [nrB] at hc) <;> (try (exfalso; first | omega | exact hc trivial | exact hc rfl)))))
    refine WQ_retI (rs := [.tmp 4, .tmp 5]) (vs := [.int .i64 0, .int .i64 4]) rfl rfl ?_
    exact ⟨_, iC, .inl ⟨by simp, rfl, rfl⟩⟩

set_option maxHeartbeats 2000000 in
theorem pcount_n (p q most n least : Nat) (v kn : Value) (d : List UInt8) (s : S6) (D E : Chunk) (L : List Chunk) (h : RdN q d s.t D E) (hl : d.length ≤ 140737488355328) (hn : n ≤ 32) (he : s.e = 0) (hle : least ≤ 1000000) :
    Gv Tryd.prog 70 [.pointer (some ⟨p, 0, none⟩), .int .i64 (n : Int), .int .i64 (least : Int)].toArray (rdR p q v most kn :: D :: E :: L) (fun r L' =>
      ((tk d s n).e ≠ 0 ∧ r = .tuple #[.int .i64 0, .int .i64 ((tk d s n).e : Int)] ∧ L' = L) ∨
      ((tk d s n).e = 0 ∧ r = .tuple #[.int .i64 ((least + tv d s n : Nat) : Int), .int .i64 0] ∧ ∃ D', RdN q d (tk d s n).t D' E ∧ L' = rdR p q v most kn :: D' :: E :: L)) := by
  refine Gv.of_body Tryd.func70 rfl rfl ?_
  have hbt := ptake_n p q most n v kn d s D E L h hl hn he
  have htl : tv d s n < 2 ^ 32 := Nat.lt_of_lt_of_le (tv_lt d s n) (Nat.pow_le_pow_right (by decide) hn)
  generalize tv d s n = z at hbt htl ⊢
  generalize tk d s n = s1 at hbt ⊢
  (repeat' (first | (show WL _ _ _ _ _ _ _; first | refine jA ?_ | refine jB ?_ | refine jC ?_ | refine jD ?_ | refine jE ?_ | refine jF ?_) | (show OW _ _ _ _ _ _; first | refine OW_E ?_ | refine jI ?_ | refine jJ ?_ | refine jK (fun bk => ?_) | refine jL (fun bk => ?_)) | (show WC _ _ _ _ _ _; first | refine jM ?_ | refine jN ?_ | refine jO ?_ | refine jP ?_ | refine jR ?_ | refine jS ?_ | refine jT ?_ | refine jU ?_) | (show WQ _ _ _ _; with_reducible first | refine jV ?_ | refine jW ?_ | refine jX ?_ | refine jY ?_ | refine jZ ?_ | refine kA ?_ | refine kB ?_ | refine kC ?_) | ((first | (refine jG (fun hc => ?_) (fun hc => ?_) <;> rw [hc]) | refine jQ (fun hc => ?_) (fun hc => ?_)) <;> (try simp only [nrB] at hc) <;> (try (exfalso; first | omega | exact hc trivial | exact hc rfl)))))
  refine OW_call rfl rfl rfl hbt rfl (fun r L' hp => ?_)
  rcases hp with ⟨h1, rfl, rfl⟩ | ⟨h1, rfl, D', hr, rfl⟩
  · (repeat' (first | (show WL _ _ _ _ _ _ _; first | refine jA ?_ | refine jB ?_ | refine jC ?_ | refine jD ?_ | refine jE ?_ | refine jF ?_) | (show OW _ _ _ _ _ _; first | refine OW_E ?_ | refine jI ?_ | refine jJ ?_ | refine jK (fun bk => ?_) | refine jL (fun bk => ?_)) | (show WC _ _ _ _ _ _; first | refine jM ?_ | refine jN ?_ | refine jO ?_ | refine jP ?_ | refine jR ?_ | refine jS ?_ | refine jT ?_ | refine jU ?_) | (show WQ _ _ _ _; with_reducible first | refine jV ?_ | refine jW ?_ | refine jX ?_ | refine jY ?_ | refine jZ ?_ | refine kA ?_ | refine kB ?_ | refine kC ?_) | ((first | (refine jG (fun hc => ?_) (fun hc => ?_) <;> rw [hc]) | refine jQ (fun hc => ?_) (fun hc => ?_)) <;> (try simp only [nrB] at hc) <;> (try (exfalso; first | omega | exact hc trivial | exact hc rfl)))))
    (first | refine WQ_retI rfl rfl ?_ | refine WQ_endI rfl rfl ?_)
    exact ⟨_, iC, .inl ⟨h1, rfl, rfl⟩⟩
  · (repeat' (first | (show WL _ _ _ _ _ _ _; first | refine jA ?_ | refine jB ?_ | refine jC ?_ | refine jD ?_ | refine jE ?_ | refine jF ?_) | (show OW _ _ _ _ _ _; first | refine OW_E ?_ | refine jI ?_ | refine jJ ?_ | refine jK (fun bk => ?_) | refine jL (fun bk => ?_)) | (show WC _ _ _ _ _ _; first | refine jM ?_ | refine jN ?_ | refine jO ?_ | refine jP ?_ | refine jR ?_ | refine jS ?_ | refine jT ?_ | refine jU ?_) | (show WQ _ _ _ _; with_reducible first | refine jV ?_ | refine jW ?_ | refine jX ?_ | refine jY ?_ | refine jZ ?_ | refine kA ?_ | refine kB ?_ | refine kC ?_) | ((first | (refine jG (fun hc => ?_) (fun hc => ?_) <;> rw [hc]) | refine jQ (fun hc => ?_) (fun hc => ?_)) <;> (try simp only [nrB] at hc) <;> (try (exfalso; first | omega | exact hc trivial | exact hc rfl)))))
    rw [show (least : Int) + (z : Int) = ((least + z : Nat) : Int) from by omega]
    (first | refine WQ_retI rfl rfl ?_ | refine WQ_endI rfl rfl ?_)
    exact ⟨_, iC, .inr ⟨h1, rfl, D', hr, rfl⟩⟩

set_option maxHeartbeats 2000000 in
theorem pput_n (p q most : Nat) (c : UInt8) (v kn : Value) (s : S6) (C : Chunk) (L : List Chunk) (ho : Ow 5 1 v s.out.length (bsv s.out) C) (hm : most ≤ 1000000) (he : s.e = 0) (hk : kn.oneCell' = true) :
    Gv Tryd.prog 55 [.pointer (some ⟨p, 0, none⟩), .int .u8 (c.toNat : Int)].toArray (rdR p q v most kn :: C :: L) (fun r L' =>
      ((pt most s c).e ≠ 0 ∧ r = .int .i64 ((pt most s c).e : Int) ∧ L' = L) ∨
      ((pt most s c).e = 0 ∧ r = .int .i64 0 ∧ ∃ v' C', Ow 5 1 v' (pt most s c).out.length (bsv (pt most s c).out) C' ∧ L' = rdR p q v' most kn :: C' :: L)) := by
  refine Gv.of_body Tryd.func55 rfl rfl ?_
  obtain ⟨t, out, e⟩ := s
  simp only at ho he ⊢
  subst he
  obtain ⟨va, vc, rfl⟩ := ow_slc ho
  by_cases h1 : most ≤ out.length
  · rw [pt_no (by exact h1)]
    simp only [fl, if_true]
    unfold rdR
    (repeat' (first | (show WL _ _ _ _ _ _ _; first | refine jA ?_ | refine jB ?_ | refine jC ?_ | refine jD ?_ | refine jE ?_ | refine jF ?_) | (show OW _ _ _ _ _ _; first | refine OW_E ?_ | refine jI ?_ | refine jJ ?_ | refine jK (fun bk => ?_) | refine jL (fun bk => ?_)) | (show WC _ _ _ _ _ _; first | refine jM ?_ | refine jN ?_ | refine jO ?_ | refine jP ?_ | refine jR ?_ | refine jS ?_ | refine jT ?_ | refine jU ?_) | (show WQ _ _ _ _; with_reducible first | refine jV ?_ | refine jW ?_ | refine jX ?_ | refine jY ?_ | refine jZ ?_ | refine kA ?_ | refine kB ?_ | refine kC ?_) | ((first | (refine jG (fun hc => ?_) (fun hc => ?_) <;> rw [hc]) | refine jQ (fun hc => ?_) (fun hc => ?_)) <;> (try simp only [nrB] at hc) <;> (try (exfalso; first | omega | exact hc trivial | exact hc rfl)))))
    refine WC_drawAll [] mixed ?_
    (refine WR_t 0 ?_; refine WR_t 1 ?_; refine WR_t 2 ?_; refine WR_t 3 ?_; refine WR_t 4 ?_; refine WR_t 5 ?_; refine WR_t 6 ?_; refine WR_t 7 ?_; refine WR_t 8 ?_; refine WR_t 9 ?_)
    (refine WR_done (by kernel_rfl) ?_)
    (repeat' (first | (show WL _ _ _ _ _ _ _; first | refine jA ?_ | refine jB ?_ | refine jC ?_ | refine jD ?_ | refine jE ?_ | refine jF ?_) | (show OW _ _ _ _ _ _; first | refine OW_E ?_ | refine jI ?_ | refine jJ ?_ | refine jK (fun bk => ?_) | refine jL (fun bk => ?_)) | (show WC _ _ _ _ _ _; first | refine jM ?_ | refine jN ?_ | refine jO ?_ | refine jP ?_ | refine jR ?_ | refine jS ?_ | refine jT ?_ | refine jU ?_) | (show WQ _ _ _ _; with_reducible first | refine jV ?_ | refine jW ?_ | refine jX ?_ | refine jY ?_ | refine jZ ?_ | refine kA ?_ | refine kB ?_ | refine kC ?_) | ((first | (refine jG (fun hc => ?_) (fun hc => ?_) <;> rw [hc]) | refine jQ (fun hc => ?_) (fun hc => ?_)) <;> (try simp only [nrB] at hc) <;> (try (exfalso; first | omega | exact hc trivial | exact hc rfl)))))
    (first | refine WQ_retI rfl rfl ?_ | refine WQ_endI rfl rfl ?_)
    exact ⟨_, iC, .inl ⟨by simp, rfl, rfl⟩⟩
  · rw [pt_ok (by simp only; omega)]
    unfold rdR
    (repeat' (first | (show WL _ _ _ _ _ _ _; first | refine jA ?_ | refine jB ?_ | refine jC ?_ | refine jD ?_ | refine jE ?_ | refine jF ?_) | (show OW _ _ _ _ _ _; first | refine OW_E ?_ | refine jI ?_ | refine jJ ?_ | refine jK (fun bk => ?_) | refine jL (fun bk => ?_)) | (show WC _ _ _ _ _ _; first | refine jM ?_ | refine jN ?_ | refine jO ?_ | refine jP ?_ | refine jR ?_ | refine jS ?_ | refine jT ?_ | refine jU ?_) | (show WQ _ _ _ _; with_reducible first | refine jV ?_ | refine jW ?_ | refine jX ?_ | refine jY ?_ | refine jZ ?_ | refine kA ?_ | refine kB ?_ | refine kC ?_) | ((first | (refine jG (fun hc => ?_) (fun hc => ?_) <;> rw [hc]) | refine jQ (fun hc => ?_) (fun hc => ?_)) <;> (try simp only [nrB] at hc) <;> (try (exfalso; first | omega | exact hc trivial | exact hc rfl)))))
    refine WC_drawAll [] mixed ?_
    (refine WR_t 0 ?_; refine WR_t 1 ?_; refine WR_t 2 ?_; refine WR_t 3 ?_; refine WR_t 4 ?_; refine WR_t 5 ?_; refine WR_t 6 ?_; refine WR_t 7 ?_; refine WR_t 8 ?_; refine WR_t 9 ?_)
    (refine WR_done (by kernel_rfl) ?_)
    (repeat' (first | (show WL _ _ _ _ _ _ _; first | refine jA ?_ | refine jB ?_ | refine jC ?_ | refine jD ?_ | refine jE ?_ | refine jF ?_) | (show OW _ _ _ _ _ _; first | refine OW_E ?_ | refine jI ?_ | refine jJ ?_ | refine jK (fun bk => ?_) | refine jL (fun bk => ?_)) | (show WC _ _ _ _ _ _; first | refine jM ?_ | refine jN ?_ | refine jO ?_ | refine jP ?_ | refine jR ?_ | refine jS ?_ | refine jT ?_ | refine jU ?_) | (show WQ _ _ _ _; with_reducible first | refine jV ?_ | refine jW ?_ | refine jX ?_ | refine jY ?_ | refine jZ ?_ | refine kA ?_ | refine kB ?_ | refine kC ?_) | ((first | (refine jG (fun hc => ?_) (fun hc => ?_) <;> rw [hc]) | refine jQ (fun hc => ?_) (fun hc => ?_)) <;> (try simp only [nrB] at hc) <;> (try (exfalso; first | omega | exact hc trivial | exact hc rfl)))))
    refine OW_buildSlice (cs := [.int .u8 (c.toNat : Int)]) rfl (by rfl) (by first | (simp [fillL, patch, Value.cells, zeros]; done) | (simp [fillL, patch, Value.cells, zeros]; rfl)) (by omega) rfl rfl (fun bn => ?_)
    (repeat' (first | (show WL _ _ _ _ _ _ _; first | refine jA ?_ | refine jB ?_ | refine jC ?_ | refine jD ?_ | refine jE ?_ | refine jF ?_) | (show OW _ _ _ _ _ _; first | refine OW_E ?_ | refine jI ?_ | refine jJ ?_ | refine jK (fun bk => ?_) | refine jL (fun bk => ?_)) | (show WC _ _ _ _ _ _; first | refine jM ?_ | refine jN ?_ | refine jO ?_ | refine jP ?_ | refine jR ?_ | refine jS ?_ | refine jT ?_ | refine jU ?_) | (show WQ _ _ _ _; with_reducible first | refine jV ?_ | refine jW ?_ | refine jX ?_ | refine jY ?_ | refine jZ ?_ | refine kA ?_ | refine kB ?_ | refine kC ?_) | ((first | (refine jG (fun hc => ?_) (fun hc => ?_) <;> rw [hc]) | refine jQ (fun hc => ?_) (fun hc => ?_)) <;> (try simp only [nrB] at hc) <;> (try (exfalso; first | omega | exact hc trivial | exact hc rfl)))))
    refine OW_append rfl rfl ho (sl_cells (k := 1) (c := #[.int .u8 (c.toNat : Int)]) (xs := [.int .u8 (c.toNat : Int)]) (m := 1) Fnd.here rfl (by simp)) (by repeat (first | exact Zip.here _ | apply Zip.there)) rfl (by rfl) (by omega) (by simp [maxLen]; omega) rfl (fun v' C' ho' _ _ => ?_)
    (repeat' (first | (show WL _ _ _ _ _ _ _; first | refine jA ?_ | refine jB ?_ | refine jC ?_ | refine jD ?_ | refine jE ?_ | refine jF ?_) | (show OW _ _ _ _ _ _; first | refine OW_E ?_ | refine jI ?_ | refine jJ ?_ | refine jK (fun bk => ?_) | refine jL (fun bk => ?_)) | (show WC _ _ _ _ _ _; first | refine jM ?_ | refine jN ?_ | refine jO ?_ | refine jP ?_ | refine jR ?_ | refine jS ?_ | refine jT ?_ | refine jU ?_) | (show WQ _ _ _ _; with_reducible first | refine jV ?_ | refine jW ?_ | refine jX ?_ | refine jY ?_ | refine jZ ?_ | refine kA ?_ | refine kB ?_ | refine kC ?_) | ((first | (refine jG (fun hc => ?_) (fun hc => ?_) <;> rw [hc]) | refine jQ (fun hc => ?_) (fun hc => ?_)) <;> (try simp only [nrB] at hc) <;> (try (exfalso; first | omega | exact hc trivial | exact hc rfl)))))
    refine OW_storeTo [.pointer (some ⟨q, 0, none⟩), v', .int .i64 (most : Int), kn] rfl rfl (by rcases ho' with ⟨rfl, _⟩ | ⟨_, _, _, rfl, _⟩ <;> rfl) rfl (by repeat (first | exact Upd.here | apply Upd.there)) (by simp) ?_
    (repeat' (first | (show WL _ _ _ _ _ _ _; first | refine jA ?_ | refine jB ?_ | refine jC ?_ | refine jD ?_ | refine jE ?_ | refine jF ?_) | (show OW _ _ _ _ _ _; first | refine OW_E ?_ | refine jI ?_ | refine jJ ?_ | refine jK (fun bk => ?_) | refine jL (fun bk => ?_)) | (show WC _ _ _ _ _ _; first | refine jM ?_ | refine jN ?_ | refine jO ?_ | refine jP ?_ | refine jR ?_ | refine jS ?_ | refine jT ?_ | refine jU ?_) | (show WQ _ _ _ _; with_reducible first | refine jV ?_ | refine jW ?_ | refine jX ?_ | refine jY ?_ | refine jZ ?_ | refine kA ?_ | refine kB ?_ | refine kC ?_) | ((first | (refine jG (fun hc => ?_) (fun hc => ?_) <;> rw [hc]) | refine jQ (fun hc => ?_) (fun hc => ?_)) <;> (try simp only [nrB] at hc) <;> (try (exfalso; first | omega | exact hc trivial | exact hc rfl)))))
    (first | refine WQ_retI rfl rfl ?_ | refine WQ_endI rfl rfl ?_)
    refine ⟨_, iC, .inr ⟨rfl, rfl, v', C', ?_, rfl⟩⟩
    rw [List.length_append, show bsv (out ++ [c]) = bsv out ++ [Value.int .u8 (c.toNat : Int)] from by simp [bsv]]
    exact ho'

set_option maxHeartbeats 2000000 in
theorem span_n (n st : Nat) (L : List Chunk) (h1 : n ≤ 100) (h2 : 1 ≤ st) (h3 : st ≤ 100) (h4 : spX n st ≤ 20) :
    GvP Tryd.prog 89 [.int .i64 (n : Int), .int .i64 (st : Int)].toArray L (.tuple #[.int .i64 ((spF n st : Nat) : Int), .int .i64 ((spX n st : Nat) : Int)]) := by
  refine Gv.of_body Tryd.func89 rfl rfl ?_
  unfold spF spX at *
  (repeat' (first | (show WL _ _ _ _ _ _ _; first | refine jA ?_ | refine jB ?_ | refine jC ?_ | refine jD ?_ | refine jE ?_ | refine jF ?_) | (show OW _ _ _ _ _ _; first | refine OW_E ?_ | refine jI ?_ | refine jJ ?_ | refine jK (fun bk => ?_) | refine jL (fun bk => ?_)) | (show WC _ _ _ _ _ _; first | refine jM ?_ | refine jN ?_ | refine jO ?_ | refine jP ?_ | refine jR ?_ | refine jS ?_ | refine jT ?_ | refine jU ?_) | (show WQ _ _ _ _; with_reducible first | refine jV ?_ | refine jW ?_ | refine jX ?_ | refine jY ?_ | refine jZ ?_ | refine kA ?_ | refine kB ?_ | refine kC ?_) | ((first | (refine jG (fun hc => ?_) (fun hc => ?_) <;> rw [hc]) | refine jQ (fun hc => ?_) (fun hc => ?_)) <;> (try simp only [nrB] at hc) <;> (try (exfalso; first | omega | exact hc trivial | exact hc rfl)))))
  · rw [if_pos (show n < 2 * st by omega), if_pos (show n < 2 * st by omega)]
    ((first | refine WQ_retI rfl rfl ?_ | refine WQ_endI rfl rfl ?_); exact ⟨_, iC, rfl, rfl⟩)
  · rw [if_neg (show ¬ n < 2 * st by omega)] at h4 ⊢
    rw [if_neg (show ¬ n < 2 * st by omega)]
    have hq : n / st ≤ n := Nat.div_le_self _ _
    have hq2 : 2 ≤ n / st := by
      rw [Nat.le_div_iff_mul_le (by omega)]; omega
    have hr : n % st < st := Nat.mod_lt _ (by omega)
    refine OW_EV (EV_quoN n st rfl rfl (by omega) rfl (by omega) (by omega)) rfl ?_
    generalize n / st = z at hq hq2 h4 ⊢
    (repeat' (first | (show WL _ _ _ _ _ _ _; first | refine jA ?_ | refine jB ?_ | refine jC ?_ | refine jD ?_ | refine jE ?_ | refine jF ?_) | (show OW _ _ _ _ _ _; first | refine OW_E ?_ | refine jI ?_ | refine jJ ?_ | refine jK (fun bk => ?_) | refine jL (fun bk => ?_)) | (show WC _ _ _ _ _ _; first | refine jM ?_ | refine jN ?_ | refine jO ?_ | refine jP ?_ | refine jR ?_ | refine jS ?_ | refine jT ?_ | refine jU ?_) | (show WQ _ _ _ _; with_reducible first | refine jV ?_ | refine jW ?_ | refine jX ?_ | refine jY ?_ | refine jZ ?_ | refine kA ?_ | refine kB ?_ | refine kC ?_) | ((first | (refine jG (fun hc => ?_) (fun hc => ?_) <;> rw [hc]) | refine jQ (fun hc => ?_) (fun hc => ?_)) <;> (try simp only [nrB] at hc) <;> (try (exfalso; first | omega | exact hc trivial | exact hc rfl)))))
    refine OW_EV (EV_remN n st rfl rfl rfl rfl (by omega)) rfl ?_
    generalize n % st = y at hr ⊢
    have hp : 2 ^ (z - 1) ≤ 2 ^ 20 := Nat.pow_le_pow_right (by decide) h4
    have hpm : (st + y) * 2 ^ (z - 1) ≤ 200 * 2 ^ 20 := Nat.mul_le_mul (by omega) hp
    (repeat' (first | (show WL _ _ _ _ _ _ _; first | refine jA ?_ | refine jB ?_ | refine jC ?_ | refine jD ?_ | refine jE ?_ | refine jF ?_) | (show OW _ _ _ _ _ _; first | refine OW_E ?_ | refine jI ?_ | refine jJ ?_ | refine jK (fun bk => ?_) | refine jL (fun bk => ?_)) | (show WC _ _ _ _ _ _; first | refine jM ?_ | refine jN ?_ | refine jO ?_ | refine jP ?_ | refine jR ?_ | refine jS ?_ | refine jT ?_ | refine jU ?_) | (show WQ _ _ _ _; with_reducible first | refine jV ?_ | refine jW ?_ | refine jX ?_ | refine jY ?_ | refine jZ ?_ | refine kA ?_ | refine kB ?_ | refine kC ?_) | ((first | (refine jG (fun hc => ?_) (fun hc => ?_) <;> rw [hc]) | refine jQ (fun hc => ?_) (fun hc => ?_)) <;> (try simp only [nrB] at hc) <;> (try (exfalso; first | omega | exact hc trivial | exact hc rfl)))))
    rw [show (z : Int) - 1 = ((z - 1 : Nat) : Int) from by omega, show (st : Int) + (y : Int) = ((st + y : Nat) : Int) from by omega]
    refine OW_EV (EV_shl64 (st + y) (z - 1) rfl rfl rfl (by omega) (by omega) (by omega)) rfl ?_
    (repeat' (first | (show WL _ _ _ _ _ _ _; first | refine jA ?_ | refine jB ?_ | refine jC ?_ | refine jD ?_ | refine jE ?_ | refine jF ?_) | (show OW _ _ _ _ _ _; first | refine OW_E ?_ | refine jI ?_ | refine jJ ?_ | refine jK (fun bk => ?_) | refine jL (fun bk => ?_)) | (show WC _ _ _ _ _ _; first | refine jM ?_ | refine jN ?_ | refine jO ?_ | refine jP ?_ | refine jR ?_ | refine jS ?_ | refine jT ?_ | refine jU ?_) | (show WQ _ _ _ _; with_reducible first | refine jV ?_ | refine jW ?_ | refine jX ?_ | refine jY ?_ | refine jZ ?_ | refine kA ?_ | refine kB ?_ | refine kC ?_) | ((first | (refine jG (fun hc => ?_) (fun hc => ?_) <;> rw [hc]) | refine jQ (fun hc => ?_) (fun hc => ?_)) <;> (try simp only [nrB] at hc) <;> (try (exfalso; first | omega | exact hc trivial | exact hc rfl)))))
    ((first | refine WQ_retI rfl rfl ?_ | refine WQ_endI rfl rfl ?_); exact ⟨_, iC, rfl, rfl⟩)
end Go.Proofs.YtkiaegkojlhaeaaDoor
