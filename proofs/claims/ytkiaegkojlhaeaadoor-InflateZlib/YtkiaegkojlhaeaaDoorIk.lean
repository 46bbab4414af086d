/- Package inflate: blocks of codes. It proves no statement by itself. No conditions. -/
import Derived.Test.YtkiaegkojlhaeaaDoorIi
import Derived.Scope
namespace Go.If
open Go.Vx Go.Hf
set_option linter.all false
theorem stL_err [W0] {d : List UInt8} {most : Nat} {s : S6} (h : s.e ≠ 0) : ∀ k, stL d most k s = s
  | 0 => rfl
  | k + 1 => by rw [stL, if_neg h]
theorem tk_err {d : List UInt8} {s : S6} {n : Nat} (h : s.e ≠ 0) : (tk d s n).e = s.e := by
  unfold tk
  split
  · rfl
  · rw [fl_err h]
/-- A stored block, seen step by step. -/
theorem stS_1 [W0] {d : List UInt8} {most : Nat} {s : S6} (h : (tk d ⟨8 * ((s.t + 7) / 8), s.out, s.e⟩ 16).e ≠ 0) : (stS d most s).e = (tk d ⟨8 * ((s.t + 7) / 8), s.out, s.e⟩ 16).e := by
  unfold stS
  simp only
  generalize tk d ⟨8 * ((s.t + 7) / 8), s.out, s.e⟩ 16 = s1 at h ⊢
  have h2 := tk_err (d := d) (n := 16) h
  split
  · rw [stL_err (by rw [h2]; exact h), h2]
  · rw [fl_err (by rw [h2]; exact h), stL_err (by rw [h2]; exact h), h2]
theorem stS_2 [W0] {d : List UInt8} {most : Nat} {s : S6} (h : (tk d (tk d ⟨8 * ((s.t + 7) / 8), s.out, s.e⟩ 16) 16).e ≠ 0) : (stS d most s).e = (tk d (tk d ⟨8 * ((s.t + 7) / 8), s.out, s.e⟩ 16) 16).e := by
  unfold stS
  simp only
  generalize tk d (tk d ⟨8 * ((s.t + 7) / 8), s.out, s.e⟩ 16) 16 = s2 at h ⊢
  split
  · rw [stL_err h]
  · rw [fl_err h, stL_err h]
theorem stS_3 [W0] {d : List UInt8} {most : Nat} {s : S6} (h : (tk d (tk d ⟨8 * ((s.t + 7) / 8), s.out, s.e⟩ 16) 16).e = 0) (h2 : tv d ⟨8 * ((s.t + 7) / 8), s.out, s.e⟩ 16 + tv d (tk d ⟨8 * ((s.t + 7) / 8), s.out, s.e⟩ 16) 16 ≠ 65535) : (stS d most s).e = 3 := by
  unfold stS
  simp only
  rw [if_neg h2]
  have e3 : (fl (tk d (tk d ⟨8 * ((s.t + 7) / 8), s.out, s.e⟩ 16) 16) 3).e = 3 := by rw [fl_e, if_pos h]
  rw [stL_err (by rw [e3]; decide), e3]
theorem stS_4 [W0] {d : List UInt8} {most : Nat} {s : S6} (h2 : tv d ⟨8 * ((s.t + 7) / 8), s.out, s.e⟩ 16 + tv d (tk d ⟨8 * ((s.t + 7) / 8), s.out, s.e⟩ 16) 16 = 65535) :
    stS d most s = stL d most (tv d ⟨8 * ((s.t + 7) / 8), s.out, s.e⟩ 16) (tk d (tk d ⟨8 * ((s.t + 7) / 8), s.out, s.e⟩ 16) 16) := by
  unfold stS
  simp only
  rw [if_pos h2]
theorem xor_compl {n m : Nat} (hn : n < 65536) (hm : m < 65536) : n ^^^ m = 65535 ↔ n + m = 65535 := by
  constructor
  · intro h
    have e : m = n ^^^ 65535 := by rw [← h, ← Nat.xor_assoc, Nat.xor_self, Nat.zero_xor]
    have h2 : n ^^^ 65535 = 65535 - n := by
      have e2 : 65535 - n = 2 ^ 16 - (n + 1) := by omega
      apply Nat.eq_of_testBit_eq
      intro i
      rw [Nat.testBit_xor, e2, Nat.testBit_two_pow_sub_succ (by omega), show (65535 : Nat) = 2 ^ 16 - 1 from rfl, Nat.testBit_two_pow_sub_one]
      by_cases hi : i < 16
      · simp [hi]
      · have : Nat.testBit n i = false := Nat.testBit_lt_two_pow (Nat.lt_of_lt_of_le hn (Nat.pow_le_pow_right (n := 2) (by decide) (show 16 ≤ i by omega)))
        simp [hi, this]
    omega
  · intro h
    have e : m = 2 ^ 16 - (n + 1) := by omega
    apply Nat.eq_of_testBit_eq
    intro i
    rw [Nat.testBit_xor, e, Nat.testBit_two_pow_sub_succ (by omega), show (65535 : Nat) = 2 ^ 16 - 1 from rfl, Nat.testBit_two_pow_sub_one]
    by_cases hi : i < 16
    · simp [hi]
    · have : Nat.testBit n i = false := Nat.testBit_lt_two_pow (Nat.lt_of_lt_of_le hn (Nat.pow_le_pow_right (n := 2) (by decide) (show 16 ≤ i by omega)))
      simp [hi, this]
end Go.If
namespace Go.Proofs.YtkiaegkojlhaeaaDoor
open Go Go.Vx Go.Hf Go.If
variable [W0]
set_option maxRecDepth 4000
set_option linter.all false
theorem bit_xor16 {a b : Nat} (ha : a < 65536) (hb : b < 65536) : bitI .xor .i64 (a : Int) (b : Int) = some ((a ^^^ b : Nat) : Int) := by
  have h1 : a ^^^ b < 2 ^ 16 := Nat.xor_lt_two_pow ha hb
  have e : ((BitVec.ofInt 64 (a : Int) ^^^ BitVec.ofInt 64 (b : Int)).toNat) = a ^^^ b := by
    rw [BitVec.toNat_xor, BitVec.ofInt_natCast, BitVec.ofInt_natCast, BitVec.toNat_ofNat, BitVec.toNat_ofNat, Nat.mod_eq_of_lt (by omega), Nat.mod_eq_of_lt (by omega)]
  show some (IntKind.i64.wrap (((BitVec.ofInt 64 (a : Int) ^^^ BitVec.ofInt 64 (b : Int)).toNat : Nat) : Int)) = _
  rw [e]
  congr 1
  exact wrap_i64s (by omega)

set_option maxHeartbeats 8000000 in
theorem pstored_n (p q most : Nat) (v kn : Value) (d : List UInt8) (s : S6) (D E C : Chunk) (L : List Chunk) (h : RdN q d s.t D E) (hl : d.length ≤ 140737488355328) (he : s.e = 0) (hm : most ≤ 1000000) (hkn : kn.oneCell' = true)
    (ho : Ow 5 1 v s.out.length (bsv s.out) C) (hom : s.out.length ≤ most) :
    Gv Tryd.prog 45 [.pointer (some ⟨p, 0, none⟩)].toArray (rdR p q v most kn :: D :: E :: C :: L) (fun r L' =>
      ((stS d most s).e ≠ 0 ∧ r = .int .i64 ((stS d most s).e : Int) ∧ L' = L) ∨
      ((stS d most s).e = 0 ∧ r = .int .i64 0 ∧ ∃ v' D' C', Ow 5 1 v' (stS d most s).out.length (bsv (stS d most s).out) C' ∧ (stS d most s).out.length ≤ most ∧ RdN q d (stS d most s).t D' E ∧ L' = rdR p q v' most kn :: D' :: E :: C' :: L)) := by
  refine Gv.of_body Tryd.func45 rfl rfl ?_
  have hal := ralign_n q s.t d D E (rdR p q v most kn :: C :: L) h
  have x1 := stS_1 (d := d) (most := most) (s := s)
  have x2 := stS_2 (d := d) (most := most) (s := s)
  have x3 := stS_3 (d := d) (most := most) (s := s)
  have x4 := stS_4 (d := d) (most := most) (s := s)
  generalize stS d most s = R at x1 x2 x3 x4 ⊢
  obtain ⟨s0, hs0⟩ : ∃ s0 : S6, s0 = ⟨8 * ((s.t + 7) / 8), s.out, s.e⟩ := ⟨_, rfl⟩
  have e0 : s0.e = 0 := by rw [hs0]; exact he
  have o0 : s0.out = s.out := by rw [hs0]
  have t0 : 8 * ((s.t + 7) / 8) = s0.t := by rw [hs0]
  rw [t0] at hal
  rw [← hs0] at x1 x2 x3 x4
  rw [← o0] at ho hom
  clear hs0 o0 t0 he h
  have htk := fun D' hr => ptake_n p q most 16 v kn d s0 D' E (C :: L) hr hl (by decide) e0
  have hv1 := tv_lt d s0 16
  have ho1 := tk_out d s0 16
  generalize tv d s0 16 = n1 at htk hv1 x3 x4
  generalize tk d s0 16 = s1 at htk x1 x2 x3 x4 ho1
  unfold rdR at hal ⊢
  (repeat' (first | (show WL _ _ _ _ _ _ _; first | refine jA ?_ | refine jB ?_ | refine jC ?_ | refine jD ?_ | refine jE ?_ | refine jF ?_) | (show OW _ _ _ _ _ _; first | refine OW_E ?_ | refine jI ?_ | refine jJ ?_ | refine jK (fun bk => ?_) | refine jL (fun bk => ?_)) | (show WC _ _ _ _ _ _; first | refine jM ?_ | refine jN ?_ | refine jO ?_ | refine jP ?_ | refine jR ?_ | refine jS ?_ | refine jT ?_ | refine jU ?_) | (show WQ _ _ _ _; with_reducible first | refine jV ?_ | refine jW ?_ | refine jX ?_ | refine jY ?_ | refine jZ ?_ | refine kA ?_ | refine kB ?_ | refine kC ?_) | ((first | (refine jG (fun hc => ?_) (fun hc => ?_) <;> rw [hc]) | refine jQ (fun hc => ?_) (fun hc => ?_)) <;> (try simp only [nrB] at hc) <;> (try (exfalso; first | omega | exact hc trivial | exact hc rfl)))))
  refine OW_call rfl rfl rfl (Gv.holds hal (fun w h => iH h)) rfl (fun r L' hp => ?_)
  obtain ⟨rfl, D0, hr0, rfl⟩ := hp
  have htk := htk D0 hr0
  unfold rdR at htk
  (repeat' (first | (show WL _ _ _ _ _ _ _; first | refine jA ?_ | refine jB ?_ | refine jC ?_ | refine jD ?_ | refine jE ?_ | refine jF ?_) | (show OW _ _ _ _ _ _; first | refine OW_E ?_ | refine jI ?_ | refine jJ ?_ | refine jK (fun bk => ?_) | refine jL (fun bk => ?_)) | (show WC _ _ _ _ _ _; first | refine jM ?_ | refine jN ?_ | refine jO ?_ | refine jP ?_ | refine jR ?_ | refine jS ?_ | refine jT ?_ | refine jU ?_) | (show WQ _ _ _ _; with_reducible first | refine jV ?_ | refine jW ?_ | refine jX ?_ | refine jY ?_ | refine jZ ?_ | refine kA ?_ | refine kB ?_ | refine kC ?_) | ((first | (refine jG (fun hc => ?_) (fun hc => ?_) <;> rw [hc]) | refine jQ (fun hc => ?_) (fun hc => ?_)) <;> (try simp only [nrB] at hc) <;> (try (exfalso; first | omega | exact hc trivial | exact hc rfl)))))
  refine OW_call rfl rfl rfl (Gv.holds htk (fun w h => iH h)) rfl (fun r L' hp => ?_)
  rcases hp with ⟨h1, rfl, rfl⟩ | ⟨h1, rfl, D1, hr1, rfl⟩
  · have q := x1 h1
    rw [← q] at h1 ⊢
    (repeat' (first | (show WL _ _ _ _ _ _ _; first | refine jA ?_ | refine jB ?_ | refine jC ?_ | refine jD ?_ | refine jE ?_ | refine jF ?_) | (show OW _ _ _ _ _ _; first | refine OW_E ?_ | refine jI ?_ | refine jJ ?_ | refine jK (fun bk => ?_) | refine jL (fun bk => ?_)) | (show WC _ _ _ _ _ _; first | refine jM ?_ | refine jN ?_ | refine jO ?_ | refine jP ?_ | refine jR ?_ | refine jS ?_ | refine jT ?_ | refine jU ?_) | (show WQ _ _ _ _; with_reducible first | refine jV ?_ | refine jW ?_ | refine jX ?_ | refine jY ?_ | refine jZ ?_ | refine kA ?_ | refine kB ?_ | refine kC ?_) | ((first | (refine jG (fun hc => ?_) (fun hc => ?_) <;> rw [hc]) | refine jQ (fun hc => ?_) (fun hc => ?_)) <;> (try simp only [nrB] at hc) <;> (try (exfalso; first | omega | exact hc trivial | exact hc rfl)))))
    (first | refine WQ_retI rfl rfl ?_ | refine WQ_endI rfl rfl ?_)
    exact ⟨_, iC, .inl ⟨h1, rfl, rfl⟩⟩
  have htk := ptake_n p q most 16 v kn d s1 D1 E (C :: L) hr1 hl (by decide) h1
  have hv2 := tv_lt d s1 16
  have ho2 := tk_out d s1 16
  rw [← ho1, ← ho2] at ho hom
  generalize tv d s1 16 = n2 at htk hv2 x3 x4
  generalize tk d s1 16 = s2 at htk x2 x3 x4 ho2 ho hom
  unfold rdR at htk
  (repeat' (first | (show WL _ _ _ _ _ _ _; first | refine jA ?_ | refine jB ?_ | refine jC ?_ | refine jD ?_ | refine jE ?_ | refine jF ?_) | (show OW _ _ _ _ _ _; first | refine OW_E ?_ | refine jI ?_ | refine jJ ?_ | refine jK (fun bk => ?_) | refine jL (fun bk => ?_)) | (show WC _ _ _ _ _ _; first | refine jM ?_ | refine jN ?_ | refine jO ?_ | refine jP ?_ | refine jR ?_ | refine jS ?_ | refine jT ?_ | refine jU ?_) | (show WQ _ _ _ _; with_reducible first | refine jV ?_ | refine jW ?_ | refine jX ?_ | refine jY ?_ | refine jZ ?_ | refine kA ?_ | refine kB ?_ | refine kC ?_) | ((first | (refine jG (fun hc => ?_) (fun hc => ?_) <;> rw [hc]) | refine jQ (fun hc => ?_) (fun hc => ?_)) <;> (try simp only [nrB] at hc) <;> (try (exfalso; first | omega | exact hc trivial | exact hc rfl)))))
  refine OW_call rfl rfl rfl (Gv.holds htk (fun w h => iH h)) rfl (fun r L' hp => ?_)
  rcases hp with ⟨h2, rfl, rfl⟩ | ⟨h2, rfl, D2, hr2, rfl⟩
  · have q := x2 h2
    rw [← q] at h2 ⊢
    (repeat' (first | (show WL _ _ _ _ _ _ _; first | refine jA ?_ | refine jB ?_ | refine jC ?_ | refine jD ?_ | refine jE ?_ | refine jF ?_) | (show OW _ _ _ _ _ _; first | refine OW_E ?_ | refine jI ?_ | refine jJ ?_ | refine jK (fun bk => ?_) | refine jL (fun bk => ?_)) | (show WC _ _ _ _ _ _; first | refine jM ?_ | refine jN ?_ | refine jO ?_ | refine jP ?_ | refine jR ?_ | refine jS ?_ | refine jT ?_ | refine jU ?_) | (show WQ _ _ _ _; with_reducible first | refine jV ?_ | refine jW ?_ | refine jX ?_ | refine jY ?_ | refine jZ ?_ | refine kA ?_ | refine kB ?_ | refine kC ?_) | ((first | (refine jG (fun hc => ?_) (fun hc => ?_) <;> rw [hc]) | refine jQ (fun hc => ?_) (fun hc => ?_)) <;> (try simp only [nrB] at hc) <;> (try (exfalso; first | omega | exact hc trivial | exact hc rfl)))))
    (first | refine WQ_retI rfl rfl ?_ | refine WQ_endI rfl rfl ?_)
    exact ⟨_, iC, .inl ⟨h2, rfl, rfl⟩⟩
  clear x1 x2
  have x3 := x3 h2
  have hxc := xor_compl hv1 hv2
  (repeat' (first | (show WL _ _ _ _ _ _ _; first | refine jA ?_ | refine jB ?_ | refine jC ?_ | refine jD ?_ | refine jE ?_ | refine jF ?_) | (show OW _ _ _ _ _ _; first | refine OW_E ?_ | refine jI ?_ | refine jJ ?_ | refine jK (fun bk => ?_) | refine jL (fun bk => ?_)) | (show WC _ _ _ _ _ _; first | refine jM ?_ | refine jN ?_ | refine jO ?_ | refine jP ?_ | refine jR ?_ | refine jS ?_ | refine jT ?_ | refine jU ?_) | (show WQ _ _ _ _; with_reducible first | refine jV ?_ | refine jW ?_ | refine jX ?_ | refine jY ?_ | refine jZ ?_ | refine kA ?_ | refine kB ?_ | refine kC ?_) | ((first | (refine jG (fun hc => ?_) (fun hc => ?_) <;> rw [hc]) | refine jQ (fun hc => ?_) (fun hc => ?_)) <;> (try simp only [nrB] at hc) <;> (try (exfalso; first | omega | exact hc trivial | exact hc rfl)))))
  refine OW_EV (EV_bit rfl rfl (bit_xor16 hv1 hv2)) rfl ?_
  (repeat' (first | (show WL _ _ _ _ _ _ _; first | refine jA ?_ | refine jB ?_ | refine jC ?_ | refine jD ?_ | refine jE ?_ | refine jF ?_) | (show OW _ _ _ _ _ _; first | refine OW_E ?_ | refine jI ?_ | refine jJ ?_ | refine jK (fun bk => ?_) | refine jL (fun bk => ?_)) | (show WC _ _ _ _ _ _; first | refine jM ?_ | refine jN ?_ | refine jO ?_ | refine jP ?_ | refine jR ?_ | refine jS ?_ | refine jT ?_ | refine jU ?_) | (show WQ _ _ _ _; with_reducible first | refine jV ?_ | refine jW ?_ | refine jX ?_ | refine jY ?_ | refine jZ ?_ | refine kA ?_ | refine kB ?_ | refine kC ?_) | ((first | (refine jG (fun hc => ?_) (fun hc => ?_) <;> rw [hc]) | refine jQ (fun hc => ?_) (fun hc => ?_)) <;> (try simp only [nrB] at hc) <;> (try (exfalso; first | omega | exact hc trivial | exact hc rfl)))))
  · have x3 := x3 (by omega)
    rw [x3]
    (first | refine WQ_retI rfl rfl ?_ | refine WQ_endI rfl rfl ?_)
    exact ⟨_, iC, .inl ⟨by decide, rfl, rfl⟩⟩
  have x4 := x4 (by omega)
  clear x3 hxc
  obtain ⟨va, vc, rfl⟩ := ow_slc ho
  refine WC_loop (X := Nat × S6 × Value × Chunk × Chunk) (fun x => [(0, .pointer (some ⟨p, 0, none⟩)), (34, .int .i64 (n1 : Int)), (35, .int .i64 (x.1 : Int))]) (fun x => rdR p q x.2.2.1 most kn :: x.2.2.2.1 :: x.2.2.2.2 :: E :: L)
    (fun x => x.1 ≤ n1 ∧ x.2.1.e = 0 ∧ Ow 5 1 x.2.2.1 x.2.1.out.length (bsv x.2.1.out) x.2.2.2.1 ∧ x.2.1.out.length ≤ most ∧ RdN q d x.2.1.t x.2.2.2.2 E ∧ stL d most (n1 - x.1) x.2.1 = R) (fun x => n1 - x.1) (0, s2, .slice va s2.out.length vc, C, D2) ⟨Nat.zero_le _, h2, ho, hom, hr2, x4.symm⟩ (by repeat (first | exact Sub.nil | refine Sub.cons rfl ?_ | refine Sub.cons (lk_int rfl (by first | omega | (dsimp only; omega))) ?_)) (fun w h => iH h) ?_
  rintro ⟨i, s5, v1, C1, D5⟩ ⟨hi, he5, hov, hol, hr5, hsl⟩
  simp only at hi he5 hov hol hr5 hsl ⊢
  (repeat' (first | (show WL _ _ _ _ _ _ _; first | refine jA ?_ | refine jB ?_ | refine jC ?_ | refine jD ?_ | refine jE ?_ | refine jF ?_) | (show OW _ _ _ _ _ _; first | refine OW_E ?_ | refine jI ?_ | refine jJ ?_ | refine jK (fun bk => ?_) | refine jL (fun bk => ?_)) | (show WC _ _ _ _ _ _; first | refine jM ?_ | refine jN ?_ | refine jO ?_ | refine jP ?_ | refine jR ?_ | refine jS ?_ | refine jT ?_ | refine jU ?_) | (show WQ _ _ _ _; with_reducible first | refine jV ?_ | refine jW ?_ | refine jX ?_ | refine jY ?_ | refine jZ ?_ | refine kA ?_ | refine kB ?_ | refine kC ?_) | ((first | (refine jG (fun hc => ?_) (fun hc => ?_) <;> rw [hc]) | refine jQ (fun hc => ?_) (fun hc => ?_)) <;> (try simp only [nrB] at hc) <;> (try (exfalso; first | omega | exact hc trivial | exact hc rfl)))))
  · obtain ⟨k2, hk2⟩ : ∃ k2, n1 - i = k2 + 1 := ⟨n1 - i - 1, by omega⟩
    have hk3 : n1 - (i + 1) = k2 := by omega
    rw [hk2, stL, if_pos he5] at hsl
    have htk := ptake_n p q most 8 v1 kn d s5 D5 E (C1 :: L) hr5 hl (by decide) he5
    have hv6 := tv_lt d s5 8
    have ho6 := tk_out d s5 8
    rw [← ho6] at hov
    generalize tv d s5 8 = x at htk hv6 hsl
    generalize tk d s5 8 = s6 at htk hsl ho6 hov
    unfold rdR at htk ⊢
    refine OW_call rfl rfl rfl (Gv.holds htk (fun w h => iH h)) rfl (fun r L' hp => ?_)
    rcases hp with ⟨h6, rfl, rfl⟩ | ⟨h6, rfl, D6, hr6, rfl⟩
    · rw [if_neg h6, stL_err h6] at hsl
      subst hsl
      (repeat' (first | (show WL _ _ _ _ _ _ _; first | refine jA ?_ | refine jB ?_ | refine jC ?_ | refine jD ?_ | refine jE ?_ | refine jF ?_) | (show OW _ _ _ _ _ _; first | refine OW_E ?_ | refine jI ?_ | refine jJ ?_ | refine jK (fun bk => ?_) | refine jL (fun bk => ?_)) | (show WC _ _ _ _ _ _; first | refine jM ?_ | refine jN ?_ | refine jO ?_ | refine jP ?_ | refine jR ?_ | refine jS ?_ | refine jT ?_ | refine jU ?_) | (show WQ _ _ _ _; with_reducible first | refine jV ?_ | refine jW ?_ | refine jX ?_ | refine jY ?_ | refine jZ ?_ | refine kA ?_ | refine kB ?_ | refine kC ?_) | ((first | (refine jG (fun hc => ?_) (fun hc => ?_) <;> rw [hc]) | refine jQ (fun hc => ?_) (fun hc => ?_)) <;> (try simp only [nrB] at hc) <;> (try (exfalso; first | omega | exact hc trivial | exact hc rfl)))))
      (first | refine WQ_retI rfl rfl ?_ | refine WQ_endI rfl rfl ?_)
      exact ⟨_, iC, .inl ⟨h6, rfl, rfl⟩⟩
    rw [if_pos h6] at hsl
    have hput := pput_n p q most (UInt8.ofNat x) v1 kn s6 C1 (D6 :: E :: L) hov hm h6 hkn
    have hpt := pt_t most s6 (UInt8.ofNat x)
    have hpl : (pt most s6 (UInt8.ofNat x)).e = 0 → (pt most s6 (UInt8.ofNat x)).out.length ≤ most := by
      intro hq
      by_cases hc : s6.out.length < most
      · rw [pt_ok hc]; simp; omega
      · rw [pt_no (by omega), fl_e, if_pos h6] at hq; cases hq
    generalize pt most s6 (UInt8.ofNat x) = s7 at hput hsl hpt hpl
    rw [byte_of (by omega)] at hput
    unfold rdR at hput
    (repeat' (first | (show WL _ _ _ _ _ _ _; first | refine jA ?_ | refine jB ?_ | refine jC ?_ | refine jD ?_ | refine jE ?_ | refine jF ?_) | (show OW _ _ _ _ _ _; first | refine OW_E ?_ | refine jI ?_ | refine jJ ?_ | refine jK (fun bk => ?_) | refine jL (fun bk => ?_)) | (show WC _ _ _ _ _ _; first | refine jM ?_ | refine jN ?_ | refine jO ?_ | refine jP ?_ | refine jR ?_ | refine jS ?_ | refine jT ?_ | refine jU ?_) | (show WQ _ _ _ _; with_reducible first | refine jV ?_ | refine jW ?_ | refine jX ?_ | refine jY ?_ | refine jZ ?_ | refine kA ?_ | refine kB ?_ | refine kC ?_) | ((first | (refine jG (fun hc => ?_) (fun hc => ?_) <;> rw [hc]) | refine jQ (fun hc => ?_) (fun hc => ?_)) <;> (try simp only [nrB] at hc) <;> (try (exfalso; first | omega | exact hc trivial | exact hc rfl)))))
    try rw [wrap_byte]
    try rw [byte_of (by omega)]
    refine OW_call rfl rfl rfl (Gv.holds hput (fun w h => iH h)) rfl (fun r L' hp => ?_)
    rcases hp with ⟨h7, rfl, rfl⟩ | ⟨h7, rfl, v7, C7, ho7, rfl⟩
    · rw [stL_err h7] at hsl
      subst hsl
      (repeat' (first | (show WL _ _ _ _ _ _ _; first | refine jA ?_ | refine jB ?_ | refine jC ?_ | refine jD ?_ | refine jE ?_ | refine jF ?_) | (show OW _ _ _ _ _ _; first | refine OW_E ?_ | refine jI ?_ | refine jJ ?_ | refine jK (fun bk => ?_) | refine jL (fun bk => ?_)) | (show WC _ _ _ _ _ _; first | refine jM ?_ | refine jN ?_ | refine jO ?_ | refine jP ?_ | refine jR ?_ | refine jS ?_ | refine jT ?_ | refine jU ?_) | (show WQ _ _ _ _; with_reducible first | refine jV ?_ | refine jW ?_ | refine jX ?_ | refine jY ?_ | refine jZ ?_ | refine kA ?_ | refine kB ?_ | refine kC ?_) | ((first | (refine jG (fun hc => ?_) (fun hc => ?_) <;> rw [hc]) | refine jQ (fun hc => ?_) (fun hc => ?_)) <;> (try simp only [nrB] at hc) <;> (try (exfalso; first | omega | exact hc trivial | exact hc rfl)))))
      (first | refine WQ_retI rfl rfl ?_ | refine WQ_endI rfl rfl ?_)
      exact ⟨_, iC, .inl ⟨h7, rfl, rfl⟩⟩
    (repeat' (first | (show WL _ _ _ _ _ _ _; first | refine jA ?_ | refine jB ?_ | refine jC ?_ | refine jD ?_ | refine jE ?_ | refine jF ?_) | (show OW _ _ _ _ _ _; first | refine OW_E ?_ | refine jI ?_ | refine jJ ?_ | refine jK (fun bk => ?_) | refine jL (fun bk => ?_)) | (show WC _ _ _ _ _ _; first | refine jM ?_ | refine jN ?_ | refine jO ?_ | refine jP ?_ | refine jR ?_ | refine jS ?_ | refine jT ?_ | refine jU ?_) | (show WQ _ _ _ _; with_reducible first | refine jV ?_ | refine jW ?_ | refine jX ?_ | refine jY ?_ | refine jZ ?_ | refine kA ?_ | refine kB ?_ | refine kC ?_) | ((first | (refine jG (fun hc => ?_) (fun hc => ?_) <;> rw [hc]) | refine jQ (fun hc => ?_) (fun hc => ?_)) <;> (try simp only [nrB] at hc) <;> (try (exfalso; first | omega | exact hc trivial | exact hc rfl)))))
    refine WQ_round (X := Nat × S6 × Value × Chunk × Chunk) (μ := fun x => n1 - x.1) (x := (i, s5, v1, C1, D5)) (i + 1, s7, v7, C7, D6) (by simp only; omega) ⟨by simp only; omega, h7, ho7, hpl h7, by simp only; rw [hpt]; exact hr6, by simp only; rw [hk3]; exact hsl⟩ (by repeat (first | exact Sub.nil | refine Sub.cons rfl ?_ | refine Sub.cons (lk_int rfl (by first | omega | (dsimp only; omega))) ?_)) (fun w h => iH h)
  · obtain rfl : i = n1 := by omega
    rw [show i - i = 0 from by omega, stL] at hsl
    subst hsl
    (first | refine WQ_retI rfl rfl ?_ | refine WQ_endI rfl rfl ?_)
    exact ⟨_, iC, .inr ⟨he5, rfl, _, D5, C1, hov, hol, hr5, rfl⟩⟩
end Go.Proofs.YtkiaegkojlhaeaaDoor
/- Package inflate: blocks of codes. It proves no statement by itself. No conditions. -/
namespace Go.Vx
section
variable [W0] {P : Program} {n : Nat} {M : List (Nat × Value)} {L : List Chunk}
/-- A scope that nobody jumps in, at a body's top. -/
theorem WC_scope {c : Code} {fn : Func} {R : Ending → World → Prop} (h : WC P n c (bodyPost P fn R) M L) : WC P n (.scope c) (bodyPost P fn R) M L :=
  ⟨fun a w ha hw => wp_scope_straight (wp_mono (h.out a w ha hw) (fun e a' w' hq => by cases e <;> exact hq))⟩
end
end Go.Vx
namespace Go.Proofs.YtkiaegkojlhaeaaDoor
open Go Go.Vx Go.Hf Go.If
variable [W0]
set_option maxRecDepth 4000
set_option linter.all false
omit [W0] in
/-- The two codes of a block. -/
def csC (pc pl pd : Nat) : Chunk := [(pc, cl [.pointer (some ⟨pl, 0, none⟩), .pointer (some ⟨pd, 0, none⟩)] 106)]

/-- A symbol read, in the document's words. -/
theorem psym_n (q pl : Nat) (l : List Nat) (d : List UInt8) (s : S6) (D E Cl : Chunk) (L : List Chunk) (h : RdN q d s.t D E) (hl : d.length ≤ 140737488355328) (he : s.e = 0)
    (hC : CoD l pl Cl) (hk : kS l ≤ 32768) (h15 : ∀ x ∈ l, x ≤ 15) (h400 : l.length ≤ 400) :
    Gv Tryd.prog 68 [.pointer (some ⟨pl, 0, none⟩), .pointer (some ⟨q, 0, none⟩)].toArray (Cl :: D :: E :: L) (fun r L' => ∃ D', r = .tuple #[.int .i64 ((sv d s l : Nat) : Int), .int .i64 ((sy d s l).e : Int)] ∧ RdN q d (sy d s l).t D' E ∧ L' = Cl :: D' :: E :: L) := by
  have hr := hread_n pl q s.t l d Cl D E L hC hk h15 h400 h hl
  have hsv : sv d s l = (rdS l (val d) s.t (8 * d.length) 16 0).1 := by unfold sv; rw [if_pos he]
  have hsy : sy d s l = ⟨s.t + (rdS l (val d) s.t (8 * d.length) 16 0).2.2, s.out, (rdS l (val d) s.t (8 * d.length) 16 0).2.1⟩ := by unfold sy fl; rw [if_pos he, if_pos (by exact he)]
  rw [← hsv] at hr
  have e1 : s.t + (rdS l (val d) s.t (8 * d.length) 16 0).2.2 = (sy d s l).t := by rw [hsy]
  have e2 : (rdS l (val d) s.t (8 * d.length) 16 0).2.1 = (sy d s l).e := by rw [hsy]
  rw [e1, e2] at hr
  exact hr

set_option maxHeartbeats 8000000 in
theorem pcoded_n (p q pc pl pd most : Nat) (v kn : Value) (l dl : List Nat) (d : List UInt8) (s : S6) (D E C Cl Cd : Chunk) (L : List Chunk) (h : RdN q d s.t D E) (hl : d.length ≤ 140737488355328) (he : s.e = 0) (hm : most ≤ 1000000) (hkn : kn.oneCell' = true)
    (ho : Ow 5 1 v s.out.length (bsv s.out) C) (hom : s.out.length ≤ most) (hCl : CoD l pl Cl) (hkl : kS l ≤ 32768) (h15l : ∀ x ∈ l, x ≤ 15) (h400l : l.length ≤ 400) (hC : CoD dl pd Cd) (hk : kS dl ≤ 32768) (h15 : ∀ x ∈ dl, x ≤ 15) (h400 : dl.length ≤ 400) :
    Gv Tryd.prog 58 [.pointer (some ⟨p, 0, none⟩), .pointer (some ⟨pc, 0, none⟩)].toArray (rdR p q v most kn :: D :: E :: C :: csC pc pl pd :: Cl :: Cd :: L) (fun r L' =>
      ((cdC d most l dl (8 * d.length + 1) s).e ≠ 0 ∧ r = .int .i64 ((cdC d most l dl (8 * d.length + 1) s).e : Int) ∧ L' = L) ∨
      ((cdC d most l dl (8 * d.length + 1) s).e = 0 ∧ r = .int .i64 0 ∧ ∃ v' D' C', Ow 5 1 v' (cdC d most l dl (8 * d.length + 1) s).out.length (bsv (cdC d most l dl (8 * d.length + 1) s).out) C' ∧ (cdC d most l dl (8 * d.length + 1) s).out.length ≤ most ∧ RdN q d (cdC d most l dl (8 * d.length + 1) s).t D' E ∧
        L' = rdR p q v' most kn :: D' :: E :: C' :: csC pc pl pd :: Cl :: Cd :: L)) := by
  refine Gv.of_body Tryd.func58 rfl rfl ?_
  generalize hR : cdC d most l dl (8 * d.length + 1) s = R
  (repeat' (first | (show WL _ _ _ _ _ _ _; first | refine jA ?_ | refine jB ?_ | refine jC ?_ | refine jD ?_ | refine jE ?_ | refine jF ?_) | (show OW _ _ _ _ _ _; first | refine OW_E ?_ | refine jI ?_ | refine jJ ?_ | refine jK (fun bk => ?_) | refine jL (fun bk => ?_)) | (show WC _ _ _ _ _ _; first | refine jM ?_ | refine jN ?_ | refine jO ?_ | refine jP ?_ | refine jR ?_ | refine jS ?_ | refine jT ?_ | refine jU ?_) | (show WQ _ _ _ _; with_reducible first | refine jV ?_ | refine jW ?_ | refine jX ?_ | refine jY ?_ | refine jZ ?_ | refine kA ?_ | refine kB ?_ | refine kC ?_) | ((first | (refine jG (fun hc => ?_) (fun hc => ?_) <;> rw [hc]) | refine jQ (fun hc => ?_) (fun hc => ?_)) <;> (try simp only [nrB] at hc) <;> (try (exfalso; first | omega | exact hc trivial | exact hc rfl)))))
  refine WC_scope ?_
  refine WC_seq ?_
  refine WC_label ?_
  (repeat' (first | (show WL _ _ _ _ _ _ _; first | refine jA ?_ | refine jB ?_ | refine jC ?_ | refine jD ?_ | refine jE ?_ | refine jF ?_) | (show OW _ _ _ _ _ _; first | refine OW_E ?_ | refine jI ?_ | refine jJ ?_ | refine jK (fun bk => ?_) | refine jL (fun bk => ?_)) | (show WC _ _ _ _ _ _; first | refine jM ?_ | refine jN ?_ | refine jO ?_ | refine jP ?_ | refine jR ?_ | refine jS ?_ | refine jT ?_ | refine jU ?_) | (show WQ _ _ _ _; with_reducible first | refine jV ?_ | refine jW ?_ | refine jX ?_ | refine jY ?_ | refine jZ ?_ | refine kA ?_ | refine kB ?_ | refine kC ?_) | ((first | (refine jG (fun hc => ?_) (fun hc => ?_) <;> rw [hc]) | refine jQ (fun hc => ?_) (fun hc => ?_)) <;> (try simp only [nrB] at hc) <;> (try (exfalso; first | omega | exact hc trivial | exact hc rfl)))))
  refine WC_loop (X := Nat × S6 × Value × Chunk × Chunk) (fun x => [(0, .pointer (some ⟨p, 0, none⟩)), (1, .pointer (some ⟨pc, 0, none⟩))]) (fun x => rdR p q x.2.2.1 most kn :: x.2.2.2.1 :: x.2.2.2.2 :: E :: csC pc pl pd :: Cl :: Cd :: L)
    (fun x => x.2.1.e = 0 ∧ 8 * d.length < x.1 + x.2.1.t ∧ Ow 5 1 x.2.2.1 x.2.1.out.length (bsv x.2.1.out) x.2.2.2.1 ∧ x.2.1.out.length ≤ most ∧ RdN q d x.2.1.t x.2.2.2.2 E ∧ cdC d most l dl x.1 x.2.1 = R) (fun x => x.1) (8 * d.length + 1, s, v, C, D) ⟨he, by simp only; omega, ho, hom, h, hR⟩ (by repeat (first | exact Sub.nil | refine Sub.cons rfl ?_ | refine Sub.cons (lk_int rfl (by first | omega | (dsimp only; omega))) ?_)) (fun w h => iH h) ?_
  rintro ⟨f, s1, v1, C1, D1⟩ ⟨he1, hf, hov, hol, hr1, hsl⟩
  simp only at he1 hf hov hol hr1 hsl ⊢
  obtain ⟨va, vc, rfl⟩ := ow_slc hov
  have hs1 := psym_n q pl l d s1 D1 E Cl (rdR p q (.slice va s1.out.length vc) most kn :: C1 :: csC pc pl pd :: Cd :: L) hr1 hl he1 hCl hkl h15l h400l
  unfold rdR csC at hs1 ⊢
  (repeat' (first | (show WL _ _ _ _ _ _ _; first | refine jA ?_ | refine jB ?_ | refine jC ?_ | refine jD ?_ | refine jE ?_ | refine jF ?_) | (show OW _ _ _ _ _ _; first | refine OW_E ?_ | refine jI ?_ | refine jJ ?_ | refine jK (fun bk => ?_) | refine jL (fun bk => ?_)) | (show WC _ _ _ _ _ _; first | refine jM ?_ | refine jN ?_ | refine jO ?_ | refine jP ?_ | refine jR ?_ | refine jS ?_ | refine jT ?_ | refine jU ?_) | (show WQ _ _ _ _; with_reducible first | refine jV ?_ | refine jW ?_ | refine jX ?_ | refine jY ?_ | refine jZ ?_ | refine kA ?_ | refine kB ?_ | refine kC ?_) | ((first | (refine jG (fun hc => ?_) (fun hc => ?_) <;> rw [hc]) | refine jQ (fun hc => ?_) (fun hc => ?_)) <;> (try simp only [nrB] at hc) <;> (try (exfalso; first | omega | exact hc trivial | exact hc rfl)))))
  refine WC_draw [[(p, cl [.pointer (some ⟨q, 0, none⟩), .slice va s1.out.length vc, .int .i64 (most : Int), kn] 47)], [(pc, cl [.pointer (some ⟨pl, 0, none⟩), .pointer (some ⟨pd, 0, none⟩)] 106)]] [] mixed ?_
  (refine WR_t 0 ?_; refine WR_t 1 ?_; refine WR_t 2 ?_; refine WR_t 3 ?_; refine WR_t 4 ?_; refine WR_t 5 ?_; refine WR_t 6 ?_; refine WR_t 7 ?_)
  (refine WR_one 8 (by kernel_rfl) rfl rfl ?_)
  refine OW_call rfl rfl rfl (Gv.holds hs1 (fun w h => iH h)) rfl (fun r L' hp => ?_)
  obtain ⟨D2, rfl, hr2, rfl⟩ := hp
  refine ⟨iC, ?_⟩
  (refine WR_t 9 ?_; refine WR_t 10 ?_; refine WR_t 11 ?_; refine WR_t 12 ?_; refine WR_t 13 ?_)
  (refine WR_done (by kernel_rfl) ?_)
  (repeat' (first | (show WL _ _ _ _ _ _ _; first | refine jA ?_ | refine jB ?_ | refine jC ?_ | refine jD ?_ | refine jE ?_ | refine jF ?_) | (show OW _ _ _ _ _ _; first | refine OW_E ?_ | refine jI ?_ | refine jJ ?_ | refine jK (fun bk => ?_) | refine jL (fun bk => ?_)) | (show WC _ _ _ _ _ _; first | refine jM ?_ | refine jN ?_ | refine jO ?_ | refine jP ?_ | refine jR ?_ | refine jS ?_ | refine jT ?_ | refine jU ?_) | (show WQ _ _ _ _; with_reducible first | refine jV ?_ | refine jW ?_ | refine jX ?_ | refine jY ?_ | refine jZ ?_ | refine kA ?_ | refine kB ?_ | refine kC ?_) | ((first | (refine jG (fun hc => ?_) (fun hc => ?_) <;> rw [hc]) | refine jQ (fun hc => ?_) (fun hc => ?_)) <;> (try simp only [nrB] at hc) <;> (try (exfalso; first | omega | exact hc trivial | exact hc rfl)))))
  refine WC_loop (X := Nat × S6 × Value × Chunk × Chunk) (fun x => [(0, .pointer (some ⟨p, 0, none⟩)), (1, .pointer (some ⟨pc, 0, none⟩)), (5, .int .i64 ((sv d x.2.1 l : Nat) : Int)), (6, .int .i64 ((sy d x.2.1 l).e : Int))]) (fun x => rdR p q x.2.2.1 most kn :: x.2.2.2.1 :: x.2.2.2.2 :: E :: csC pc pl pd :: Cl :: Cd :: L)
    (fun x => x.1 ≤ f ∧ x.2.1.e = 0 ∧ 8 * d.length < x.1 + x.2.1.t ∧ x.2.1.t ≤ 8 * d.length ∧ Ow 5 1 x.2.2.1 x.2.1.out.length (bsv x.2.1.out) x.2.2.2.1 ∧ x.2.1.out.length ≤ most ∧ RdN q d (sy d x.2.1 l).t x.2.2.2.2 E ∧ cdC d most l dl x.1 x.2.1 = R) (fun x => x.1) (f, s1, .slice va s1.out.length vc, C1, D2) ⟨Nat.le_refl _, he1, hf, hr1.1, hov, hol, hr2, hsl⟩ (by repeat (first | exact Sub.nil | refine Sub.cons rfl ?_ | refine Sub.cons (lk_int rfl (by first | omega | (dsimp only; omega))) ?_)) (fun w h => iH h) ?_
  clear hsl hr2 hr1 hol hov
  rintro ⟨g, s3, v3, C3, D3⟩ ⟨hgf, he3, hg, ht3, hov3, hol3, hr3, hsl3⟩
  simp only at hgf he3 hg ht3 hov3 hol3 hr3 hsl3 ⊢
  obtain ⟨g, rfl⟩ : ∃ z, g = z + 1 := ⟨g - 1, by omega⟩
  rw [cdC, if_neg (show ¬ s3.e ≠ 0 by omega)] at hsl3
  have hgo := fun h => sy_go (d := d) (l := l) he3 h
  have hsv := sv_le d s3 l
  have hso := sy_out d s3 l
  have hpt := fun c => pt_t most (sy d s3 l) c
  have hmt := fun k => mtS_t d most k dl (sy d s3 l)
  rw [← hso] at hov3 hol3
  generalize sv d s3 l = k at hsl3 hsv ⊢
  generalize sy d s3 l = s4 at hsl3 hgo hso hpt hmt hov3 hol3 hr3 ⊢
  obtain ⟨wa, wc, rfl⟩ := ow_slc hov3
  unfold rdR csC
  (repeat' (first | (show WL _ _ _ _ _ _ _; first | refine jA ?_ | refine jB ?_ | refine jC ?_ | refine jD ?_ | refine jE ?_ | refine jF ?_) | (show OW _ _ _ _ _ _; first | refine OW_E ?_ | refine jI ?_ | refine jJ ?_ | refine jK (fun bk => ?_) | refine jL (fun bk => ?_)) | (show WC _ _ _ _ _ _; first | refine jM ?_ | refine jN ?_ | refine jO ?_ | refine jP ?_ | refine jR ?_ | refine jS ?_ | refine jT ?_ | refine jU ?_) | (show WQ _ _ _ _; with_reducible first | refine jV ?_ | refine jW ?_ | refine jX ?_ | refine jY ?_ | refine jZ ?_ | refine kA ?_ | refine kB ?_ | refine kC ?_) | ((first | (refine jG (fun hc => ?_) (fun hc => ?_) <;> rw [hc]) | refine jQ (fun hc => ?_) (fun hc => ?_)) <;> (try simp only [nrB] at hc) <;> (try (exfalso; first | omega | exact hc trivial | exact hc rfl)))))
  · rw [if_neg (show ¬ s4.e ≠ 0 by omega), if_neg (show ¬ k < 256 by omega), if_pos (show k = 256 by omega)] at hsl3
    rw [← hsl3]
    (first | refine WQ_retI rfl rfl ?_ | refine WQ_endI rfl rfl ?_)
    exact ⟨_, iC, .inr ⟨by omega, rfl, _, D3, C3, hov3, hol3, hr3, rfl⟩⟩
  · have hgo := hgo (by omega)
    have h4 : s4.e = 0 := by omega
    rw [if_neg (show ¬ s4.e ≠ 0 by omega), if_pos (show k < 256 by omega)] at hsl3
    try rw [wrap_byte]
    have hput := pput_n p q most (UInt8.ofNat k) (.slice wa s4.out.length wc) kn s4 C3 (D3 :: E :: csC pc pl pd :: Cl :: Cd :: L) hov3 hm h4 hkn
    have hpt := hpt (UInt8.ofNat k)
    have hpl : (pt most s4 (UInt8.ofNat k)).e = 0 → (pt most s4 (UInt8.ofNat k)).out.length ≤ most := by
      intro hq
      by_cases hc : s4.out.length < most
      · rw [pt_ok hc]; simp; omega
      · rw [pt_no (by omega), fl_e, if_pos h4] at hq; cases hq
    generalize pt most s4 (UInt8.ofNat k) = s5 at hput hsl3 hpt hpl
    unfold rdR csC at hput
    refine OW_call rfl rfl rfl (Gv.holds hput (fun w h => iH h)) rfl (fun r L' hp => ?_)
    rcases hp with ⟨h5, rfl, rfl⟩ | ⟨h5, rfl, v5, C5, ho5, rfl⟩
    · rw [cdC_err h5] at hsl3
      subst hsl3
      (repeat' (first | (show WL _ _ _ _ _ _ _; first | refine jA ?_ | refine jB ?_ | refine jC ?_ | refine jD ?_ | refine jE ?_ | refine jF ?_) | (show OW _ _ _ _ _ _; first | refine OW_E ?_ | refine jI ?_ | refine jJ ?_ | refine jK (fun bk => ?_) | refine jL (fun bk => ?_)) | (show WC _ _ _ _ _ _; first | refine jM ?_ | refine jN ?_ | refine jO ?_ | refine jP ?_ | refine jR ?_ | refine jS ?_ | refine jT ?_ | refine jU ?_) | (show WQ _ _ _ _; with_reducible first | refine jV ?_ | refine jW ?_ | refine jX ?_ | refine jY ?_ | refine jZ ?_ | refine kA ?_ | refine kB ?_ | refine kC ?_) | ((first | (refine jG (fun hc => ?_) (fun hc => ?_) <;> rw [hc]) | refine jQ (fun hc => ?_) (fun hc => ?_)) <;> (try simp only [nrB] at hc) <;> (try (exfalso; first | omega | exact hc trivial | exact hc rfl)))))
      (first | refine WQ_retI rfl rfl ?_ | refine WQ_endI rfl rfl ?_)
      exact ⟨_, iC, .inl ⟨h5, rfl, rfl⟩⟩
    (repeat' (first | (show WL _ _ _ _ _ _ _; first | refine jA ?_ | refine jB ?_ | refine jC ?_ | refine jD ?_ | refine jE ?_ | refine jF ?_) | (show OW _ _ _ _ _ _; first | refine OW_E ?_ | refine jI ?_ | refine jJ ?_ | refine jK (fun bk => ?_) | refine jL (fun bk => ?_)) | (show WC _ _ _ _ _ _; first | refine jM ?_ | refine jN ?_ | refine jO ?_ | refine jP ?_ | refine jR ?_ | refine jS ?_ | refine jT ?_ | refine jU ?_) | (show WQ _ _ _ _; with_reducible first | refine jV ?_ | refine jW ?_ | refine jX ?_ | refine jY ?_ | refine jZ ?_ | refine kA ?_ | refine kB ?_ | refine kC ?_) | ((first | (refine jG (fun hc => ?_) (fun hc => ?_) <;> rw [hc]) | refine jQ (fun hc => ?_) (fun hc => ?_)) <;> (try simp only [nrB] at hc) <;> (try (exfalso; first | omega | exact hc trivial | exact hc rfl)))))
    have hr5 : RdN q d s5.t D3 E := by rw [hpt]; exact hr3
    have hs5 := psym_n q pl l d s5 D3 E Cl (rdR p q v5 most kn :: C5 :: csC pc pl pd :: Cd :: L) hr5 hl h5 hCl hkl h15l h400l
    unfold rdR csC at hs5
    refine WC_draw [[(p, cl [.pointer (some ⟨q, 0, none⟩), v5, .int .i64 (most : Int), kn] 47)], [(pc, cl [.pointer (some ⟨pl, 0, none⟩), .pointer (some ⟨pd, 0, none⟩)] 106)]] [] mixed ?_
    (refine WR_t 0 ?_; refine WR_t 1 ?_; refine WR_t 2 ?_; refine WR_t 3 ?_; refine WR_t 4 ?_; refine WR_t 5 ?_; refine WR_t 6 ?_; refine WR_t 7 ?_)
    (refine WR_one 8 (by kernel_rfl) rfl rfl ?_)
    refine OW_call rfl rfl rfl (Gv.holds hs5 (fun w h => iH h)) rfl (fun r L' hp => ?_)
    obtain ⟨D6, rfl, hr6, rfl⟩ := hp
    refine ⟨iC, ?_⟩
    (refine WR_t 9 ?_; refine WR_t 10 ?_; refine WR_t 11 ?_; refine WR_t 12 ?_; refine WR_t 13 ?_)
    (refine WR_done (by kernel_rfl) ?_)
    (repeat' (first | (show WL _ _ _ _ _ _ _; first | refine jA ?_ | refine jB ?_ | refine jC ?_ | refine jD ?_ | refine jE ?_ | refine jF ?_) | (show OW _ _ _ _ _ _; first | refine OW_E ?_ | refine jI ?_ | refine jJ ?_ | refine jK (fun bk => ?_) | refine jL (fun bk => ?_)) | (show WC _ _ _ _ _ _; first | refine jM ?_ | refine jN ?_ | refine jO ?_ | refine jP ?_ | refine jR ?_ | refine jS ?_ | refine jT ?_ | refine jU ?_) | (show WQ _ _ _ _; with_reducible first | refine jV ?_ | refine jW ?_ | refine jX ?_ | refine jY ?_ | refine jZ ?_ | refine kA ?_ | refine kB ?_ | refine kC ?_) | ((first | (refine jG (fun hc => ?_) (fun hc => ?_) <;> rw [hc]) | refine jQ (fun hc => ?_) (fun hc => ?_)) <;> (try simp only [nrB] at hc) <;> (try (exfalso; first | omega | exact hc trivial | exact hc rfl)))))
    refine WQ_round (X := Nat × S6 × Value × Chunk × Chunk) (μ := fun x => x.1) (x := (g + 1, s3, .slice wa s4.out.length wc, C3, D3)) (g, s5, v5, C5, D6) (by simp only; omega) ⟨by simp only; omega, h5, by simp only; omega, hr5.1, ho5, hpl h5, hr6, hsl3⟩ (by repeat (first | exact Sub.nil | refine Sub.cons rfl ?_ | refine Sub.cons (lk_int rfl (by first | omega | (dsimp only; omega))) ?_)) (fun w h => iH h)
  · have hgo := hgo (by omega)
    have h4 : s4.e = 0 := by omega
    rw [if_neg (show ¬ s4.e ≠ 0 by omega), if_neg (show ¬ k < 256 by omega), if_neg (show ¬ k = 256 by omega)] at hsl3
    have hma := pmatch_n p q pd most k (.slice wa s4.out.length wc) kn dl d s4 D3 E C3 Cd (csC pc pl pd :: Cl :: L) hr3 hl h4 hm hkn hov3 hol3 (by omega) (by omega) hC hk h15 h400
    have hmt := hmt k
    generalize mtS d most k dl s4 = s5 at hma hmt hsl3
    unfold rdR csC at hma
    refine OW_call rfl rfl rfl (Gv.holds hma (fun w h => iH h)) rfl (fun r L' hp => ?_)
    rcases hp with ⟨h5, rfl, rfl⟩ | ⟨h5, rfl, v5, D5, C5, ho5, hl5, hr5, rfl⟩
    · rw [cdC_err h5] at hsl3
      subst hsl3
      (repeat' (first | (show WL _ _ _ _ _ _ _; first | refine jA ?_ | refine jB ?_ | refine jC ?_ | refine jD ?_ | refine jE ?_ | refine jF ?_) | (show OW _ _ _ _ _ _; first | refine OW_E ?_ | refine jI ?_ | refine jJ ?_ | refine jK (fun bk => ?_) | refine jL (fun bk => ?_)) | (show WC _ _ _ _ _ _; first | refine jM ?_ | refine jN ?_ | refine jO ?_ | refine jP ?_ | refine jR ?_ | refine jS ?_ | refine jT ?_ | refine jU ?_) | (show WQ _ _ _ _; with_reducible first | refine jV ?_ | refine jW ?_ | refine jX ?_ | refine jY ?_ | refine jZ ?_ | refine kA ?_ | refine kB ?_ | refine kC ?_) | ((first | (refine jG (fun hc => ?_) (fun hc => ?_) <;> rw [hc]) | refine jQ (fun hc => ?_) (fun hc => ?_)) <;> (try simp only [nrB] at hc) <;> (try (exfalso; first | omega | exact hc trivial | exact hc rfl)))))
      (first | refine WQ_retI rfl rfl ?_ | refine WQ_endI rfl rfl ?_)
      exact ⟨_, iC, .inl ⟨h5, rfl, rfl⟩⟩
    (repeat' (first | (show WL _ _ _ _ _ _ _; first | refine jA ?_ | refine jB ?_ | refine jC ?_ | refine jD ?_ | refine jE ?_ | refine jF ?_) | (show OW _ _ _ _ _ _; first | refine OW_E ?_ | refine jI ?_ | refine jJ ?_ | refine jK (fun bk => ?_) | refine jL (fun bk => ?_)) | (show WC _ _ _ _ _ _; first | refine jM ?_ | refine jN ?_ | refine jO ?_ | refine jP ?_ | refine jR ?_ | refine jS ?_ | refine jT ?_ | refine jU ?_) | (show WQ _ _ _ _; with_reducible first | refine jV ?_ | refine jW ?_ | refine jX ?_ | refine jY ?_ | refine jZ ?_ | refine kA ?_ | refine kB ?_ | refine kC ?_) | ((first | (refine jG (fun hc => ?_) (fun hc => ?_) <;> rw [hc]) | refine jQ (fun hc => ?_) (fun hc => ?_)) <;> (try simp only [nrB] at hc) <;> (try (exfalso; first | omega | exact hc trivial | exact hc rfl)))))
    refine WQ_round (X := Nat × S6 × Value × Chunk × Chunk) (μ := fun x => x.1) (x := (f, s1, .slice va s1.out.length vc, C1, D1)) (g, s5, v5, C5, D5) (by simp only; omega) ⟨h5, by simp only; omega, ho5, hl5, hr5, hsl3⟩ (by repeat (first | exact Sub.nil | refine Sub.cons rfl ?_ | refine Sub.cons (lk_int rfl (by first | omega | (dsimp only; omega))) ?_)) (fun w h => iH h)
  · have h4 : s4.e ≠ 0 := by omega
    rw [if_pos h4] at hsl3
    subst hsl3
    (first | refine WQ_retI rfl rfl ?_ | refine WQ_endI rfl rfl ?_)
    exact ⟨_, iC, .inl ⟨h4, rfl, rfl⟩⟩
end Go.Proofs.YtkiaegkojlhaeaaDoor
