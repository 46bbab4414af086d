/- Package inflate: matches. It proves no statement by itself. No conditions. -/
import Derived.Test.YtkiaegkojlhaeaaDoorIg
namespace Go.Proofs.YtkiaegkojlhaeaaDoor
open Go Go.Vx Go.Hf Go.If
variable [W0]
set_option maxRecDepth 4000
set_option linter.all false

set_option maxHeartbeats 4000000 in
theorem plength_n (p q most k : Nat) (v kn : Value) (d : List UInt8) (s : S6) (D E : Chunk) (L : List Chunk) (h : RdN q d s.t D E) (hl : d.length ≤ 140737488355328) (he : s.e = 0) (hk1 : 257 ≤ k) (hk2 : k ≤ 1000) :
    Gv Tryd.prog 79 [.pointer (some ⟨p, 0, none⟩), .int .i64 (k : Int)].toArray (rdR p q v most kn :: D :: E :: L) (fun r L' =>
      ((lnS d k s).e ≠ 0 ∧ r = .tuple #[.int .i64 0, .int .i64 ((lnS d k s).e : Int)] ∧ L' = L) ∨
      ((lnS d k s).e = 0 ∧ k ≤ 285 ∧ r = .tuple #[.int .i64 (((lnB k).1 + tv d s (lnB k).2 : Nat) : Int), .int .i64 0] ∧ ∃ D', RdN q d (lnS d k s).t D' E ∧ L' = rdR p q v most kn :: D' :: E :: L)) := by
  refine Gv.of_body Tryd.func79 rfl rfl ?_
  by_cases h285 : 285 < k
  · unfold lnS
    rw [if_pos h285, fl_e, if_pos he]
    (repeat' (first | (show WL _ _ _ _ _ _ _; first | refine jA ?_ | refine jB ?_ | refine jC ?_ | refine jD ?_ | refine jE ?_ | refine jF ?_) | (show OW _ _ _ _ _ _; first | refine OW_E ?_ | refine jI ?_ | refine jJ ?_ | refine jK (fun bk => ?_) | refine jL (fun bk => ?_)) | (show WC _ _ _ _ _ _; first | refine jM ?_ | refine jN ?_ | refine jO ?_ | refine jP ?_ | refine jR ?_ | refine jS ?_ | refine jT ?_ | refine jU ?_) | (show WQ _ _ _ _; with_reducible first | refine jV ?_ | refine jW ?_ | refine jX ?_ | refine jY ?_ | refine jZ ?_ | refine kA ?_ | refine kB ?_ | refine kC ?_) | ((first | (refine jG (fun hc => ?_) (fun hc => ?_) <;> rw [hc]) | refine jQ (fun hc => ?_) (fun hc => ?_)) <;> (try simp only [nrB] at hc) <;> (try (exfalso; first | omega | exact hc trivial | exact hc rfl)))))
    refine WQ_retI (rs := [.tmp 4, .tmp 5]) (vs := [.int .i64 0, .int .i64 3]) rfl rfl ?_
    exact ⟨_, iC, .inl ⟨by decide, rfl, rfl⟩⟩
  · unfold lnS
    rw [if_neg h285]
    by_cases h2 : k = 285
    · have e1 : (lnB k).1 = 258 ∧ (lnB k).2 = 0 := by subst h2; exact ⟨rfl, rfl⟩
      rw [e1.1, e1.2, tv_zero, tk_zero h.1]
      (repeat' (first | (show WL _ _ _ _ _ _ _; first | refine jA ?_ | refine jB ?_ | refine jC ?_ | refine jD ?_ | refine jE ?_ | refine jF ?_) | (show OW _ _ _ _ _ _; first | refine OW_E ?_ | refine jI ?_ | refine jJ ?_ | refine jK (fun bk => ?_) | refine jL (fun bk => ?_)) | (show WC _ _ _ _ _ _; first | refine jM ?_ | refine jN ?_ | refine jO ?_ | refine jP ?_ | refine jR ?_ | refine jS ?_ | refine jT ?_ | refine jU ?_) | (show WQ _ _ _ _; with_reducible first | refine jV ?_ | refine jW ?_ | refine jX ?_ | refine jY ?_ | refine jZ ?_ | refine kA ?_ | refine kB ?_ | refine kC ?_) | ((first | (refine jG (fun hc => ?_) (fun hc => ?_) <;> rw [hc]) | refine jQ (fun hc => ?_) (fun hc => ?_)) <;> (try simp only [nrB] at hc) <;> (try (exfalso; first | omega | exact hc trivial | exact hc rfl)))))
      refine WQ_retI (rs := [.tmp 4, .tmp 5]) (vs := [.int .i64 258, .int .i64 0]) rfl rfl ?_
      exact ⟨_, iC, .inr ⟨he, by omega, rfl, D, h, rfl⟩⟩
    · have e1 : (lnB k).1 = 3 + spF (k - 257) 4 ∧ (lnB k).2 = spX (k - 257) 4 := by
        have := sp_len (k - 257) (by omega)
        unfold lnB
        rw [if_neg h2]
        exact ⟨this.1.symm, this.2.symm⟩
      rw [e1.1, e1.2]
      have hx4 : spX (k - 257) 4 ≤ 6 := by rw [(sp_len (k - 257) (by omega)).2]; exact exL_le _ (by omega)
      have hf4 : 3 + spF (k - 257) 4 ≤ 400 := by rw [(sp_len (k - 257) (by omega)).1]; exact baL_le _ (by omega)
      have hsp := span_n (k - 257) 4 (rdR p q v most kn :: D :: E :: L) (by omega) (by decide) (by decide) (by omega)
      have hcn := pcount_n p q most (spX (k - 257) 4) (3 + spF (k - 257) 4) v kn d s D E L h hl (by omega) he (by omega)
      generalize spX (k - 257) 4 = x4 at hsp hcn ⊢
      generalize spF (k - 257) 4 = f4 at hsp hcn hf4 ⊢
      generalize tv d s x4 = z at hcn ⊢
      generalize tk d s x4 = s1 at hcn ⊢
      (repeat' (first | (show WL _ _ _ _ _ _ _; first | refine jA ?_ | refine jB ?_ | refine jC ?_ | refine jD ?_ | refine jE ?_ | refine jF ?_) | (show OW _ _ _ _ _ _; first | refine OW_E ?_ | refine jI ?_ | refine jJ ?_ | refine jK (fun bk => ?_) | refine jL (fun bk => ?_)) | (show WC _ _ _ _ _ _; first | refine jM ?_ | refine jN ?_ | refine jO ?_ | refine jP ?_ | refine jR ?_ | refine jS ?_ | refine jT ?_ | refine jU ?_) | (show WQ _ _ _ _; with_reducible first | refine jV ?_ | refine jW ?_ | refine jX ?_ | refine jY ?_ | refine jZ ?_ | refine kA ?_ | refine kB ?_ | refine kC ?_) | ((first | (refine jG (fun hc => ?_) (fun hc => ?_) <;> rw [hc]) | refine jQ (fun hc => ?_) (fun hc => ?_)) <;> (try simp only [nrB] at hc) <;> (try (exfalso; first | omega | exact hc trivial | exact hc rfl)))))
      rw [show (k : Int) - 256 - 1 = ((k - 257 : Nat) : Int) from by omega]
      refine OW_callP rfl rfl rfl hsp rfl ?_
      (repeat' (first | (show WL _ _ _ _ _ _ _; first | refine jA ?_ | refine jB ?_ | refine jC ?_ | refine jD ?_ | refine jE ?_ | refine jF ?_) | (show OW _ _ _ _ _ _; first | refine OW_E ?_ | refine jI ?_ | refine jJ ?_ | refine jK (fun bk => ?_) | refine jL (fun bk => ?_)) | (show WC _ _ _ _ _ _; first | refine jM ?_ | refine jN ?_ | refine jO ?_ | refine jP ?_ | refine jR ?_ | refine jS ?_ | refine jT ?_ | refine jU ?_) | (show WQ _ _ _ _; with_reducible first | refine jV ?_ | refine jW ?_ | refine jX ?_ | refine jY ?_ | refine jZ ?_ | refine kA ?_ | refine kB ?_ | refine kC ?_) | ((first | (refine jG (fun hc => ?_) (fun hc => ?_) <;> rw [hc]) | refine jQ (fun hc => ?_) (fun hc => ?_)) <;> (try simp only [nrB] at hc) <;> (try (exfalso; first | omega | exact hc trivial | exact hc rfl)))))
      rw [show (3 : Int) + (f4 : Int) = ((3 + f4 : Nat) : Int) from by omega]
      refine OW_call rfl rfl rfl hcn rfl (fun r L' hp => ?_)
      rcases hp with ⟨h1, rfl, rfl⟩ | ⟨h1, rfl, D', hr, rfl⟩
      · (repeat' (first | (show WL _ _ _ _ _ _ _; first | refine jA ?_ | refine jB ?_ | refine jC ?_ | refine jD ?_ | refine jE ?_ | refine jF ?_) | (show OW _ _ _ _ _ _; first | refine OW_E ?_ | refine jI ?_ | refine jJ ?_ | refine jK (fun bk => ?_) | refine jL (fun bk => ?_)) | (show WC _ _ _ _ _ _; first | refine jM ?_ | refine jN ?_ | refine jO ?_ | refine jP ?_ | refine jR ?_ | refine jS ?_ | refine jT ?_ | refine jU ?_) | (show WQ _ _ _ _; with_reducible first | refine jV ?_ | refine jW ?_ | refine jX ?_ | refine jY ?_ | refine jZ ?_ | refine kA ?_ | refine kB ?_ | refine kC ?_) | ((first | (refine jG (fun hc => ?_) (fun hc => ?_) <;> rw [hc]) | refine jQ (fun hc => ?_) (fun hc => ?_)) <;> (try simp only [nrB] at hc) <;> (try (exfalso; first | omega | exact hc trivial | exact hc rfl)))))
        (first | refine WQ_retI rfl rfl ?_ | refine WQ_endI rfl rfl ?_)
        exact ⟨_, iC, .inl ⟨h1, rfl, rfl⟩⟩
      · (repeat' (first | (show WL _ _ _ _ _ _ _; first | refine jA ?_ | refine jB ?_ | refine jC ?_ | refine jD ?_ | refine jE ?_ | refine jF ?_) | (show OW _ _ _ _ _ _; first | refine OW_E ?_ | refine jI ?_ | refine jJ ?_ | refine jK (fun bk => ?_) | refine jL (fun bk => ?_)) | (show WC _ _ _ _ _ _; first | refine jM ?_ | refine jN ?_ | refine jO ?_ | refine jP ?_ | refine jR ?_ | refine jS ?_ | refine jT ?_ | refine jU ?_) | (show WQ _ _ _ _; with_reducible first | refine jV ?_ | refine jW ?_ | refine jX ?_ | refine jY ?_ | refine jZ ?_ | refine kA ?_ | refine kB ?_ | refine kC ?_) | ((first | (refine jG (fun hc => ?_) (fun hc => ?_) <;> rw [hc]) | refine jQ (fun hc => ?_) (fun hc => ?_)) <;> (try simp only [nrB] at hc) <;> (try (exfalso; first | omega | exact hc trivial | exact hc rfl)))))
        (first | refine WQ_retI rfl rfl ?_ | refine WQ_endI rfl rfl ?_)
        exact ⟨_, iC, .inr ⟨h1, by omega, rfl, D', hr, rfl⟩⟩

set_option maxHeartbeats 4000000 in
theorem pdist_n (p q pc most : Nat) (v kn : Value) (dl : List Nat) (d : List UInt8) (s : S6) (D E Cd : Chunk) (L : List Chunk) (h : RdN q d s.t D E) (hl : d.length ≤ 140737488355328) (he : s.e = 0)
    (hC : CoD dl pc Cd) (hk : kS dl ≤ 32768) (h15 : ∀ x ∈ dl, x ≤ 15) (h400 : dl.length ≤ 400) :
    Gv Tryd.prog 80 [.pointer (some ⟨p, 0, none⟩), .pointer (some ⟨pc, 0, none⟩)].toArray (rdR p q v most kn :: D :: E :: Cd :: L) (fun r L' =>
      ((dsS d dl s).e ≠ 0 ∧ r = .tuple #[.int .i64 0, .int .i64 ((dsS d dl s).e : Int)] ∧ L' = L) ∨
      ((dsS d dl s).e = 0 ∧ r = .tuple #[.int .i64 ((dsV d dl s : Nat) : Int), .int .i64 0] ∧ dsV d dl s ≤ 1000000 ∧ 1 ≤ dsV d dl s ∧ ∃ D', RdN q d (dsS d dl s).t D' E ∧ L' = rdR p q v most kn :: D' :: E :: Cd :: L)) := by
  refine Gv.of_body Tryd.func80 rfl rfl ?_
  have hr := hread_n pc q s.t dl d Cd D E (rdR p q v most kn :: L) hC hk h15 h400 h hl
  have hsv : sv d s dl = (rdS dl (val d) s.t (8 * d.length) 16 0).1 := by unfold sv; rw [if_pos he]
  have hsy : sy d s dl = ⟨s.t + (rdS dl (val d) s.t (8 * d.length) 16 0).2.2, s.out, (rdS dl (val d) s.t (8 * d.length) 16 0).2.1⟩ := by unfold sy fl; rw [if_pos he, if_pos (by exact he)]
  have hlt := (rdS_lt dl (val d) s.t (8 * d.length) 16 0).1
  rw [← hsv] at hr hlt
  have e1 : s.t + (rdS dl (val d) s.t (8 * d.length) 16 0).2.2 = (sy d s dl).t := by rw [hsy]
  have e2 : (rdS dl (val d) s.t (8 * d.length) 16 0).2.1 = (sy d s dl).e := by rw [hsy]
  rw [e1, e2] at hr
  clear hsy hsv e1 e2
  unfold dsS dsV
  generalize sv d s dl = t at hr hlt ⊢
  generalize sy d s dl = s1 at hr ⊢
  unfold rdR at hr ⊢
  (repeat' (first | (show WL _ _ _ _ _ _ _; first | refine jA ?_ | refine jB ?_ | refine jC ?_ | refine jD ?_ | refine jE ?_ | refine jF ?_) | (show OW _ _ _ _ _ _; first | refine OW_E ?_ | refine jI ?_ | refine jJ ?_ | refine jK (fun bk => ?_) | refine jL (fun bk => ?_)) | (show WC _ _ _ _ _ _; first | refine jM ?_ | refine jN ?_ | refine jO ?_ | refine jP ?_ | refine jR ?_ | refine jS ?_ | refine jT ?_ | refine jU ?_) | (show WQ _ _ _ _; with_reducible first | refine jV ?_ | refine jW ?_ | refine jX ?_ | refine jY ?_ | refine jZ ?_ | refine kA ?_ | refine kB ?_ | refine kC ?_) | ((first | (refine jG (fun hc => ?_) (fun hc => ?_) <;> rw [hc]) | refine jQ (fun hc => ?_) (fun hc => ?_)) <;> (try simp only [nrB] at hc) <;> (try (exfalso; first | omega | exact hc trivial | exact hc rfl)))))
  refine OW_call rfl rfl rfl (Gv.holds hr (fun w h => iH h)) rfl (fun r L' hp => ?_)
  obtain ⟨D1, rfl, hR1, rfl⟩ := hp
  (repeat' (first | (show WL _ _ _ _ _ _ _; first | refine jA ?_ | refine jB ?_ | refine jC ?_ | refine jD ?_ | refine jE ?_ | refine jF ?_) | (show OW _ _ _ _ _ _; first | refine OW_E ?_ | refine jI ?_ | refine jJ ?_ | refine jK (fun bk => ?_) | refine jL (fun bk => ?_)) | (show WC _ _ _ _ _ _; first | refine jM ?_ | refine jN ?_ | refine jO ?_ | refine jP ?_ | refine jR ?_ | refine jS ?_ | refine jT ?_ | refine jU ?_) | (show WQ _ _ _ _; with_reducible first | refine jV ?_ | refine jW ?_ | refine jX ?_ | refine jY ?_ | refine jZ ?_ | refine kA ?_ | refine kB ?_ | refine kC ?_) | ((first | (refine jG (fun hc => ?_) (fun hc => ?_) <;> rw [hc]) | refine jQ (fun hc => ?_) (fun hc => ?_)) <;> (try simp only [nrB] at hc) <;> (try (exfalso; first | omega | exact hc trivial | exact hc rfl)))))
  · rw [if_pos (show s1.e ≠ 0 by omega)]
    (first | refine WQ_retI rfl rfl ?_ | refine WQ_endI rfl rfl ?_)
    exact ⟨_, iC, .inl ⟨by omega, rfl, rfl⟩⟩
  · have h0 : s1.e = 0 := by omega
    rw [if_neg (show ¬ s1.e ≠ 0 by omega), if_pos (show 29 < t by omega), fl_e, if_pos h0]
    refine WQ_retI (rs := [.tmp 4, .tmp 5]) (vs := [.int .i64 0, .int .i64 3]) rfl rfl ?_
    exact ⟨_, iC, .inl ⟨by decide, rfl, rfl⟩⟩
  · have h0 : s1.e = 0 := by omega
    rw [if_neg (show ¬ s1.e ≠ 0 by omega), if_neg (show ¬ 29 < t by omega)]
    have e3 := sp_dst t (by omega)
    have hx4 : spX t 2 ≤ 13 := by rw [e3.2]; exact exB_le _ (by omega)
    have hf4 : 1 + spF t 2 ≤ 32768 := by rw [e3.1]; exact baB_le _ (by omega)
    rw [← e3.1, ← e3.2]
    clear e3
    have hsp := fun L => span_n t 2 L (by omega) (by decide) (by decide) (by omega)
    have hcn := pcount_n p q most (spX t 2) (1 + spF t 2) v kn d s1 D1 E (Cd :: L) hR1 hl (by omega) h0 (by omega)
    have hvl := tv_lt d s1 (spX t 2)
    have hpw : 2 ^ spX t 2 ≤ 2 ^ 13 := Nat.pow_le_pow_right (by decide) hx4
    generalize spX t 2 = x4 at hsp hcn hvl hpw ⊢
    generalize spF t 2 = f4 at hsp hcn hf4 ⊢
    generalize tv d s1 x4 = z at hcn hvl ⊢
    generalize tk d s1 x4 = s2 at hcn ⊢
    unfold rdR at hcn
    refine OW_callP rfl rfl rfl (hsp _) rfl ?_
    (repeat' (first | (show WL _ _ _ _ _ _ _; first | refine jA ?_ | refine jB ?_ | refine jC ?_ | refine jD ?_ | refine jE ?_ | refine jF ?_) | (show OW _ _ _ _ _ _; first | refine OW_E ?_ | refine jI ?_ | refine jJ ?_ | refine jK (fun bk => ?_) | refine jL (fun bk => ?_)) | (show WC _ _ _ _ _ _; first | refine jM ?_ | refine jN ?_ | refine jO ?_ | refine jP ?_ | refine jR ?_ | refine jS ?_ | refine jT ?_ | refine jU ?_) | (show WQ _ _ _ _; with_reducible first | refine jV ?_ | refine jW ?_ | refine jX ?_ | refine jY ?_ | refine jZ ?_ | refine kA ?_ | refine kB ?_ | refine kC ?_) | ((first | (refine jG (fun hc => ?_) (fun hc => ?_) <;> rw [hc]) | refine jQ (fun hc => ?_) (fun hc => ?_)) <;> (try simp only [nrB] at hc) <;> (try (exfalso; first | omega | exact hc trivial | exact hc rfl)))))
    rw [show (1 : Int) + (f4 : Int) = ((1 + f4 : Nat) : Int) from by omega]
    refine OW_call rfl rfl rfl (Gv.holds hcn (fun w h => iH h)) rfl (fun r L' hp => ?_)
    rcases hp with ⟨h1, rfl, rfl⟩ | ⟨h1, rfl, D', hr, rfl⟩
    · (repeat' (first | (show WL _ _ _ _ _ _ _; first | refine jA ?_ | refine jB ?_ | refine jC ?_ | refine jD ?_ | refine jE ?_ | refine jF ?_) | (show OW _ _ _ _ _ _; first | refine OW_E ?_ | refine jI ?_ | refine jJ ?_ | refine jK (fun bk => ?_) | refine jL (fun bk => ?_)) | (show WC _ _ _ _ _ _; first | refine jM ?_ | refine jN ?_ | refine jO ?_ | refine jP ?_ | refine jR ?_ | refine jS ?_ | refine jT ?_ | refine jU ?_) | (show WQ _ _ _ _; with_reducible first | refine jV ?_ | refine jW ?_ | refine jX ?_ | refine jY ?_ | refine jZ ?_ | refine kA ?_ | refine kB ?_ | refine kC ?_) | ((first | (refine jG (fun hc => ?_) (fun hc => ?_) <;> rw [hc]) | refine jQ (fun hc => ?_) (fun hc => ?_)) <;> (try simp only [nrB] at hc) <;> (try (exfalso; first | omega | exact hc trivial | exact hc rfl)))))
      (first | refine WQ_retI rfl rfl ?_ | refine WQ_endI rfl rfl ?_)
      exact ⟨_, iC, .inl ⟨h1, rfl, rfl⟩⟩
    · (repeat' (first | (show WL _ _ _ _ _ _ _; first | refine jA ?_ | refine jB ?_ | refine jC ?_ | refine jD ?_ | refine jE ?_ | refine jF ?_) | (show OW _ _ _ _ _ _; first | refine OW_E ?_ | refine jI ?_ | refine jJ ?_ | refine jK (fun bk => ?_) | refine jL (fun bk => ?_)) | (show WC _ _ _ _ _ _; first | refine jM ?_ | refine jN ?_ | refine jO ?_ | refine jP ?_ | refine jR ?_ | refine jS ?_ | refine jT ?_ | refine jU ?_) | (show WQ _ _ _ _; with_reducible first | refine jV ?_ | refine jW ?_ | refine jX ?_ | refine jY ?_ | refine jZ ?_ | refine kA ?_ | refine kB ?_ | refine kC ?_) | ((first | (refine jG (fun hc => ?_) (fun hc => ?_) <;> rw [hc]) | refine jQ (fun hc => ?_) (fun hc => ?_)) <;> (try simp only [nrB] at hc) <;> (try (exfalso; first | omega | exact hc trivial | exact hc rfl)))))
      (first | refine WQ_retI rfl rfl ?_ | refine WQ_endI rfl rfl ?_)
      exact ⟨_, iC, .inr ⟨h1, rfl, by omega, by omega, D', hr, rfl⟩⟩
end Go.Proofs.YtkiaegkojlhaeaaDoor
/- Package inflate: matches. It proves no statement by itself. No conditions. -/
namespace Go.If
open Go.Vx Go.Hf
set_option linter.all false
theorem dsS_out [W0] (d : List UInt8) (dl : List Nat) (s : S6) : (dsS d dl s).out = s.out := by
  have h : (sy d s dl).out = s.out := by
    unfold sy
    split
    · exact fl_out _ _
    · rfl
  unfold dsS
  split
  · exact h
  · split
    · rw [fl_out, h]
    · rw [tk_out, h]
end Go.If
namespace Go.Proofs.YtkiaegkojlhaeaaDoor
open Go Go.Vx Go.Hf Go.If
variable [W0]
set_option maxRecDepth 4000
set_option linter.all false

set_option maxHeartbeats 8000000 in
theorem pmatch_n (p q pc most k : Nat) (v kn : Value) (dl : List Nat) (d : List UInt8) (s : S6) (D E C Cd : Chunk) (L : List Chunk) (h : RdN q d s.t D E) (hl : d.length ≤ 140737488355328) (he : s.e = 0) (hm : most ≤ 1000000) (hkn : kn.oneCell' = true)
    (ho : Ow 5 1 v s.out.length (bsv s.out) C) (hom : s.out.length ≤ most) (hk1 : 257 ≤ k) (hk2 : k ≤ 1000) (hC : CoD dl pc Cd) (hk : kS dl ≤ 32768) (h15 : ∀ x ∈ dl, x ≤ 15) (h400 : dl.length ≤ 400) :
    Gv Tryd.prog 69 [.pointer (some ⟨p, 0, none⟩), .int .i64 (k : Int), .pointer (some ⟨pc, 0, none⟩)].toArray (rdR p q v most kn :: D :: E :: C :: Cd :: L) (fun r L' =>
      ((mtS d most k dl s).e ≠ 0 ∧ r = .int .i64 ((mtS d most k dl s).e : Int) ∧ L' = L) ∨
      ((mtS d most k dl s).e = 0 ∧ r = .int .i64 0 ∧ ∃ v' D' C', Ow 5 1 v' (mtS d most k dl s).out.length (bsv (mtS d most k dl s).out) C' ∧ (mtS d most k dl s).out.length ≤ most ∧ RdN q d (mtS d most k dl s).t D' E ∧ L' = rdR p q v' most kn :: D' :: E :: C' :: Cd :: L)) := by
  refine Gv.of_body Tryd.func69 rfl rfl ?_
  have hlen := plength_n p q most k v kn d s D E (C :: Cd :: L) h hl he hk1 hk2
  have hx1 := mtS_err1 (d := d) (most := most) (k := k) (dl := dl) (s := s)
  (repeat' (first | (show WL _ _ _ _ _ _ _; first | refine jA ?_ | refine jB ?_ | refine jC ?_ | refine jD ?_ | refine jE ?_ | refine jF ?_) | (show OW _ _ _ _ _ _; first | refine OW_E ?_ | refine jI ?_ | refine jJ ?_ | refine jK (fun bk => ?_) | refine jL (fun bk => ?_)) | (show WC _ _ _ _ _ _; first | refine jM ?_ | refine jN ?_ | refine jO ?_ | refine jP ?_ | refine jR ?_ | refine jS ?_ | refine jT ?_ | refine jU ?_) | (show WQ _ _ _ _; with_reducible first | refine jV ?_ | refine jW ?_ | refine jX ?_ | refine jY ?_ | refine jZ ?_ | refine kA ?_ | refine kB ?_ | refine kC ?_) | ((first | (refine jG (fun hc => ?_) (fun hc => ?_) <;> rw [hc]) | refine jQ (fun hc => ?_) (fun hc => ?_)) <;> (try simp only [nrB] at hc) <;> (try (exfalso; first | omega | exact hc trivial | exact hc rfl)))))
  refine OW_call rfl rfl rfl hlen rfl (fun r L' hp => ?_)
  rcases hp with ⟨h1, rfl, rfl⟩ | ⟨h1, h285, rfl, D1, hr1, rfl⟩
  · have q := hx1 h1
    rw [← q] at h1 ⊢
    generalize mtS d most k dl s = S at h1 ⊢
    (repeat' (first | (show WL _ _ _ _ _ _ _; first | refine jA ?_ | refine jB ?_ | refine jC ?_ | refine jD ?_ | refine jE ?_ | refine jF ?_) | (show OW _ _ _ _ _ _; first | refine OW_E ?_ | refine jI ?_ | refine jJ ?_ | refine jK (fun bk => ?_) | refine jL (fun bk => ?_)) | (show WC _ _ _ _ _ _; first | refine jM ?_ | refine jN ?_ | refine jO ?_ | refine jP ?_ | refine jR ?_ | refine jS ?_ | refine jT ?_ | refine jU ?_) | (show WQ _ _ _ _; with_reducible first | refine jV ?_ | refine jW ?_ | refine jX ?_ | refine jY ?_ | refine jZ ?_ | refine kA ?_ | refine kB ?_ | refine kC ?_) | ((first | (refine jG (fun hc => ?_) (fun hc => ?_) <;> rw [hc]) | refine jQ (fun hc => ?_) (fun hc => ?_)) <;> (try simp only [nrB] at hc) <;> (try (exfalso; first | omega | exact hc trivial | exact hc rfl)))))
    (first | refine WQ_retI rfl rfl ?_ | refine WQ_endI rfl rfl ?_)
    exact ⟨_, iC, .inl ⟨h1, rfl, rfl⟩⟩
  clear hlen hx1
  have hlns : lnS d k s = tk d s (lnB k).2 := by unfold lnS; rw [if_neg (by omega)]
  have hlb : (lnB k).1 ≤ 400 ∧ (lnB k).2 ≤ 6 := by
    unfold lnB
    split
    · exact ⟨by decide, by decide⟩
    · exact ⟨baL_le _ (by omega), exL_le _ (by omega)⟩
  have htv := tv_lt d s (lnB k).2
  have hpw : 2 ^ (lnB k).2 ≤ 2 ^ 6 := Nat.pow_le_pow_right (by decide) hlb.2
  rw [hlns] at h1 hr1
  have hx2 := mtS_err2 (d := d) (most := most) (k := k) (dl := dl) (s := s) (by omega)
  have hok := mtS_ok (d := d) (most := most) (k := k) (dl := dl) (s := s) (by omega)
  have hso : (tk d s (lnB k).2).out = s.out := tk_out _ _ _
  rw [← hso] at ho hom
  obtain ⟨n, hn⟩ : ∃ n, n = (lnB k).1 + tv d s (lnB k).2 := ⟨_, rfl⟩
  rw [← hn] at hok ⊢
  have hn464 : n ≤ 464 := by omega
  generalize tk d s (lnB k).2 = s1 at h1 hr1 hx2 hok ho hom
  have hdi := pdist_n p q pc most v kn dl d s1 D1 E Cd (C :: L) hr1 hl h1 hC hk h15 h400
  have hdo := dsS_out d dl s1
  generalize mtS d most k dl s = R at hx2 hok ⊢
  generalize dsV d dl s1 = far at hdi hok
  rw [← hdo] at ho hom
  generalize dsS d dl s1 = s2 at hdi hok hx2 ho hom
  clear htv hpw hn hlb hlns
  unfold rdR at hdi ⊢
  (repeat' (first | (show WL _ _ _ _ _ _ _; first | refine jA ?_ | refine jB ?_ | refine jC ?_ | refine jD ?_ | refine jE ?_ | refine jF ?_) | (show OW _ _ _ _ _ _; first | refine OW_E ?_ | refine jI ?_ | refine jJ ?_ | refine jK (fun bk => ?_) | refine jL (fun bk => ?_)) | (show WC _ _ _ _ _ _; first | refine jM ?_ | refine jN ?_ | refine jO ?_ | refine jP ?_ | refine jR ?_ | refine jS ?_ | refine jT ?_ | refine jU ?_) | (show WQ _ _ _ _; with_reducible first | refine jV ?_ | refine jW ?_ | refine jX ?_ | refine jY ?_ | refine jZ ?_ | refine kA ?_ | refine kB ?_ | refine kC ?_) | ((first | (refine jG (fun hc => ?_) (fun hc => ?_) <;> rw [hc]) | refine jQ (fun hc => ?_) (fun hc => ?_)) <;> (try simp only [nrB] at hc) <;> (try (exfalso; first | omega | exact hc trivial | exact hc rfl)))))
  refine OW_call rfl rfl rfl (Gv.holds hdi (fun w h => iH h)) rfl (fun r L' hp => ?_)
  rcases hp with ⟨h2, rfl, rfl⟩ | ⟨h2, rfl, hf1, hf2, D2, hr2, rfl⟩
  · have q := hx2 h2
    rw [← q] at h2 ⊢
    (repeat' (first | (show WL _ _ _ _ _ _ _; first | refine jA ?_ | refine jB ?_ | refine jC ?_ | refine jD ?_ | refine jE ?_ | refine jF ?_) | (show OW _ _ _ _ _ _; first | refine OW_E ?_ | refine jI ?_ | refine jJ ?_ | refine jK (fun bk => ?_) | refine jL (fun bk => ?_)) | (show WC _ _ _ _ _ _; first | refine jM ?_ | refine jN ?_ | refine jO ?_ | refine jP ?_ | refine jR ?_ | refine jS ?_ | refine jT ?_ | refine jU ?_) | (show WQ _ _ _ _; with_reducible first | refine jV ?_ | refine jW ?_ | refine jX ?_ | refine jY ?_ | refine jZ ?_ | refine kA ?_ | refine kB ?_ | refine kC ?_) | ((first | (refine jG (fun hc => ?_) (fun hc => ?_) <;> rw [hc]) | refine jQ (fun hc => ?_) (fun hc => ?_)) <;> (try simp only [nrB] at hc) <;> (try (exfalso; first | omega | exact hc trivial | exact hc rfl)))))
    (first | refine WQ_retI rfl rfl ?_ | refine WQ_endI rfl rfl ?_)
    exact ⟨_, iC, .inl ⟨h2, rfl, rfl⟩⟩
  have hok := hok h2
  obtain ⟨va, vc, rfl⟩ := ow_slc ho
  (repeat' (first | (show WL _ _ _ _ _ _ _; first | refine jA ?_ | refine jB ?_ | refine jC ?_ | refine jD ?_ | refine jE ?_ | refine jF ?_) | (show OW _ _ _ _ _ _; first | refine OW_E ?_ | refine jI ?_ | refine jJ ?_ | refine jK (fun bk => ?_) | refine jL (fun bk => ?_)) | (show WC _ _ _ _ _ _; first | refine jM ?_ | refine jN ?_ | refine jO ?_ | refine jP ?_ | refine jR ?_ | refine jS ?_ | refine jT ?_ | refine jU ?_) | (show WQ _ _ _ _; with_reducible first | refine jV ?_ | refine jW ?_ | refine jX ?_ | refine jY ?_ | refine jZ ?_ | refine kA ?_ | refine kB ?_ | refine kC ?_) | ((first | (refine jG (fun hc => ?_) (fun hc => ?_) <;> rw [hc]) | refine jQ (fun hc => ?_) (fun hc => ?_)) <;> (try simp only [nrB] at hc) <;> (try (exfalso; first | omega | exact hc trivial | exact hc rfl)))))
  · rw [if_pos (show s2.out.length < far by omega)] at hok
    have e3 : (fl s2 3).e = 3 := by rw [fl_e, if_pos h2]
    rw [cpL_err (by rw [e3]; decide)] at hok
    rw [hok, e3]
    (first | refine WQ_retI rfl rfl ?_ | refine WQ_endI rfl rfl ?_)
    exact ⟨_, iC, .inl ⟨by decide, rfl, rfl⟩⟩
  rw [if_neg (show ¬ s2.out.length < far by omega)] at hok
  refine WC_drawAll [] mixed ?_
  (refine WR_t 0 ?_; refine WR_t 1 ?_; refine WR_t 2 ?_; refine WR_t 3 ?_; refine WR_t 4 ?_; refine WR_t 5 ?_; refine WR_t 6 ?_; refine WR_t 7 ?_; refine WR_t 8 ?_; refine WR_t 9 ?_; refine WR_t 10 ?_; refine WR_t 11 ?_)
  (refine WR_done (by kernel_rfl) ?_)
  (repeat' (first | (show WL _ _ _ _ _ _ _; first | refine jA ?_ | refine jB ?_ | refine jC ?_ | refine jD ?_ | refine jE ?_ | refine jF ?_) | (show OW _ _ _ _ _ _; first | refine OW_E ?_ | refine jI ?_ | refine jJ ?_ | refine jK (fun bk => ?_) | refine jL (fun bk => ?_)) | (show WC _ _ _ _ _ _; first | refine jM ?_ | refine jN ?_ | refine jO ?_ | refine jP ?_ | refine jR ?_ | refine jS ?_ | refine jT ?_ | refine jU ?_) | (show WQ _ _ _ _; with_reducible first | refine jV ?_ | refine jW ?_ | refine jX ?_ | refine jY ?_ | refine jZ ?_ | refine kA ?_ | refine kB ?_ | refine kC ?_) | ((first | (refine jG (fun hc => ?_) (fun hc => ?_) <;> rw [hc]) | refine jQ (fun hc => ?_) (fun hc => ?_)) <;> (try simp only [nrB] at hc) <;> (try (exfalso; first | omega | exact hc trivial | exact hc rfl)))))
  · rw [hok, cpL_over most far n s2 h2 hom (by omega)]
    (first | refine WQ_retI rfl rfl ?_ | refine WQ_endI rfl rfl ?_)
    exact ⟨_, iC, .inl ⟨by decide, rfl, rfl⟩⟩
  have hfit : s2.out.length + n ≤ most := by omega
  refine WC_loop (X := Nat × S6 × Value × Chunk) (fun x => [(0, .pointer (some ⟨p, 0, none⟩)), (9, .int .i64 (far : Int)), (47, .int .i64 (n : Int)), (48, .int .i64 (x.1 : Int))]) (fun x => rdR p q x.2.2.1 most kn :: x.2.2.2 :: D2 :: E :: Cd :: L)
    (fun x => x.1 ≤ n ∧ x.2.1.t = s2.t ∧ x.2.1.e = 0 ∧ Ow 5 1 x.2.2.1 x.2.1.out.length (bsv x.2.1.out) x.2.2.2 ∧ x.2.1.out.length = s2.out.length + x.1 ∧ cpL most far (n - x.1) x.2.1 = R) (fun x => n - x.1) (0, s2, .slice va s2.out.length vc, C) ⟨Nat.zero_le _, rfl, h2, ho, rfl, hok.symm⟩ (by repeat (first | exact Sub.nil | refine Sub.cons rfl ?_ | refine Sub.cons (lk_int rfl (by first | omega | (dsimp only; omega))) ?_)) (fun w h => iH h) ?_
  rintro ⟨i, s5, v1, C1⟩ ⟨hi, hst, he5, hov, hol, hsl⟩
  simp only at hi hst he5 hov hol hsl ⊢
  obtain ⟨wa, wc, rfl⟩ := ow_slc hov
  unfold rdR
  (repeat' (first | (show WL _ _ _ _ _ _ _; first | refine jA ?_ | refine jB ?_ | refine jC ?_ | refine jD ?_ | refine jE ?_ | refine jF ?_) | (show OW _ _ _ _ _ _; first | refine OW_E ?_ | refine jI ?_ | refine jJ ?_ | refine jK (fun bk => ?_) | refine jL (fun bk => ?_)) | (show WC _ _ _ _ _ _; first | refine jM ?_ | refine jN ?_ | refine jO ?_ | refine jP ?_ | refine jR ?_ | refine jS ?_ | refine jT ?_ | refine jU ?_) | (show WQ _ _ _ _; with_reducible first | refine jV ?_ | refine jW ?_ | refine jX ?_ | refine jY ?_ | refine jZ ?_ | refine kA ?_ | refine kB ?_ | refine kC ?_) | ((first | (refine jG (fun hc => ?_) (fun hc => ?_) <;> rw [hc]) | refine jQ (fun hc => ?_) (fun hc => ?_)) <;> (try simp only [nrB] at hc) <;> (try (exfalso; first | omega | exact hc trivial | exact hc rfl)))))
  · obtain ⟨k2, hk2⟩ : ∃ k2, n - i = k2 + 1 := ⟨n - i - 1, by omega⟩
    have hk3 : n - (i + 1) = k2 := by omega
    rw [hk2, cpL, if_pos he5, pt_ok (by omega)] at hsl
    have hov2 := hov
    rcases hov2 with ⟨_, h1, _⟩ | ⟨b, cap, rest, hve, rfl, hxl, hrl, hmc, hcm⟩
    · omega
    injection hve with e1 e2 e3
    subst e1 e3
    clear e2
    have hcell : (bsv s5.out ++ rest).toArray[(s5.out.length - far) * 1]? = some (.int .u8 ((s5.out.getD (s5.out.length - far) 0).toNat : Int)) := by
      rw [Nat.mul_one]
      simpa using getE_app (r := rest) (bsv_get (l := s5.out) (i := s5.out.length - far) (b := s5.out.getD (s5.out.length - far) 0) (by simp [List.getD, show s5.out.length - far < s5.out.length from by omega]))
    generalize s5.out.getD (s5.out.length - far) 0 = cc at hsl hcell
    refine WC_draw [[(p, cl [.pointer (some ⟨q, 0, none⟩), .slice (some ⟨b, 0, none⟩) s5.out.length wc, .int .i64 (most : Int), kn] 47)]] [22] mixed ?_
    (refine WR_t 0 ?_; refine WR_t 1 ?_; refine WR_t 2 ?_; refine WR_t 3 ?_; refine WR_t 4 ?_; refine WR_t 5 ?_; refine WR_t 6 ?_; refine WR_t 7 ?_; refine WR_t 8 ?_; refine WR_t 9 ?_; refine WR_t 10 ?_; refine WR_t 11 ?_; refine WR_t 12 ?_; refine WR_t 13 ?_; refine WR_t 14 ?_; refine WR_t 15 ?_)
    rw [show (s5.out.length : Int) - (far : Int) = ((s5.out.length - far : Nat) : Int) from by omega]
    (refine WR_take 16 rfl rfl (by kernel_rfl) (by repeat (first | with_reducible exact PO.body | with_reducible exact RP_po | with_reducible refine PO.then ?_ | with_reducible refine PO.block ?_)) iC (EV_indexAddr0 (j := s5.out.length - far) (len := s5.out.length) rfl rfl rfl (by omega)) (by rfl) ?_)
    (refine WR_one 17 (by kernel_rfl) rfl rfl ?_)
    refine OW_EV (EV_load rfl (by exact Fnd.there Fnd.here) hcell) rfl ?_
    refine ⟨iC, ?_⟩
    (refine WR_one 18 (by kernel_rfl) rfl rfl ?_)
    refine OW_buildSlice (cs := [.int .u8 (cc.toNat : Int)]) rfl (by rfl) (by first | (simp [fillL, patch, Value.cells, zeros]; done) | (simp [fillL, patch, Value.cells, zeros]; rfl)) (by omega) rfl rfl (fun bn => ?_)
    refine ⟨iC, ?_⟩
    (refine WR_one 19 (by kernel_rfl) rfl rfl ?_)
    refine OW_append rfl rfl hov (sl_cells (k := 1) (c := #[.int .u8 (cc.toNat : Int)]) (xs := [.int .u8 (cc.toNat : Int)]) (m := 1) Fnd.here rfl (by simp)) (by repeat (first | exact Zip.here _ | apply Zip.there)) rfl (by rfl) (by omega) (by simp [maxLen]; omega) rfl (fun v' C' ho' _ _ => ?_)
    refine ⟨iC, ?_⟩
    (refine WR_t 20 ?_; refine WR_t 21 ?_)
    (refine WR_last 22 (by kernel_rfl) rfl rfl rfl ?_)
    refine OW_storeTo [.pointer (some ⟨q, 0, none⟩), v', .int .i64 (most : Int), kn] rfl rfl (by rcases ho' with ⟨rfl, _⟩ | ⟨_, _, _, rfl, _⟩ <;> rfl) rfl (by repeat (first | exact Upd.here | apply Upd.there)) (by simp) ?_
    (refine WR_done (by kernel_rfl) ?_)
    (repeat' (first | (show WL _ _ _ _ _ _ _; first | refine jA ?_ | refine jB ?_ | refine jC ?_ | refine jD ?_ | refine jE ?_ | refine jF ?_) | (show OW _ _ _ _ _ _; first | refine OW_E ?_ | refine jI ?_ | refine jJ ?_ | refine jK (fun bk => ?_) | refine jL (fun bk => ?_)) | (show WC _ _ _ _ _ _; first | refine jM ?_ | refine jN ?_ | refine jO ?_ | refine jP ?_ | refine jR ?_ | refine jS ?_ | refine jT ?_ | refine jU ?_) | (show WQ _ _ _ _; with_reducible first | refine jV ?_ | refine jW ?_ | refine jX ?_ | refine jY ?_ | refine jZ ?_ | refine kA ?_ | refine kB ?_ | refine kC ?_) | ((first | (refine jG (fun hc => ?_) (fun hc => ?_) <;> rw [hc]) | refine jQ (fun hc => ?_) (fun hc => ?_)) <;> (try simp only [nrB] at hc) <;> (try (exfalso; first | omega | exact hc trivial | exact hc rfl)))))
    rw [show bsv s5.out ++ [Value.int .u8 (cc.toNat : Int)] = bsv (s5.out ++ [cc]) from by simp [bsv]] at ho'
    refine WQ_round (X := Nat × S6 × Value × Chunk) (μ := fun x => n - x.1) (x := (i, s5, .slice (some ⟨b, 0, none⟩) s5.out.length wc, [(b, cl (bsv s5.out ++ rest) 5)])) (i + 1, ⟨s5.t, s5.out ++ [cc], s5.e⟩, v', C') (by simp only; omega) ⟨by simp only; omega, hst, he5, by simpa using ho', by simp; omega, by simp only; rw [hk3]; exact hsl⟩ (by repeat (first | exact Sub.nil | refine Sub.cons rfl ?_ | refine Sub.cons (lk_int rfl (by first | omega | (dsimp only; omega))) ?_)) (fun w h => iH h)
  · obtain rfl : i = n := by omega
    rw [show i - i = 0 from by omega, cpL] at hsl
    subst hsl
    (first | refine WQ_retI rfl rfl ?_ | refine WQ_endI rfl rfl ?_)
    exact ⟨_, iC, .inr ⟨he5, rfl, _, D2, C1, hov, by omega, by rw [hst]; exact hr2, rfl⟩⟩
end Go.Proofs.YtkiaegkojlhaeaaDoor
