/- The document's own answer for layer 6: stored blocks. It proves no statement by itself. No conditions. -/
import Derived.Test.YtkiaegkojlhaeaaDoorIa
namespace Go.Proofs.YtkiaegkojlhaeaaDoor
open Go Go.Vx Go.Hf Go.If
variable [W0]
set_option maxRecDepth 4000
set_option linter.all false

set_option maxHeartbeats 8000000 in
theorem wstored_n (p q most : Nat) (v : Value) (fa : Option Addr) (fc : Nat) (d : List UInt8) (s : S6) (C : Chunk) (L : List Chunk) (hv : Sl L 1 (.slice fa d.length fc) d.length (bsv d)) (hl : d.length ≤ 1000000) (ht : s.t ≤ 8 * d.length) (hm : most ≤ 1000000)
    (ho : Ow 5 1 v s.out.length (bsv s.out) C) :
    Gv Tryd.prog 21 [.pointer (some ⟨p, 0, none⟩)].toArray (wkC p q v most s.e :: biC q fa d.length fc s.t :: C :: L) (fun r L' =>
      ∃ v' C', r = .tuple #[] ∧ Ow 5 1 v' (stS d most s).out.length (bsv (stS d most s).out) C' ∧ L' = wkC p q v' most (stS d most s).e :: biC q fa d.length fc (stS d most s).t :: C' :: L ∧ (stS d most s).t ≤ 8 * d.length) := by
  refine Gv.of_body Tryd.func21 rfl rfl ?_
  have hst : stS d most s = stL d most (tv d ⟨8 * ((s.t + 7) / 8), s.out, s.e⟩ 16) (if tv d ⟨8 * ((s.t + 7) / 8), s.out, s.e⟩ 16 + tv d (tk d ⟨8 * ((s.t + 7) / 8), s.out, s.e⟩ 16) 16 = 65535 then tk d (tk d ⟨8 * ((s.t + 7) / 8), s.out, s.e⟩ 16) 16 else fl (tk d (tk d ⟨8 * ((s.t + 7) / 8), s.out, s.e⟩ 16) 16) 3) := rfl
  rw [hst]
  clear hst
  have hal := balignS_n q s.t (.slice fa d.length fc) (wkC p q v most s.e :: C :: L) (by omega)
  obtain ⟨s0, hs0⟩ : ∃ s0 : S6, s0 = ⟨8 * ((s.t + 7) / 8), s.out, s.e⟩ := ⟨_, rfl⟩
  have e0 : s.e = s0.e := by rw [hs0]
  have et : 8 * ((s.t + 7) / 8) = s0.t := by rw [hs0]
  have eo : s.out = s0.out := by rw [hs0]
  rw [← hs0]
  rw [e0, et] at hal
  have ht0 : s0.t ≤ 8 * d.length := by omega
  rw [e0]
  rw [eo] at ho
  clear hs0
  have ht1 := wtake_n p q most 16 v fa fc d s0 (C :: L) (sl_there hv) (by omega) ht0 (by omega)
  have ht2 := fun h => wtake_n p q most 16 v fa fc d (tk d s0 16) (C :: L) (sl_there hv) (by omega) h (by omega)
  have hf := wfail_n p q most 3 (tk d (tk d s0 16) 16).e v (biC q fa d.length fc (tk d (tk d s0 16) 16).t :: C :: L)
  have hn1 := tv_lt d s0 16
  have hn2 := tv_lt d (tk d s0 16) 16
  have ho2 : Ow 5 1 v (tk d (tk d s0 16) 16).out.length (bsv (tk d (tk d s0 16) 16).out) C := by rw [tk_out, tk_out]; exact ho
  have hw1 : ∀ v e (L : List Chunk), wkC p q v most e :: L = [(p, cl [.pointer (some ⟨q, 0, none⟩), v, .int .i64 (most : Int), .int .i64 (e : Int)] 55)] :: L := fun _ _ _ => rfl
  obtain ⟨n, hn⟩ : ∃ n, n = tv d s0 16 := ⟨_, rfl⟩
  obtain ⟨m, hm'⟩ : ∃ m, m = tv d (tk d s0 16) 16 := ⟨_, rfl⟩
  rw [← hn] at hn1 ht1 ⊢
  rw [← hm'] at hn2 ht2 ⊢
  rw [hw1]
  (repeat' (first | (show WL _ _ _ _ _ _ _; first | refine jA ?_ | refine jB ?_ | refine jC ?_ | refine jD ?_ | refine jE ?_ | refine jF ?_) | (show OW _ _ _ _ _ _; first | refine OW_E ?_ | refine jI ?_ | refine jJ ?_ | refine jK (fun bk => ?_) | refine jL (fun bk => ?_)) | (show WC _ _ _ _ _ _; first | refine jM ?_ | refine jN ?_ | refine jO ?_ | refine jP ?_ | refine jR ?_ | refine jS ?_ | refine jT ?_ | refine jU ?_) | (show WQ _ _ _ _; with_reducible first | refine jV ?_ | refine jW ?_ | refine jX ?_ | refine jY ?_ | refine jZ ?_ | refine kA ?_ | refine kB ?_ | refine kC ?_) | ((first | (refine jG (fun hc => ?_) (fun hc => ?_) <;> rw [hc]) | refine jQ (fun hc => ?_) (fun hc => ?_)) <;> (try simp only [nrB] at hc) <;> (try (exfalso; first | omega | exact hc trivial | exact hc rfl)))))
  refine OW_call rfl rfl rfl (Gv.holds hal (fun w h => iH h)) rfl (fun r L' hp => ?_)
  obtain ⟨rfl, rfl⟩ := hp
  (repeat' (first | (show WL _ _ _ _ _ _ _; first | refine jA ?_ | refine jB ?_ | refine jC ?_ | refine jD ?_ | refine jE ?_ | refine jF ?_) | (show OW _ _ _ _ _ _; first | refine OW_E ?_ | refine jI ?_ | refine jJ ?_ | refine jK (fun bk => ?_) | refine jL (fun bk => ?_)) | (show WC _ _ _ _ _ _; first | refine jM ?_ | refine jN ?_ | refine jO ?_ | refine jP ?_ | refine jR ?_ | refine jS ?_ | refine jT ?_ | refine jU ?_) | (show WQ _ _ _ _; with_reducible first | refine jV ?_ | refine jW ?_ | refine jX ?_ | refine jY ?_ | refine jZ ?_ | refine kA ?_ | refine kB ?_ | refine kC ?_) | ((first | (refine jG (fun hc => ?_) (fun hc => ?_) <;> rw [hc]) | refine jQ (fun hc => ?_) (fun hc => ?_)) <;> (try simp only [nrB] at hc) <;> (try (exfalso; first | omega | exact hc trivial | exact hc rfl)))))
  refine OW_call rfl rfl rfl (Gv.holds ht1 (fun w h => iH h)) rfl (fun r L' hp => ?_)
  obtain ⟨rfl, rfl, hb1⟩ := hp
  (repeat' (first | (show WL _ _ _ _ _ _ _; first | refine jA ?_ | refine jB ?_ | refine jC ?_ | refine jD ?_ | refine jE ?_ | refine jF ?_) | (show OW _ _ _ _ _ _; first | refine OW_E ?_ | refine jI ?_ | refine jJ ?_ | refine jK (fun bk => ?_) | refine jL (fun bk => ?_)) | (show WC _ _ _ _ _ _; first | refine jM ?_ | refine jN ?_ | refine jO ?_ | refine jP ?_ | refine jR ?_ | refine jS ?_ | refine jT ?_ | refine jU ?_) | (show WQ _ _ _ _; with_reducible first | refine jV ?_ | refine jW ?_ | refine jX ?_ | refine jY ?_ | refine jZ ?_ | refine kA ?_ | refine kB ?_ | refine kC ?_) | ((first | (refine jG (fun hc => ?_) (fun hc => ?_) <;> rw [hc]) | refine jQ (fun hc => ?_) (fun hc => ?_)) <;> (try simp only [nrB] at hc) <;> (try (exfalso; first | omega | exact hc trivial | exact hc rfl)))))
  refine OW_call rfl rfl rfl (ht2 hb1) rfl (fun r L' hp => ?_)
  obtain ⟨rfl, rfl, hb2⟩ := hp
  (repeat' (first | (show WL _ _ _ _ _ _ _; first | refine jA ?_ | refine jB ?_ | refine jC ?_ | refine jD ?_ | refine jE ?_ | refine jF ?_) | (show OW _ _ _ _ _ _; first | refine OW_E ?_ | refine jI ?_ | refine jJ ?_ | refine jK (fun bk => ?_) | refine jL (fun bk => ?_)) | (show WC _ _ _ _ _ _; first | refine jM ?_ | refine jN ?_ | refine jO ?_ | refine jP ?_ | refine jR ?_ | refine jS ?_ | refine jT ?_ | refine jU ?_) | (show WQ _ _ _ _; with_reducible first | refine jV ?_ | refine jW ?_ | refine jX ?_ | refine jY ?_ | refine jZ ?_ | refine kA ?_ | refine kB ?_ | refine kC ?_) | ((first | (refine jG (fun hc => ?_) (fun hc => ?_) <;> rw [hc]) | refine jQ (fun hc => ?_) (fun hc => ?_)) <;> (try simp only [nrB] at hc) <;> (try (exfalso; first | omega | exact hc trivial | exact hc rfl)))))
  · rw [if_neg (show ¬ n + m = 65535 by omega)]
    refine OW_call rfl rfl rfl hf rfl (fun r L' hp => ?_)
    obtain ⟨rfl, rfl⟩ := hp
    rw [show (if (tk d (tk d s0 16) 16).e = 0 then 3 else (tk d (tk d s0 16) 16).e) = (fl (tk d (tk d s0 16) 16) 3).e from (fl_e _ _).symm, show (tk d (tk d s0 16) 16).t = (fl (tk d (tk d s0 16) 16) 3).t from (fl_t _ _).symm]
    rw [← fl_t _ 3] at hb2
    rw [← fl_out _ 3] at ho2
    generalize fl (tk d (tk d s0 16) 16) 3 = s3 at hb2 ho2 ⊢
    clear hf
    (repeat' (first | (show WL _ _ _ _ _ _ _; first | refine jA ?_ | refine jB ?_ | refine jC ?_ | refine jD ?_ | refine jE ?_ | refine jF ?_) | (show OW _ _ _ _ _ _; first | refine OW_E ?_ | refine jI ?_ | refine jJ ?_ | refine jK (fun bk => ?_) | refine jL (fun bk => ?_)) | (show WC _ _ _ _ _ _; first | refine jM ?_ | refine jN ?_ | refine jO ?_ | refine jP ?_ | refine jR ?_ | refine jS ?_ | refine jT ?_ | refine jU ?_) | (show WQ _ _ _ _; with_reducible first | refine jV ?_ | refine jW ?_ | refine jX ?_ | refine jY ?_ | refine jZ ?_ | refine kA ?_ | refine kB ?_ | refine kC ?_) | ((first | (refine jG (fun hc => ?_) (fun hc => ?_) <;> rw [hc]) | refine jQ (fun hc => ?_) (fun hc => ?_)) <;> (try simp only [nrB] at hc) <;> (try (exfalso; first | omega | exact hc trivial | exact hc rfl)))))
    refine WC_loop (X := Nat × S6 × Value × Chunk) (fun x => [(0, .pointer (some ⟨p, 0, none⟩)), (2, .int .i64 (n : Int)), (4, .int .i64 (x.1 : Int))]) (fun x => wkC p q x.2.2.1 most x.2.1.e :: biC q fa d.length fc x.2.1.t :: x.2.2.2 :: L)
      (fun x => x.1 ≤ n ∧ x.2.1.t ≤ 8 * d.length ∧ Ow 5 1 x.2.2.1 x.2.1.out.length (bsv x.2.1.out) x.2.2.2 ∧ stL d most n s3 = stL d most (n - x.1) x.2.1) (fun x => n - x.1) (0, s3, v, C) ⟨Nat.zero_le _, hb2, ho2, rfl⟩ (by repeat (first | exact Sub.nil | refine Sub.cons rfl ?_ | refine Sub.cons (lk_int rfl (by first | omega | (dsimp only; omega))) ?_)) (fun w h => h) ?_
    rintro ⟨i, s4, v1, C1⟩ ⟨hi, hst, hov, hsl⟩
    simp only at hi hst hov hsl ⊢
    rw [hw1]
    (repeat' (first | (show WL _ _ _ _ _ _ _; first | refine jA ?_ | refine jB ?_ | refine jC ?_ | refine jD ?_ | refine jE ?_ | refine jF ?_) | (show OW _ _ _ _ _ _; first | refine OW_E ?_ | refine jI ?_ | refine jJ ?_ | refine jK (fun bk => ?_) | refine jL (fun bk => ?_)) | (show WC _ _ _ _ _ _; first | refine jM ?_ | refine jN ?_ | refine jO ?_ | refine jP ?_ | refine jR ?_ | refine jS ?_ | refine jT ?_ | refine jU ?_) | (show WQ _ _ _ _; with_reducible first | refine jV ?_ | refine jW ?_ | refine jX ?_ | refine jY ?_ | refine jZ ?_ | refine kA ?_ | refine kB ?_ | refine kC ?_) | ((first | (refine jG (fun hc => ?_) (fun hc => ?_) <;> rw [hc]) | refine jQ (fun hc => ?_) (fun hc => ?_)) <;> (try simp only [nrB] at hc) <;> (try (exfalso; first | omega | exact hc trivial | exact hc rfl)))))
    · have ht8 := wtake_n p q most 8 v1 fa fc d s4 (C1 :: L) (sl_there hv) (by omega) hst (by omega)
      have hput := fun c => wput_n p q most c v1 (tk d s4 8) C1 (biC q fa d.length fc (tk d s4 8).t :: L) (by rw [tk_out]; exact hov) hm
      have he0 : s4.e = 0 := by omega
      obtain ⟨k, hk⟩ : ∃ k, n - i = k + 1 := ⟨n - i - 1, by omega⟩
      have hk2 : n - (i + 1) = k := by omega
      rw [hk, stL, if_pos he0] at hsl
      refine OW_call rfl rfl rfl ht8 rfl (fun r L' hp => ?_)
      obtain ⟨rfl, rfl, hb8⟩ := hp
      rw [hw1]
      (repeat' (first | (show WL _ _ _ _ _ _ _; first | refine jA ?_ | refine jB ?_ | refine jC ?_ | refine jD ?_ | refine jE ?_ | refine jF ?_) | (show OW _ _ _ _ _ _; first | refine OW_E ?_ | refine jI ?_ | refine jJ ?_ | refine jK (fun bk => ?_) | refine jL (fun bk => ?_)) | (show WC _ _ _ _ _ _; first | refine jM ?_ | refine jN ?_ | refine jO ?_ | refine jP ?_ | refine jR ?_ | refine jS ?_ | refine jT ?_ | refine jU ?_) | (show WQ _ _ _ _; with_reducible first | refine jV ?_ | refine jW ?_ | refine jX ?_ | refine jY ?_ | refine jZ ?_ | refine kA ?_ | refine kB ?_ | refine kC ?_) | ((first | (refine jG (fun hc => ?_) (fun hc => ?_) <;> rw [hc]) | refine jQ (fun hc => ?_) (fun hc => ?_)) <;> (try simp only [nrB] at hc) <;> (try (exfalso; first | omega | exact hc trivial | exact hc rfl)))))
      · have he1 : (tk d s4 8).e = 0 := by omega
        rw [if_pos he1] at hsl
        try rw [wrap_byte]
        have hp1 := hput (UInt8.ofNat (tv d s4 8))
        unfold wkC at hp1
        refine OW_call rfl rfl rfl (Gv.holds hp1 (fun w h => iH h)) rfl (fun r L' hp => ?_)
        obtain ⟨v2, C2, rfl, ho3, rfl⟩ := hp
        (repeat' (first | (show WL _ _ _ _ _ _ _; first | refine jA ?_ | refine jB ?_ | refine jC ?_ | refine jD ?_ | refine jE ?_ | refine jF ?_) | (show OW _ _ _ _ _ _; first | refine OW_E ?_ | refine jI ?_ | refine jJ ?_ | refine jK (fun bk => ?_) | refine jL (fun bk => ?_)) | (show WC _ _ _ _ _ _; first | refine jM ?_ | refine jN ?_ | refine jO ?_ | refine jP ?_ | refine jR ?_ | refine jS ?_ | refine jT ?_ | refine jU ?_) | (show WQ _ _ _ _; with_reducible first | refine jV ?_ | refine jW ?_ | refine jX ?_ | refine jY ?_ | refine jZ ?_ | refine kA ?_ | refine kB ?_ | refine kC ?_) | ((first | (refine jG (fun hc => ?_) (fun hc => ?_) <;> rw [hc]) | refine jQ (fun hc => ?_) (fun hc => ?_)) <;> (try simp only [nrB] at hc) <;> (try (exfalso; first | omega | exact hc trivial | exact hc rfl)))))
        refine WQ_round (X := Nat × S6 × Value × Chunk) (μ := fun x => n - x.1) (x := (i, s4, v1, C1)) (i + 1, pt most (tk d s4 8) (UInt8.ofNat (tv d s4 8)), v2, C2) (by simp only; omega) ⟨by simp only; omega, by simp only; rw [pt_t]; exact hb8, ho3, by simp only; rw [hk2]; exact hsl⟩ (by repeat (first | exact Sub.nil | refine Sub.cons rfl ?_ | refine Sub.cons (lk_int rfl (by first | omega | (dsimp only; omega))) ?_)) (fun w h => ?_)
        simp only [pt_t]
        unfold wkC
        exact iH h
      · have he1 : ¬ (tk d s4 8).e = 0 := by omega
        rw [if_neg he1] at hsl
        refine WQ_round (X := Nat × S6 × Value × Chunk) (μ := fun x => n - x.1) (x := (i, s4, v1, C1)) (i + 1, tk d s4 8, v1, C1) (by simp only; omega) ⟨by simp only; omega, hb8, by simp only; rw [tk_out]; exact hov, by simp only; rw [hk2]; exact hsl⟩ (by repeat (first | exact Sub.nil | refine Sub.cons rfl ?_ | refine Sub.cons (lk_int rfl (by first | omega | (dsimp only; omega))) ?_)) (fun w h => h)
    · have he0 : ¬ s4.e = 0 := by omega
      obtain ⟨k, hk⟩ : ∃ k, n - i = k + 1 := ⟨n - i - 1, by omega⟩
      rw [hk, stL, if_neg he0] at hsl
      rw [hsl]
      (first | refine WQ_retI rfl rfl ?_ | refine WQ_endI rfl rfl ?_)
      exact ⟨_, iC, v1, C1, rfl, hov, rfl, hst⟩
    · rw [show n - i = 0 from by omega, stL] at hsl
      rw [hsl]
      (first | refine WQ_retI rfl rfl ?_ | refine WQ_endI rfl rfl ?_)
      exact ⟨_, iC, v1, C1, rfl, hov, rfl, hst⟩
  · refine OW_EV (EV_bit (r := ((n &&& m : Nat) : Int)) rfl rfl (bit_and16 hn1 hn2)) rfl ?_
    rw [and_compl (show n + m = 65535 by omega), if_pos (show n + m = 65535 by omega)]
    generalize tk d (tk d s0 16) 16 = s3 at hb2 ho2 ⊢
    (repeat' (first | (show WL _ _ _ _ _ _ _; first | refine jA ?_ | refine jB ?_ | refine jC ?_ | refine jD ?_ | refine jE ?_ | refine jF ?_) | (show OW _ _ _ _ _ _; first | refine OW_E ?_ | refine jI ?_ | refine jJ ?_ | refine jK (fun bk => ?_) | refine jL (fun bk => ?_)) | (show WC _ _ _ _ _ _; first | refine jM ?_ | refine jN ?_ | refine jO ?_ | refine jP ?_ | refine jR ?_ | refine jS ?_ | refine jT ?_ | refine jU ?_) | (show WQ _ _ _ _; with_reducible first | refine jV ?_ | refine jW ?_ | refine jX ?_ | refine jY ?_ | refine jZ ?_ | refine kA ?_ | refine kB ?_ | refine kC ?_) | ((first | (refine jG (fun hc => ?_) (fun hc => ?_) <;> rw [hc]) | refine jQ (fun hc => ?_) (fun hc => ?_)) <;> (try simp only [nrB] at hc) <;> (try (exfalso; first | omega | exact hc trivial | exact hc rfl)))))
    refine WC_loop (X := Nat × S6 × Value × Chunk) (fun x => [(0, .pointer (some ⟨p, 0, none⟩)), (2, .int .i64 (n : Int)), (4, .int .i64 (x.1 : Int))]) (fun x => wkC p q x.2.2.1 most x.2.1.e :: biC q fa d.length fc x.2.1.t :: x.2.2.2 :: L)
      (fun x => x.1 ≤ n ∧ x.2.1.t ≤ 8 * d.length ∧ Ow 5 1 x.2.2.1 x.2.1.out.length (bsv x.2.1.out) x.2.2.2 ∧ stL d most n s3 = stL d most (n - x.1) x.2.1) (fun x => n - x.1) (0, s3, v, C) ⟨Nat.zero_le _, hb2, ho2, rfl⟩ (by repeat (first | exact Sub.nil | refine Sub.cons rfl ?_ | refine Sub.cons (lk_int rfl (by first | omega | (dsimp only; omega))) ?_)) (fun w h => h) ?_
    rintro ⟨i, s4, v1, C1⟩ ⟨hi, hst, hov, hsl⟩
    simp only at hi hst hov hsl ⊢
    rw [hw1]
    (repeat' (first | (show WL _ _ _ _ _ _ _; first | refine jA ?_ | refine jB ?_ | refine jC ?_ | refine jD ?_ | refine jE ?_ | refine jF ?_) | (show OW _ _ _ _ _ _; first | refine OW_E ?_ | refine jI ?_ | refine jJ ?_ | refine jK (fun bk => ?_) | refine jL (fun bk => ?_)) | (show WC _ _ _ _ _ _; first | refine jM ?_ | refine jN ?_ | refine jO ?_ | refine jP ?_ | refine jR ?_ | refine jS ?_ | refine jT ?_ | refine jU ?_) | (show WQ _ _ _ _; with_reducible first | refine jV ?_ | refine jW ?_ | refine jX ?_ | refine jY ?_ | refine jZ ?_ | refine kA ?_ | refine kB ?_ | refine kC ?_) | ((first | (refine jG (fun hc => ?_) (fun hc => ?_) <;> rw [hc]) | refine jQ (fun hc => ?_) (fun hc => ?_)) <;> (try simp only [nrB] at hc) <;> (try (exfalso; first | omega | exact hc trivial | exact hc rfl)))))
    · have ht8 := wtake_n p q most 8 v1 fa fc d s4 (C1 :: L) (sl_there hv) (by omega) hst (by omega)
      have hput := fun c => wput_n p q most c v1 (tk d s4 8) C1 (biC q fa d.length fc (tk d s4 8).t :: L) (by rw [tk_out]; exact hov) hm
      have he0 : s4.e = 0 := by omega
      obtain ⟨k, hk⟩ : ∃ k, n - i = k + 1 := ⟨n - i - 1, by omega⟩
      have hk2 : n - (i + 1) = k := by omega
      rw [hk, stL, if_pos he0] at hsl
      refine OW_call rfl rfl rfl ht8 rfl (fun r L' hp => ?_)
      obtain ⟨rfl, rfl, hb8⟩ := hp
      rw [hw1]
      (repeat' (first | (show WL _ _ _ _ _ _ _; first | refine jA ?_ | refine jB ?_ | refine jC ?_ | refine jD ?_ | refine jE ?_ | refine jF ?_) | (show OW _ _ _ _ _ _; first | refine OW_E ?_ | refine jI ?_ | refine jJ ?_ | refine jK (fun bk => ?_) | refine jL (fun bk => ?_)) | (show WC _ _ _ _ _ _; first | refine jM ?_ | refine jN ?_ | refine jO ?_ | refine jP ?_ | refine jR ?_ | refine jS ?_ | refine jT ?_ | refine jU ?_) | (show WQ _ _ _ _; with_reducible first | refine jV ?_ | refine jW ?_ | refine jX ?_ | refine jY ?_ | refine jZ ?_ | refine kA ?_ | refine kB ?_ | refine kC ?_) | ((first | (refine jG (fun hc => ?_) (fun hc => ?_) <;> rw [hc]) | refine jQ (fun hc => ?_) (fun hc => ?_)) <;> (try simp only [nrB] at hc) <;> (try (exfalso; first | omega | exact hc trivial | exact hc rfl)))))
      · have he1 : (tk d s4 8).e = 0 := by omega
        rw [if_pos he1] at hsl
        try rw [wrap_byte]
        have hp1 := hput (UInt8.ofNat (tv d s4 8))
        unfold wkC at hp1
        refine OW_call rfl rfl rfl (Gv.holds hp1 (fun w h => iH h)) rfl (fun r L' hp => ?_)
        obtain ⟨v2, C2, rfl, ho3, rfl⟩ := hp
        (repeat' (first | (show WL _ _ _ _ _ _ _; first | refine jA ?_ | refine jB ?_ | refine jC ?_ | refine jD ?_ | refine jE ?_ | refine jF ?_) | (show OW _ _ _ _ _ _; first | refine OW_E ?_ | refine jI ?_ | refine jJ ?_ | refine jK (fun bk => ?_) | refine jL (fun bk => ?_)) | (show WC _ _ _ _ _ _; first | refine jM ?_ | refine jN ?_ | refine jO ?_ | refine jP ?_ | refine jR ?_ | refine jS ?_ | refine jT ?_ | refine jU ?_) | (show WQ _ _ _ _; with_reducible first | refine jV ?_ | refine jW ?_ | refine jX ?_ | refine jY ?_ | refine jZ ?_ | refine kA ?_ | refine kB ?_ | refine kC ?_) | ((first | (refine jG (fun hc => ?_) (fun hc => ?_) <;> rw [hc]) | refine jQ (fun hc => ?_) (fun hc => ?_)) <;> (try simp only [nrB] at hc) <;> (try (exfalso; first | omega | exact hc trivial | exact hc rfl)))))
        refine WQ_round (X := Nat × S6 × Value × Chunk) (μ := fun x => n - x.1) (x := (i, s4, v1, C1)) (i + 1, pt most (tk d s4 8) (UInt8.ofNat (tv d s4 8)), v2, C2) (by simp only; omega) ⟨by simp only; omega, by simp only; rw [pt_t]; exact hb8, ho3, by simp only; rw [hk2]; exact hsl⟩ (by repeat (first | exact Sub.nil | refine Sub.cons rfl ?_ | refine Sub.cons (lk_int rfl (by first | omega | (dsimp only; omega))) ?_)) (fun w h => ?_)
        simp only [pt_t]
        unfold wkC
        exact iH h
      · have he1 : ¬ (tk d s4 8).e = 0 := by omega
        rw [if_neg he1] at hsl
        refine WQ_round (X := Nat × S6 × Value × Chunk) (μ := fun x => n - x.1) (x := (i, s4, v1, C1)) (i + 1, tk d s4 8, v1, C1) (by simp only; omega) ⟨by simp only; omega, hb8, by simp only; rw [tk_out]; exact hov, by simp only; rw [hk2]; exact hsl⟩ (by repeat (first | exact Sub.nil | refine Sub.cons rfl ?_ | refine Sub.cons (lk_int rfl (by first | omega | (dsimp only; omega))) ?_)) (fun w h => h)
    · have he0 : ¬ s4.e = 0 := by omega
      obtain ⟨k, hk⟩ : ∃ k, n - i = k + 1 := ⟨n - i - 1, by omega⟩
      rw [hk, stL, if_neg he0] at hsl
      rw [hsl]
      (first | refine WQ_retI rfl rfl ?_ | refine WQ_endI rfl rfl ?_)
      exact ⟨_, iC, v1, C1, rfl, hov, rfl, hst⟩
    · rw [show n - i = 0 from by omega, stL] at hsl
      rw [hsl]
      (first | refine WQ_retI rfl rfl ?_ | refine WQ_endI rfl rfl ?_)
      exact ⟨_, iC, v1, C1, rfl, hov, rfl, hst⟩
end Go.Proofs.YtkiaegkojlhaeaaDoor
