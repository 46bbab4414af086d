/- InflateMatches' body: a match of the fixed codes copies what stands ahead, or is refused. No conditions. -/
import Derived.Test.YtkiaegkojlhaeaaDoorMg
namespace Go.Proofs.YtkiaegkojlhaeaaDoor
open Go Go.Vx Go.Hf Go.If
variable [W0]
set_option maxRecDepth 4000
set_option linter.all false
theorem mtI_pre (b : List UInt8) (n far : Nat) : itV ((3, 3) :: (fxB b ++ mtI n far)) = itV (pre b) + 2 ^ itL (pre b) * mir (n - 2) 7 + 2 ^ (itL (pre b) + 7) * mir (far - 1) 5 + 2 ^ (itL (pre b) + 7 + 5) * mir 0 7 ∧ itL ((3, 3) :: (fxB b ++ mtI n far)) = itL (pre b) + 7 + 5 + 7 := by
  have e : (3, 3) :: (fxB b ++ mtI n far) = pre b ++ mtI n far := by simp [pre]
  rw [e, itV_app, itL_app, show mir 0 7 = 0 from by decide]
  generalize itV (pre b) = V
  generalize itL (pre b) = N
  refine ⟨?_, by show N + (7 + (5 + (7 + 0))) = _; omega⟩
  show V + 2 ^ N * (mir (n - 2) 7 + 2 ^ 7 * (mir (far - 1) 5 + 2 ^ 5 * (0 + 2 ^ 7 * 0))) = _
  rw [Nat.mul_add, Nat.mul_add (2 ^ 7), Nat.mul_add (2 ^ N), Nat.pow_add, ← Nat.mul_assoc]
  simp only [Nat.mul_zero, Nat.add_zero]
  omega

set_option maxHeartbeats 16000000 in
theorem inflatematches_n (a : Option Addr) (c : Nat) (b : List UInt8) (n0 d0 : Int) (L : List Chunk) (hv : Sl L 1 (.slice a b.length c) b.length (bsv b)) (hl : b.length ≤ 140737488351232) (hor : OrAt L) :
    GvP Tryd.prog 4 [.slice a b.length c, .int .i64 n0, .int .i64 d0].toArray L (.bool true) := by
  refine Gv.of_body Tryd.func4 rfl rfl ?_
  obtain ⟨n, hn⟩ : ∃ n : Nat, n0 % 8 + 3 = (n : Int) := ⟨(n0 % 8 + 3).toNat, by omega⟩
  obtain ⟨far, hfar⟩ : ∃ m : Nat, d0 % 4 + 1 = (m : Int) := ⟨(d0 % 4 + 1).toNat, by omega⟩
  have hn3 : 3 ≤ n ∧ n ≤ 10 := by omega
  have hf3 : 1 ≤ far ∧ far ≤ 4 := by omega
  (repeat' (first | (show WL _ _ _ _ _ _ _; first | refine jA ?_ | refine jB ?_ | refine jC ?_ | refine jD ?_ | refine jE ?_ | refine jF ?_) | (show OW _ _ _ _ _ _; first | refine OW_E ?_ | refine jI ?_ | refine jJ ?_ | refine jK (fun bk => ?_) | refine jL (fun bk => ?_)) | (show WC _ _ _ _ _ _; first | refine jM ?_ | refine jN ?_ | refine jO ?_ | refine jP ?_ | refine jR ?_ | refine jS ?_ | refine jT ?_ | refine jU ?_) | (show WQ _ _ _ _; with_reducible first | refine jV ?_ | refine jW ?_ | refine jX ?_ | refine jY ?_ | refine jZ ?_ | refine kA ?_ | refine kB ?_ | refine kC ?_) | ((first | (refine jG (fun hc => ?_) (fun hc => ?_) <;> rw [hc]) | refine jQ (fun hc => ?_) (fun hc => ?_)) <;> (try simp only [nrB] at hc) <;> (try (exfalso; first | omega | exact hc trivial | exact hc rfl)))))
  · refine OW_callP rfl rfl rfl (iawake_n L hor) rfl ?_
    (repeat' (first | (show WL _ _ _ _ _ _ _; first | refine jA ?_ | refine jB ?_ | refine jC ?_ | refine jD ?_ | refine jE ?_ | refine jF ?_) | (show OW _ _ _ _ _ _; first | refine OW_E ?_ | refine jI ?_ | refine jJ ?_ | refine jK (fun bk => ?_) | refine jL (fun bk => ?_)) | (show WC _ _ _ _ _ _; first | refine jM ?_ | refine jN ?_ | refine jO ?_ | refine jP ?_ | refine jR ?_ | refine jS ?_ | refine jT ?_ | refine jU ?_) | (show WQ _ _ _ _; with_reducible first | refine jV ?_ | refine jW ?_ | refine jX ?_ | refine jY ?_ | refine jZ ?_ | refine kA ?_ | refine kB ?_ | refine kC ?_) | ((first | (refine jG (fun hc => ?_) (fun hc => ?_) <;> rw [hc]) | refine jQ (fun hc => ?_) (fun hc => ?_)) <;> (try simp only [nrB] at hc) <;> (try (exfalso; first | omega | exact hc trivial | exact hc rfl)))))
    ((first | refine WQ_retI rfl rfl ?_ | refine WQ_endI rfl rfl ?_); exact ⟨_, iC, rfl, rfl⟩)
  refine OW_EV (EV_mask (p := 8) rfl rfl rfl) rfl ?_
  (repeat' (first | (show WL _ _ _ _ _ _ _; first | refine jA ?_ | refine jB ?_ | refine jC ?_ | refine jD ?_ | refine jE ?_ | refine jF ?_) | (show OW _ _ _ _ _ _; first | refine OW_E ?_ | refine jI ?_ | refine jJ ?_ | refine jK (fun bk => ?_) | refine jL (fun bk => ?_)) | (show WC _ _ _ _ _ _; first | refine jM ?_ | refine jN ?_ | refine jO ?_ | refine jP ?_ | refine jR ?_ | refine jS ?_ | refine jT ?_ | refine jU ?_) | (show WQ _ _ _ _; with_reducible first | refine jV ?_ | refine jW ?_ | refine jX ?_ | refine jY ?_ | refine jZ ?_ | refine kA ?_ | refine kB ?_ | refine kC ?_) | ((first | (refine jG (fun hc => ?_) (fun hc => ?_) <;> rw [hc]) | refine jQ (fun hc => ?_) (fun hc => ?_)) <;> (try simp only [nrB] at hc) <;> (try (exfalso; first | omega | exact hc trivial | exact hc rfl)))))
  refine OW_EV (EV_mask (p := 4) rfl rfl rfl) rfl ?_
  (repeat' (first | (show WL _ _ _ _ _ _ _; first | refine jA ?_ | refine jB ?_ | refine jC ?_ | refine jD ?_ | refine jE ?_ | refine jF ?_) | (show OW _ _ _ _ _ _; first | refine OW_E ?_ | refine jI ?_ | refine jJ ?_ | refine jK (fun bk => ?_) | refine jL (fun bk => ?_)) | (show WC _ _ _ _ _ _; first | refine jM ?_ | refine jN ?_ | refine jO ?_ | refine jP ?_ | refine jR ?_ | refine jS ?_ | refine jT ?_ | refine jU ?_) | (show WQ _ _ _ _; with_reducible first | refine jV ?_ | refine jW ?_ | refine jX ?_ | refine jY ?_ | refine jZ ?_ | refine kA ?_ | refine kB ?_ | refine kC ?_) | ((first | (refine jG (fun hc => ?_) (fun hc => ?_) <;> rw [hc]) | refine jQ (fun hc => ?_) (fun hc => ?_)) <;> (try simp only [nrB] at hc) <;> (try (exfalso; first | omega | exact hc trivial | exact hc rfl)))))
  rw [hn, hfar]
  obtain ⟨p, hp⟩ : ∃ p, p = bk := ⟨_, rfl⟩
  rw [← hp]
  clear hp
  refine OW_holds (L' := [(p, cl [.slice none 0 0, .int .i64 0] 26)] :: [] :: L) (fun w h => Holds.gap.2 h) ?_
  refine OW_call rfl rfl rfl (rput_n p 0 0 3 3 _ [] L (RwD.new p) (by decide) (by decide)) rfl (fun r L' hp => ?_)
  obtain ⟨rfl, D1, E1, hw1, rfl⟩ := hp
  rw [show 0 + 2 ^ 0 * (3 % 2 ^ clp 3) = itV (pre (b.take 0)) from by rw [List.take_zero]; decide, show 0 + clp 3 = itL (pre (b.take 0)) from by rw [List.take_zero]; decide] at hw1
  (repeat' (first | (show WL _ _ _ _ _ _ _; first | refine jA ?_ | refine jB ?_ | refine jC ?_ | refine jD ?_ | refine jE ?_ | refine jF ?_) | (show OW _ _ _ _ _ _; first | refine OW_E ?_ | refine jI ?_ | refine jJ ?_ | refine jK (fun bk => ?_) | refine jL (fun bk => ?_)) | (show WC _ _ _ _ _ _; first | refine jM ?_ | refine jN ?_ | refine jO ?_ | refine jP ?_ | refine jR ?_ | refine jS ?_ | refine jT ?_ | refine jU ?_) | (show WQ _ _ _ _; with_reducible first | refine jV ?_ | refine jW ?_ | refine jX ?_ | refine jY ?_ | refine jZ ?_ | refine kA ?_ | refine kB ?_ | refine kC ?_) | ((first | (refine jG (fun hc => ?_) (fun hc => ?_) <;> rw [hc]) | refine jQ (fun hc => ?_) (fun hc => ?_)) <;> (try simp only [nrB] at hc) <;> (try (exfalso; first | omega | exact hc trivial | exact hc rfl)))))
  refine WC_loop (X := Nat × Chunk × Chunk) (fun x => [(0, .slice a b.length c), (1, .int .i64 (n : Int)), (2, .int .i64 (far : Int)), (7, .pointer (some ⟨p, 0, none⟩)), (8, .int .i64 (x.1 : Int))]) (fun x => x.2.1 :: x.2.2 :: L)
    (fun x => x.1 ≤ b.length ∧ RwD p (itV (pre (b.take x.1))) (itL (pre (b.take x.1))) x.2.1 x.2.2) (fun x => b.length - x.1) (0, D1, E1) ⟨Nat.zero_le _, hw1⟩ (by repeat (first | exact Sub.nil | refine Sub.cons rfl ?_ | refine Sub.cons (lk_int rfl (by first | omega | (dsimp only; omega))) ?_)) (fun w h => h) ?_
  rintro ⟨k, D, E⟩ ⟨hk, hw⟩
  simp only at hk hw ⊢
  have hN : itL (pre (b.take k)) ≤ 5000 := by
    have := fxB_le (b.take k)
    rw [List.length_take] at this
    show 3 + itL (fxB (b.take k)) ≤ 5000
    omega
  (repeat' (first | (show WL _ _ _ _ _ _ _; first | refine jA ?_ | refine jB ?_ | refine jC ?_ | refine jD ?_ | refine jE ?_ | refine jF ?_) | (show OW _ _ _ _ _ _; first | refine OW_E ?_ | refine jI ?_ | refine jJ ?_ | refine jK (fun bk => ?_) | refine jL (fun bk => ?_)) | (show WC _ _ _ _ _ _; first | refine jM ?_ | refine jN ?_ | refine jO ?_ | refine jP ?_ | refine jR ?_ | refine jS ?_ | refine jT ?_ | refine jU ?_) | (show WQ _ _ _ _; with_reducible first | refine jV ?_ | refine jW ?_ | refine jX ?_ | refine jY ?_ | refine jZ ?_ | refine kA ?_ | refine kB ?_ | refine kC ?_) | ((first | (refine jG (fun hc => ?_) (fun hc => ?_) <;> rw [hc]) | refine jQ (fun hc => ?_) (fun hc => ?_)) <;> (try simp only [nrB] at hc) <;> (try (exfalso; first | omega | exact hc trivial | exact hc rfl)))))
  · have hlt : k < b.length := by omega
    obtain ⟨bb, off, cap, cc, T, fr, hve, hfn, hcell⟩ := sl_byte hv hlt
    injection hve with q1 q2 q3
    subst q1 q3
    clear q2
    refine OW_EV (EV_indexAddr (j := k) rfl rfl rfl hlt) rfl ?_
    (repeat' (first | (show WL _ _ _ _ _ _ _; first | refine jA ?_ | refine jB ?_ | refine jC ?_ | refine jD ?_ | refine jE ?_ | refine jF ?_) | (show OW _ _ _ _ _ _; first | refine OW_E ?_ | refine jI ?_ | refine jJ ?_ | refine jK (fun bk => ?_) | refine jL (fun bk => ?_)) | (show WC _ _ _ _ _ _; first | refine jM ?_ | refine jN ?_ | refine jO ?_ | refine jP ?_ | refine jR ?_ | refine jS ?_ | refine jT ?_ | refine jU ?_) | (show WQ _ _ _ _; with_reducible first | refine jV ?_ | refine jW ?_ | refine jX ?_ | refine jY ?_ | refine jZ ?_ | refine kA ?_ | refine kB ?_ | refine kC ?_) | ((first | (refine jG (fun hc => ?_) (fun hc => ?_) <;> rw [hc]) | refine jQ (fun hc => ?_) (fun hc => ?_)) <;> (try simp only [nrB] at hc) <;> (try (exfalso; first | omega | exact hc trivial | exact hc rfl)))))
    refine OW_EV (EV_load rfl hfn.there.there hcell) rfl ?_
    have hsn := pre_snoc (b.take k) (b.getD k 0)
    rw [← take_succ 0 hlt] at hsn
    have hx := (b.getD k 0).toNat_lt
    generalize (b.getD k 0).toNat = x at hsn hx
    have hwr : IntKind.u32.wrap (x : Int) = (x : Int) := wrap_nat rfl (by simp only [IntKind.bits]; omega)
    (repeat' (first | (show WL _ _ _ _ _ _ _; first | refine jA ?_ | refine jB ?_ | refine jC ?_ | refine jD ?_ | refine jE ?_ | refine jF ?_) | (show OW _ _ _ _ _ _; first | refine OW_E ?_ | refine jI ?_ | refine jJ ?_ | refine jK (fun bk => ?_) | refine jL (fun bk => ?_)) | (show WC _ _ _ _ _ _; first | refine jM ?_ | refine jN ?_ | refine jO ?_ | refine jP ?_ | refine jR ?_ | refine jS ?_ | refine jT ?_ | refine jU ?_) | (show WQ _ _ _ _; with_reducible first | refine jV ?_ | refine jW ?_ | refine jX ?_ | refine jY ?_ | refine jZ ?_ | refine kA ?_ | refine kB ?_ | refine kC ?_) | ((first | (refine jG (fun hc => ?_) (fun hc => ?_) <;> rw [hc]) | refine jQ (fun hc => ?_) (fun hc => ?_)) <;> (try simp only [nrB] at hc) <;> (try (exfalso; first | omega | exact hc trivial | exact hc rfl)))))
    · rw [hwr] at hc ⊢
      have hfx : fxC x = (mir (48 + x) 8, 8) := by
        have h1 : fxK x = 48 + x := by unfold fxK; rw [if_pos (by omega)]
        have h2 : fxN x = 8 := by unfold fxN; rw [if_neg (by omega), if_neg (by omega)]
        unfold fxC
        rw [fx_cd' (by omega), h1, h2]
      rw [hfx] at hsn
      refine OW_EV (EV_nadd (k := .u32) 48 x rfl rfl rfl rfl rfl (by simp only [IntKind.bits]; omega)) rfl ?_
      (repeat' (first | (show WL _ _ _ _ _ _ _; first | refine jA ?_ | refine jB ?_ | refine jC ?_ | refine jD ?_ | refine jE ?_ | refine jF ?_) | (show OW _ _ _ _ _ _; first | refine OW_E ?_ | refine jI ?_ | refine jJ ?_ | refine jK (fun bk => ?_) | refine jL (fun bk => ?_)) | (show WC _ _ _ _ _ _; first | refine jM ?_ | refine jN ?_ | refine jO ?_ | refine jP ?_ | refine jR ?_ | refine jS ?_ | refine jT ?_ | refine jU ?_) | (show WQ _ _ _ _; with_reducible first | refine jV ?_ | refine jW ?_ | refine jX ?_ | refine jY ?_ | refine jZ ?_ | refine kA ?_ | refine kB ?_ | refine kC ?_) | ((first | (refine jG (fun hc => ?_) (fun hc => ?_) <;> rw [hc]) | refine jQ (fun hc => ?_) (fun hc => ?_)) <;> (try simp only [nrB] at hc) <;> (try (exfalso; first | omega | exact hc trivial | exact hc rfl)))))
      refine OW_call rfl rfl rfl (rcode_n p _ _ (48 + x) 8 D E L hw (by omega) (by omega)) rfl (fun r L' hp => ?_)
      obtain ⟨rfl, D2, E2, hw2, rfl⟩ := hp
      rw [show clp 8 = 8 from by decide] at hw2
      simp only at hsn
      rw [← hsn.1, ← hsn.2] at hw2
      (repeat' (first | (show WL _ _ _ _ _ _ _; first | refine jA ?_ | refine jB ?_ | refine jC ?_ | refine jD ?_ | refine jE ?_ | refine jF ?_) | (show OW _ _ _ _ _ _; first | refine OW_E ?_ | refine jI ?_ | refine jJ ?_ | refine jK (fun bk => ?_) | refine jL (fun bk => ?_)) | (show WC _ _ _ _ _ _; first | refine jM ?_ | refine jN ?_ | refine jO ?_ | refine jP ?_ | refine jR ?_ | refine jS ?_ | refine jT ?_ | refine jU ?_) | (show WQ _ _ _ _; with_reducible first | refine jV ?_ | refine jW ?_ | refine jX ?_ | refine jY ?_ | refine jZ ?_ | refine kA ?_ | refine kB ?_ | refine kC ?_) | ((first | (refine jG (fun hc => ?_) (fun hc => ?_) <;> rw [hc]) | refine jQ (fun hc => ?_) (fun hc => ?_)) <;> (try simp only [nrB] at hc) <;> (try (exfalso; first | omega | exact hc trivial | exact hc rfl)))))
      refine WQ_round (X := Nat × Chunk × Chunk) (μ := fun x => b.length - x.1) (x := (k, D, E)) (k + 1, D2, E2) (by simp only; omega) ⟨by simp only; omega, hw2⟩ (by repeat (first | exact Sub.nil | refine Sub.cons rfl ?_ | refine Sub.cons (lk_int rfl (by first | omega | (dsimp only; omega))) ?_)) (fun w h => h)
    · rw [hwr] at hc ⊢
      have hfx : fxC x = (mir (400 + x - 144) 9, 9) := by
        have h1 : fxK x = 400 + x - 144 := by unfold fxK; rw [if_neg (by omega), if_pos (by omega)]
        have h2 : fxN x = 9 := by unfold fxN; rw [if_neg (by omega), if_pos (by omega)]
        unfold fxC
        rw [fx_cd' (by omega), h1, h2]
      rw [hfx] at hsn
      refine OW_EV (EV_nadd (k := .u32) 400 x rfl rfl rfl rfl rfl (by simp only [IntKind.bits]; omega)) rfl ?_
      (repeat' (first | (show WL _ _ _ _ _ _ _; first | refine jA ?_ | refine jB ?_ | refine jC ?_ | refine jD ?_ | refine jE ?_ | refine jF ?_) | (show OW _ _ _ _ _ _; first | refine OW_E ?_ | refine jI ?_ | refine jJ ?_ | refine jK (fun bk => ?_) | refine jL (fun bk => ?_)) | (show WC _ _ _ _ _ _; first | refine jM ?_ | refine jN ?_ | refine jO ?_ | refine jP ?_ | refine jR ?_ | refine jS ?_ | refine jT ?_ | refine jU ?_) | (show WQ _ _ _ _; with_reducible first | refine jV ?_ | refine jW ?_ | refine jX ?_ | refine jY ?_ | refine jZ ?_ | refine kA ?_ | refine kB ?_ | refine kC ?_) | ((first | (refine jG (fun hc => ?_) (fun hc => ?_) <;> rw [hc]) | refine jQ (fun hc => ?_) (fun hc => ?_)) <;> (try simp only [nrB] at hc) <;> (try (exfalso; first | omega | exact hc trivial | exact hc rfl)))))
      refine OW_EV (EV_nsub (k := .u32) (400 + x) 144 rfl rfl rfl rfl rfl (by omega) (by simp only [IntKind.bits]; omega)) rfl ?_
      (repeat' (first | (show WL _ _ _ _ _ _ _; first | refine jA ?_ | refine jB ?_ | refine jC ?_ | refine jD ?_ | refine jE ?_ | refine jF ?_) | (show OW _ _ _ _ _ _; first | refine OW_E ?_ | refine jI ?_ | refine jJ ?_ | refine jK (fun bk => ?_) | refine jL (fun bk => ?_)) | (show WC _ _ _ _ _ _; first | refine jM ?_ | refine jN ?_ | refine jO ?_ | refine jP ?_ | refine jR ?_ | refine jS ?_ | refine jT ?_ | refine jU ?_) | (show WQ _ _ _ _; with_reducible first | refine jV ?_ | refine jW ?_ | refine jX ?_ | refine jY ?_ | refine jZ ?_ | refine kA ?_ | refine kB ?_ | refine kC ?_) | ((first | (refine jG (fun hc => ?_) (fun hc => ?_) <;> rw [hc]) | refine jQ (fun hc => ?_) (fun hc => ?_)) <;> (try simp only [nrB] at hc) <;> (try (exfalso; first | omega | exact hc trivial | exact hc rfl)))))
      refine OW_call rfl rfl rfl (rcode_n p _ _ (400 + x - 144) 9 D E L hw (by omega) (by omega)) rfl (fun r L' hp => ?_)
      obtain ⟨rfl, D2, E2, hw2, rfl⟩ := hp
      rw [show clp 9 = 9 from by decide] at hw2
      simp only at hsn
      rw [← hsn.1, ← hsn.2] at hw2
      (repeat' (first | (show WL _ _ _ _ _ _ _; first | refine jA ?_ | refine jB ?_ | refine jC ?_ | refine jD ?_ | refine jE ?_ | refine jF ?_) | (show OW _ _ _ _ _ _; first | refine OW_E ?_ | refine jI ?_ | refine jJ ?_ | refine jK (fun bk => ?_) | refine jL (fun bk => ?_)) | (show WC _ _ _ _ _ _; first | refine jM ?_ | refine jN ?_ | refine jO ?_ | refine jP ?_ | refine jR ?_ | refine jS ?_ | refine jT ?_ | refine jU ?_) | (show WQ _ _ _ _; with_reducible first | refine jV ?_ | refine jW ?_ | refine jX ?_ | refine jY ?_ | refine jZ ?_ | refine kA ?_ | refine kB ?_ | refine kC ?_) | ((first | (refine jG (fun hc => ?_) (fun hc => ?_) <;> rw [hc]) | refine jQ (fun hc => ?_) (fun hc => ?_)) <;> (try simp only [nrB] at hc) <;> (try (exfalso; first | omega | exact hc trivial | exact hc rfl)))))
      refine WQ_round (X := Nat × Chunk × Chunk) (μ := fun x => b.length - x.1) (x := (k, D, E)) (k + 1, D2, E2) (by simp only; omega) ⟨by simp only; omega, hw2⟩ (by repeat (first | exact Sub.nil | refine Sub.cons rfl ?_ | refine Sub.cons (lk_int rfl (by first | omega | (dsimp only; omega))) ?_)) (fun w h => h)
  · obtain rfl : k = b.length := by omega
    rw [List.take_length] at hw hN
    have hc1 : b.length ≤ 100 := by omega
    have hwr1 : IntKind.u32.wrap ((n : Int) - 2) = ((n - 2 : Nat) : Int) := by rw [show (n : Int) - 2 = ((n - 2 : Nat) : Int) from by omega]; exact wrap_nat rfl (by simp only [IntKind.bits]; omega)
    have hwr2 : IntKind.u32.wrap ((far : Int) - 1) = ((far - 1 : Nat) : Int) := by rw [show (far : Int) - 1 = ((far - 1 : Nat) : Int) from by omega]; exact wrap_nat rfl (by simp only [IntKind.bits]; omega)
    rw [hwr1]
    refine OW_call rfl rfl rfl (rcode_n p _ _ (n - 2) 7 D E L hw (by omega) (by omega)) rfl (fun r L' hp => ?_)
    obtain ⟨rfl, D2, E2, hw2, rfl⟩ := hp
    rw [show clp 7 = 7 from by decide] at hw2
    (repeat' (first | (show WL _ _ _ _ _ _ _; first | refine jA ?_ | refine jB ?_ | refine jC ?_ | refine jD ?_ | refine jE ?_ | refine jF ?_) | (show OW _ _ _ _ _ _; first | refine OW_E ?_ | refine jI ?_ | refine jJ ?_ | refine jK (fun bk => ?_) | refine jL (fun bk => ?_)) | (show WC _ _ _ _ _ _; first | refine jM ?_ | refine jN ?_ | refine jO ?_ | refine jP ?_ | refine jR ?_ | refine jS ?_ | refine jT ?_ | refine jU ?_) | (show WQ _ _ _ _; with_reducible first | refine jV ?_ | refine jW ?_ | refine jX ?_ | refine jY ?_ | refine jZ ?_ | refine kA ?_ | refine kB ?_ | refine kC ?_) | ((first | (refine jG (fun hc => ?_) (fun hc => ?_) <;> rw [hc]) | refine jQ (fun hc => ?_) (fun hc => ?_)) <;> (try simp only [nrB] at hc) <;> (try (exfalso; first | omega | exact hc trivial | exact hc rfl)))))
    rw [hwr2]
    refine OW_call rfl rfl rfl (rcode_n p _ _ (far - 1) 5 D2 E2 L hw2 (by omega) (by omega)) rfl (fun r L' hp => ?_)
    obtain ⟨rfl, D3, E3, hw3, rfl⟩ := hp
    rw [show clp 5 = 5 from by decide] at hw3
    (repeat' (first | (show WL _ _ _ _ _ _ _; first | refine jA ?_ | refine jB ?_ | refine jC ?_ | refine jD ?_ | refine jE ?_ | refine jF ?_) | (show OW _ _ _ _ _ _; first | refine OW_E ?_ | refine jI ?_ | refine jJ ?_ | refine jK (fun bk => ?_) | refine jL (fun bk => ?_)) | (show WC _ _ _ _ _ _; first | refine jM ?_ | refine jN ?_ | refine jO ?_ | refine jP ?_ | refine jR ?_ | refine jS ?_ | refine jT ?_ | refine jU ?_) | (show WQ _ _ _ _; with_reducible first | refine jV ?_ | refine jW ?_ | refine jX ?_ | refine jY ?_ | refine jZ ?_ | refine kA ?_ | refine kB ?_ | refine kC ?_) | ((first | (refine jG (fun hc => ?_) (fun hc => ?_) <;> rw [hc]) | refine jQ (fun hc => ?_) (fun hc => ?_)) <;> (try simp only [nrB] at hc) <;> (try (exfalso; first | omega | exact hc trivial | exact hc rfl)))))
    refine OW_call rfl rfl rfl (rcode_n p _ _ 0 7 D3 E3 L hw3 (by decide) (by omega)) rfl (fun r L' hp => ?_)
    obtain ⟨rfl, D4, E4, hw4, rfl⟩ := hp
    obtain ⟨e1, e2⟩ := mtI_pre b n far
    rw [show clp 7 = 7 from by decide, ← e1, ← e2] at hw4
    have hraw := fun most (hm : b.length ≤ most) => match_raw b (n := n) (far := far) (most := most) hn3.1 hn3.2 hf3.1 hf3.2 hm
    have hNN : itL ((3, 3) :: (fxB b ++ mtI n far)) ≤ 6000 := by omega
    generalize itV ((3, 3) :: (fxB b ++ mtI n far)) = V at hw4 hraw
    generalize itL ((3, 3) :: (fxB b ++ mtI n far)) = N at hw4 hraw hNN
    obtain ⟨hVN, v, rfl, hoW⟩ := hw4
    obtain ⟨va, vc, rfl⟩ := ow_slc hoW
    have hlen : (leB V ((N + 7) / 8)).length = (N + 7) / 8 := leB_length _ _
    clear hw hw2 hw3 e1 e2
    (repeat' (first | (show WL _ _ _ _ _ _ _; first | refine jA ?_ | refine jB ?_ | refine jC ?_ | refine jD ?_ | refine jE ?_ | refine jF ?_) | (show OW _ _ _ _ _ _; first | refine OW_E ?_ | refine jI ?_ | refine jJ ?_ | refine jK (fun bk => ?_) | refine jL (fun bk => ?_)) | (show WC _ _ _ _ _ _; first | refine jM ?_ | refine jN ?_ | refine jO ?_ | refine jP ?_ | refine jR ?_ | refine jS ?_ | refine jT ?_ | refine jU ?_) | (show WQ _ _ _ _; with_reducible first | refine jV ?_ | refine jW ?_ | refine jX ?_ | refine jY ?_ | refine jZ ?_ | refine kA ?_ | refine kB ?_ | refine kC ?_) | ((first | (refine jG (fun hc => ?_) (fun hc => ?_) <;> rw [hc]) | refine jQ (fun hc => ?_) (fun hc => ?_)) <;> (try simp only [nrB] at hc) <;> (try (exfalso; first | omega | exact hc trivial | exact hc rfl)))))
    apply OW_buildSlice (parts := []) (pvs := []) (cs := [])
    · rfl
    · rfl
    · rfl
    · omega
    · rfl
    · rfl
    intro b1
    (repeat' (first | (show WL _ _ _ _ _ _ _; first | refine jA ?_ | refine jB ?_ | refine jC ?_ | refine jD ?_ | refine jE ?_ | refine jF ?_) | (show OW _ _ _ _ _ _; first | refine OW_E ?_ | refine jI ?_ | refine jJ ?_ | refine jK (fun bk => ?_) | refine jL (fun bk => ?_)) | (show WC _ _ _ _ _ _; first | refine jM ?_ | refine jN ?_ | refine jO ?_ | refine jP ?_ | refine jR ?_ | refine jS ?_ | refine jT ?_ | refine jU ?_) | (show WQ _ _ _ _; with_reducible first | refine jV ?_ | refine jW ?_ | refine jX ?_ | refine jY ?_ | refine jZ ?_ | refine kA ?_ | refine kB ?_ | refine kC ?_) | ((first | (refine jG (fun hc => ?_) (fun hc => ?_) <;> rw [hc]) | refine jQ (fun hc => ?_) (fun hc => ?_)) <;> (try simp only [nrB] at hc) <;> (try (exfalso; first | omega | exact hc trivial | exact hc rfl)))))
    refine OW_append rfl rfl (m := 0) (xs := []) (C := [(b1, cl [] 5)]) (.inr ⟨b1, 0, [], rfl, rfl, rfl, rfl, Nat.le_refl _, by simp [maxLen]⟩) (c := b.length) (ys := bsv b) (by repeat (first | exact hv | apply sl_there)) (by repeat (first | exact Zip.here _ | apply Zip.there)) rfl bsv_ones (by omega) (by show _ ≤ 9223372036854775807; omega) rfl (fun v3 C3 ho3 _ _ => ?_)
    rw [List.nil_append, Nat.zero_add] at ho3
    obtain ⟨v3a, v3c, rfl⟩ := ow_slc ho3
    (repeat' (first | (show WL _ _ _ _ _ _ _; first | refine jA ?_ | refine jB ?_ | refine jC ?_ | refine jD ?_ | refine jE ?_ | refine jF ?_) | (show OW _ _ _ _ _ _; first | refine OW_E ?_ | refine jI ?_ | refine jJ ?_ | refine jK (fun bk => ?_) | refine jL (fun bk => ?_)) | (show WC _ _ _ _ _ _; first | refine jM ?_ | refine jN ?_ | refine jO ?_ | refine jP ?_ | refine jR ?_ | refine jS ?_ | refine jT ?_ | refine jU ?_) | (show WQ _ _ _ _; with_reducible first | refine jV ?_ | refine jW ?_ | refine jX ?_ | refine jY ?_ | refine jZ ?_ | refine kA ?_ | refine kB ?_ | refine kC ?_) | ((first | (refine jG (fun hc => ?_) (fun hc => ?_) <;> rw [hc]) | refine jQ (fun hc => ?_) (fun hc => ?_)) <;> (try simp only [nrB] at hc) <;> (try (exfalso; first | omega | exact hc trivial | exact hc rfl)))))
    have hdw : ∀ (o : List UInt8) (k : Nat), (cpW far k o).length = o.length + k := by
      intro o k
      induction k generalizing o with
      | zero => rfl
      | succ k ih => rw [cpW, ih]; simp; omega
    refine WC_loop (X := Nat × List UInt8 × Value × Chunk) (fun x => [(0, .slice a b.length c), (1, .int .i64 (n : Int)), (2, .int .i64 (far : Int)), (7, .pointer (some ⟨p, 0, none⟩)), (10, x.2.2.1), (11, .int .i64 (x.1 : Int))]) (fun x => x.2.2.2 :: [(p, cl [.slice va ((N + 7) / 8) vc, .int .i64 (N : Int)] 26)] :: E4 :: L)
      (fun x => x.1 ≤ n ∧ (x.1 = 0 ∨ far ≤ b.length) ∧ Ow 5 1 x.2.2.1 x.2.1.length (bsv x.2.1) x.2.2.2 ∧ x.2.1.length = b.length + x.1 ∧ cpW far (n - x.1) x.2.1 = cpW far n b) (fun x => n - x.1) (0, b, .slice v3a b.length v3c, C3) ⟨Nat.zero_le _, .inl rfl, ho3, rfl, rfl⟩ (by repeat (first | exact Sub.nil | refine Sub.cons rfl ?_ | refine Sub.cons (lk_int rfl (by first | omega | (dsimp only; omega))) ?_)) (fun w h => iH h) ?_
    clear ho3
    rintro ⟨i, o, vo, Co⟩ ⟨hi, hif, hoo, hol, hcp⟩
    simp only at hi hif hoo hol hcp ⊢
    obtain ⟨oa, oc, rfl⟩ := ow_slc hoo
    (repeat' (first | (show WL _ _ _ _ _ _ _; first | refine jA ?_ | refine jB ?_ | refine jC ?_ | refine jD ?_ | refine jE ?_ | refine jF ?_) | (show OW _ _ _ _ _ _; first | refine OW_E ?_ | refine jI ?_ | refine jJ ?_ | refine jK (fun bk => ?_) | refine jL (fun bk => ?_)) | (show WC _ _ _ _ _ _; first | refine jM ?_ | refine jN ?_ | refine jO ?_ | refine jP ?_ | refine jR ?_ | refine jS ?_ | refine jT ?_ | refine jU ?_) | (show WQ _ _ _ _; with_reducible first | refine jV ?_ | refine jW ?_ | refine jX ?_ | refine jY ?_ | refine jZ ?_ | refine kA ?_ | refine kB ?_ | refine kC ?_) | ((first | (refine jG (fun hc => ?_) (fun hc => ?_) <;> rw [hc]) | refine jQ (fun hc => ?_) (fun hc => ?_)) <;> (try simp only [nrB] at hc) <;> (try (exfalso; first | omega | exact hc trivial | exact hc rfl)))))
    · have hfb : far ≤ b.length := by omega
      obtain ⟨k2, hk2⟩ : ∃ k2, n - i = k2 + 1 := ⟨n - i - 1, by omega⟩
      have hk3 : n - (i + 1) = k2 := by omega
      rw [hk2, cpW] at hcp
      have hov2 := hoo
      rcases hov2 with ⟨_, h1, _⟩ | ⟨b9, cap, rest, hve, rfl, hxl, hrl, hmc, hcm⟩
      · omega
      injection hve with q1 q2 q3
      subst q1 q3
      clear q2
      have hcell : (bsv o ++ rest).toArray[(o.length - far) * 1]? = some (.int .u8 ((o.getD (o.length - far) 0).toNat : Int)) := by
        rw [Nat.mul_one]
        simpa using getE_app (r := rest) (bsv_get (l := o) (i := o.length - far) (b := o.getD (o.length - far) 0) (by simp [List.getD, show o.length - far < o.length from by omega]))
      generalize o.getD (o.length - far) 0 = cc at hcp hcell
      rw [show (o.length : Int) - (far : Int) = ((o.length - far : Nat) : Int) from by omega]
      refine OW_EV (EV_indexAddr0 (j := o.length - far) (len := o.length) rfl rfl rfl (by omega)) rfl ?_
      (repeat' (first | (show WL _ _ _ _ _ _ _; first | refine jA ?_ | refine jB ?_ | refine jC ?_ | refine jD ?_ | refine jE ?_ | refine jF ?_) | (show OW _ _ _ _ _ _; first | refine OW_E ?_ | refine jI ?_ | refine jJ ?_ | refine jK (fun bk => ?_) | refine jL (fun bk => ?_)) | (show WC _ _ _ _ _ _; first | refine jM ?_ | refine jN ?_ | refine jO ?_ | refine jP ?_ | refine jR ?_ | refine jS ?_ | refine jT ?_ | refine jU ?_) | (show WQ _ _ _ _; with_reducible first | refine jV ?_ | refine jW ?_ | refine jX ?_ | refine jY ?_ | refine jZ ?_ | refine kA ?_ | refine kB ?_ | refine kC ?_) | ((first | (refine jG (fun hc => ?_) (fun hc => ?_) <;> rw [hc]) | refine jQ (fun hc => ?_) (fun hc => ?_)) <;> (try simp only [nrB] at hc) <;> (try (exfalso; first | omega | exact hc trivial | exact hc rfl)))))
      refine OW_EV (EV_load rfl Fnd.here hcell) rfl ?_
      (repeat' (first | (show WL _ _ _ _ _ _ _; first | refine jA ?_ | refine jB ?_ | refine jC ?_ | refine jD ?_ | refine jE ?_ | refine jF ?_) | (show OW _ _ _ _ _ _; first | refine OW_E ?_ | refine jI ?_ | refine jJ ?_ | refine jK (fun bk => ?_) | refine jL (fun bk => ?_)) | (show WC _ _ _ _ _ _; first | refine jM ?_ | refine jN ?_ | refine jO ?_ | refine jP ?_ | refine jR ?_ | refine jS ?_ | refine jT ?_ | refine jU ?_) | (show WQ _ _ _ _; with_reducible first | refine jV ?_ | refine jW ?_ | refine jX ?_ | refine jY ?_ | refine jZ ?_ | refine kA ?_ | refine kB ?_ | refine kC ?_) | ((first | (refine jG (fun hc => ?_) (fun hc => ?_) <;> rw [hc]) | refine jQ (fun hc => ?_) (fun hc => ?_)) <;> (try simp only [nrB] at hc) <;> (try (exfalso; first | omega | exact hc trivial | exact hc rfl)))))
      refine OW_buildSlice (cs := [.int .u8 (cc.toNat : Int)]) rfl (by rfl) (by first | (simp [fillL, patch, Value.cells, zeros]; done) | (simp [fillL, patch, Value.cells, zeros]; rfl)) (by omega) rfl rfl (fun bn => ?_)
      (repeat' (first | (show WL _ _ _ _ _ _ _; first | refine jA ?_ | refine jB ?_ | refine jC ?_ | refine jD ?_ | refine jE ?_ | refine jF ?_) | (show OW _ _ _ _ _ _; first | refine OW_E ?_ | refine jI ?_ | refine jJ ?_ | refine jK (fun bk => ?_) | refine jL (fun bk => ?_)) | (show WC _ _ _ _ _ _; first | refine jM ?_ | refine jN ?_ | refine jO ?_ | refine jP ?_ | refine jR ?_ | refine jS ?_ | refine jT ?_ | refine jU ?_) | (show WQ _ _ _ _; with_reducible first | refine jV ?_ | refine jW ?_ | refine jX ?_ | refine jY ?_ | refine jZ ?_ | refine kA ?_ | refine kB ?_ | refine kC ?_) | ((first | (refine jG (fun hc => ?_) (fun hc => ?_) <;> rw [hc]) | refine jQ (fun hc => ?_) (fun hc => ?_)) <;> (try simp only [nrB] at hc) <;> (try (exfalso; first | omega | exact hc trivial | exact hc rfl)))))
      refine OW_append rfl rfl hoo (sl_cells (k := 1) (c := #[.int .u8 (cc.toNat : Int)]) (xs := [.int .u8 (cc.toNat : Int)]) (m := 1) Fnd.here rfl (by simp)) (by repeat (first | exact Zip.here _ | apply Zip.there)) rfl (by rfl) (by omega) (by show _ ≤ 9223372036854775807; omega) rfl (fun v' C' ho' _ _ => ?_)
      rw [show bsv o ++ [Value.int .u8 (cc.toNat : Int)] = bsv (o ++ [cc]) from by simp [bsv]] at ho'
      (repeat' (first | (show WL _ _ _ _ _ _ _; first | refine jA ?_ | refine jB ?_ | refine jC ?_ | refine jD ?_ | refine jE ?_ | refine jF ?_) | (show OW _ _ _ _ _ _; first | refine OW_E ?_ | refine jI ?_ | refine jJ ?_ | refine jK (fun bk => ?_) | refine jL (fun bk => ?_)) | (show WC _ _ _ _ _ _; first | refine jM ?_ | refine jN ?_ | refine jO ?_ | refine jP ?_ | refine jR ?_ | refine jS ?_ | refine jT ?_ | refine jU ?_) | (show WQ _ _ _ _; with_reducible first | refine jV ?_ | refine jW ?_ | refine jX ?_ | refine jY ?_ | refine jZ ?_ | refine kA ?_ | refine kB ?_ | refine kC ?_) | ((first | (refine jG (fun hc => ?_) (fun hc => ?_) <;> rw [hc]) | refine jQ (fun hc => ?_) (fun hc => ?_)) <;> (try simp only [nrB] at hc) <;> (try (exfalso; first | omega | exact hc trivial | exact hc rfl)))))
      refine WQ_round (X := Nat × List UInt8 × Value × Chunk) (μ := fun x => n - x.1) (x := (i, o, .slice (some ⟨b9, 0, none⟩) o.length oc, [(b9, cl (bsv o ++ rest) 5)])) (i + 1, o ++ [cc], v', C') (by simp only; omega) ⟨by simp only; omega, .inr hfb, by simpa using ho', by simp; omega, by simp only; rw [hk3]; exact hcp⟩ (by repeat (first | exact Sub.nil | refine Sub.cons rfl ?_ | refine Sub.cons (lk_int rfl (by first | omega | (dsimp only; omega))) ?_)) (fun w h => iH h)
    · obtain ⟨R, hR, hR3, _, _⟩ := hraw 1000 (by omega)
      have hpr := praw_n va vc (leB V ((N + 7) / 8)) 1000 1000 (Co :: [(p, cl [.slice va ((N + 7) / 8) vc, .int .i64 (N : Int)] 26)] :: E4 :: L) (by rw [hlen]; exact sl_there (sl_there (ow_sl hoW))) (by rw [hlen]; omega) (by decide) (by decide) (by repeat (first | exact hor | apply OrAt.there))
      have hR3 := hR3 (by omega)
      rw [hR, hlen, hR3] at hpr
      refine OW_call rfl rfl rfl hpr rfl (fun r L' hp => ?_)
      rcases hp with ⟨_, rfl, rfl⟩ | ⟨h, _⟩
      rotate_left
      · cases h
      (repeat' (first | (show WL _ _ _ _ _ _ _; first | refine jA ?_ | refine jB ?_ | refine jC ?_ | refine jD ?_ | refine jE ?_ | refine jF ?_) | (show OW _ _ _ _ _ _; first | refine OW_E ?_ | refine jI ?_ | refine jJ ?_ | refine jK (fun bk => ?_) | refine jL (fun bk => ?_)) | (show WC _ _ _ _ _ _; first | refine jM ?_ | refine jN ?_ | refine jO ?_ | refine jP ?_ | refine jR ?_ | refine jS ?_ | refine jT ?_ | refine jU ?_) | (show WQ _ _ _ _; with_reducible first | refine jV ?_ | refine jW ?_ | refine jX ?_ | refine jY ?_ | refine jZ ?_ | refine kA ?_ | refine kB ?_ | refine kC ?_) | ((first | (refine jG (fun hc => ?_) (fun hc => ?_) <;> rw [hc]) | refine jQ (fun hc => ?_) (fun hc => ?_)) <;> (try simp only [nrB] at hc) <;> (try (exfalso; first | omega | exact hc trivial | exact hc rfl)))))
      refine OW_callP rfl rfl rfl (iawake_n _ (by repeat (first | exact hor | apply OrAt.there))) rfl ?_
      (repeat' (first | (show WL _ _ _ _ _ _ _; first | refine jA ?_ | refine jB ?_ | refine jC ?_ | refine jD ?_ | refine jE ?_ | refine jF ?_) | (show OW _ _ _ _ _ _; first | refine OW_E ?_ | refine jI ?_ | refine jJ ?_ | refine jK (fun bk => ?_) | refine jL (fun bk => ?_)) | (show WC _ _ _ _ _ _; first | refine jM ?_ | refine jN ?_ | refine jO ?_ | refine jP ?_ | refine jR ?_ | refine jS ?_ | refine jT ?_ | refine jU ?_) | (show WQ _ _ _ _; with_reducible first | refine jV ?_ | refine jW ?_ | refine jX ?_ | refine jY ?_ | refine jZ ?_ | refine kA ?_ | refine kB ?_ | refine kC ?_) | ((first | (refine jG (fun hc => ?_) (fun hc => ?_) <;> rw [hc]) | refine jQ (fun hc => ?_) (fun hc => ?_)) <;> (try simp only [nrB] at hc) <;> (try (exfalso; first | omega | exact hc trivial | exact hc rfl)))))
      ((first | refine WQ_retI rfl rfl ?_ | refine WQ_endI rfl rfl ?_); exact ⟨_, iC, rfl, rfl⟩)
    · have hfb : far ≤ b.length := by omega
      obtain rfl : i = n := by omega
      rw [show i - i = 0 from by omega, cpW] at hcp
      obtain ⟨R, hR, _, _, hR0⟩ := hraw 1000 (by omega)
      obtain ⟨hR0, hRo⟩ := hR0 hfb (by omega)
      rw [← hcp] at hRo
      have hpr := praw_n va vc (leB V ((N + 7) / 8)) 1000 1000 (Co :: [(p, cl [.slice va ((N + 7) / 8) vc, .int .i64 (N : Int)] 26)] :: E4 :: L) (by rw [hlen]; exact sl_there (sl_there (ow_sl hoW))) (by rw [hlen]; omega) (by decide) (by decide) (by repeat (first | exact hor | apply OrAt.there))
      rw [hR, hlen, hR0, hRo] at hpr
      refine OW_call rfl rfl rfl hpr rfl (fun r L' hp => ?_)
      rcases hp with ⟨h, _⟩ | ⟨_, v5, C5, rfl, ho5, _, _, rfl⟩
      · exact absurd rfl h
      (repeat' (first | (show WL _ _ _ _ _ _ _; first | refine jA ?_ | refine jB ?_ | refine jC ?_ | refine jD ?_ | refine jE ?_ | refine jF ?_) | (show OW _ _ _ _ _ _; first | refine OW_E ?_ | refine jI ?_ | refine jJ ?_ | refine jK (fun bk => ?_) | refine jL (fun bk => ?_)) | (show WC _ _ _ _ _ _; first | refine jM ?_ | refine jN ?_ | refine jO ?_ | refine jP ?_ | refine jR ?_ | refine jS ?_ | refine jT ?_ | refine jU ?_) | (show WQ _ _ _ _; with_reducible first | refine jV ?_ | refine jW ?_ | refine jX ?_ | refine jY ?_ | refine jZ ?_ | refine kA ?_ | refine kB ?_ | refine kC ?_) | ((first | (refine jG (fun hc => ?_) (fun hc => ?_) <;> rw [hc]) | refine jQ (fun hc => ?_) (fun hc => ?_)) <;> (try simp only [nrB] at hc) <;> (try (exfalso; first | omega | exact hc trivial | exact hc rfl)))))
      obtain ⟨R2, hR2, _, hR5, _⟩ := hraw (b.length + i - 1) (by omega)
      have hR5 := hR5 hfb (by omega)
      have hpr2 := praw_n va vc (leB V ((N + 7) / 8)) ((b.length : Int) + (i : Int) - 1) (b.length + i - 1) (C5 :: Co :: [(p, cl [.slice va ((N + 7) / 8) vc, .int .i64 (N : Int)] 26)] :: E4 :: L) (by rw [hlen]; exact sl_there (sl_there (sl_there (ow_sl hoW)))) (by rw [hlen]; omega) (by omega) (by omega) (by repeat (first | exact hor | apply OrAt.there))
      rw [hR2, hlen, hR5] at hpr2
      refine OW_call rfl rfl rfl hpr2 rfl (fun r L' hp => ?_)
      rcases hp with ⟨_, rfl, rfl⟩ | ⟨h, _⟩
      rotate_left
      · cases h
      (repeat' (first | (show WL _ _ _ _ _ _ _; first | refine jA ?_ | refine jB ?_ | refine jC ?_ | refine jD ?_ | refine jE ?_ | refine jF ?_) | (show OW _ _ _ _ _ _; first | refine OW_E ?_ | refine jI ?_ | refine jJ ?_ | refine jK (fun bk => ?_) | refine jL (fun bk => ?_)) | (show WC _ _ _ _ _ _; first | refine jM ?_ | refine jN ?_ | refine jO ?_ | refine jP ?_ | refine jR ?_ | refine jS ?_ | refine jT ?_ | refine jU ?_) | (show WQ _ _ _ _; with_reducible first | refine jV ?_ | refine jW ?_ | refine jX ?_ | refine jY ?_ | refine jZ ?_ | refine kA ?_ | refine kB ?_ | refine kC ?_) | ((first | (refine jG (fun hc => ?_) (fun hc => ?_) <;> rw [hc]) | refine jQ (fun hc => ?_) (fun hc => ?_)) <;> (try simp only [nrB] at hc) <;> (try (exfalso; first | omega | exact hc trivial | exact hc rfl)))))
      refine OW_EV (EV_convStr (m := o.length) (b := o) rfl (by exact ow_sl ho5)) rfl ?_
      (repeat' (first | (show WL _ _ _ _ _ _ _; first | refine jA ?_ | refine jB ?_ | refine jC ?_ | refine jD ?_ | refine jE ?_ | refine jF ?_) | (show OW _ _ _ _ _ _; first | refine OW_E ?_ | refine jI ?_ | refine jJ ?_ | refine jK (fun bk => ?_) | refine jL (fun bk => ?_)) | (show WC _ _ _ _ _ _; first | refine jM ?_ | refine jN ?_ | refine jO ?_ | refine jP ?_ | refine jR ?_ | refine jS ?_ | refine jT ?_ | refine jU ?_) | (show WQ _ _ _ _; with_reducible first | refine jV ?_ | refine jW ?_ | refine jX ?_ | refine jY ?_ | refine jZ ?_ | refine kA ?_ | refine kB ?_ | refine kC ?_) | ((first | (refine jG (fun hc => ?_) (fun hc => ?_) <;> rw [hc]) | refine jQ (fun hc => ?_) (fun hc => ?_)) <;> (try simp only [nrB] at hc) <;> (try (exfalso; first | omega | exact hc trivial | exact hc rfl)))))
      refine OW_EV (EV_convStr (m := o.length) (b := o) rfl (by repeat (first | exact ow_sl hoo | apply sl_there))) rfl ?_
      (repeat' (first | (show WL _ _ _ _ _ _ _; first | refine jA ?_ | refine jB ?_ | refine jC ?_ | refine jD ?_ | refine jE ?_ | refine jF ?_) | (show OW _ _ _ _ _ _; first | refine OW_E ?_ | refine jI ?_ | refine jJ ?_ | refine jK (fun bk => ?_) | refine jL (fun bk => ?_)) | (show WC _ _ _ _ _ _; first | refine jM ?_ | refine jN ?_ | refine jO ?_ | refine jP ?_ | refine jR ?_ | refine jS ?_ | refine jT ?_ | refine jU ?_) | (show WQ _ _ _ _; with_reducible first | refine jV ?_ | refine jW ?_ | refine jX ?_ | refine jY ?_ | refine jZ ?_ | refine kA ?_ | refine kB ?_ | refine kC ?_) | ((first | (refine jG (fun hc => ?_) (fun hc => ?_) <;> rw [hc]) | refine jQ (fun hc => ?_) (fun hc => ?_)) <;> (try simp only [nrB] at hc) <;> (try (exfalso; first | omega | exact hc trivial | exact hc rfl)))))
      refine OW_callP rfl rfl rfl (iawake_n _ (by repeat (first | exact hor | apply OrAt.there))) rfl ?_
      (repeat' (first | (show WL _ _ _ _ _ _ _; first | refine jA ?_ | refine jB ?_ | refine jC ?_ | refine jD ?_ | refine jE ?_ | refine jF ?_) | (show OW _ _ _ _ _ _; first | refine OW_E ?_ | refine jI ?_ | refine jJ ?_ | refine jK (fun bk => ?_) | refine jL (fun bk => ?_)) | (show WC _ _ _ _ _ _; first | refine jM ?_ | refine jN ?_ | refine jO ?_ | refine jP ?_ | refine jR ?_ | refine jS ?_ | refine jT ?_ | refine jU ?_) | (show WQ _ _ _ _; with_reducible first | refine jV ?_ | refine jW ?_ | refine jX ?_ | refine jY ?_ | refine jZ ?_ | refine kA ?_ | refine kB ?_ | refine kC ?_) | ((first | (refine jG (fun hc => ?_) (fun hc => ?_) <;> rw [hc]) | refine jQ (fun hc => ?_) (fun hc => ?_)) <;> (try simp only [nrB] at hc) <;> (try (exfalso; first | omega | exact hc trivial | exact hc rfl)))))
      ((first | refine WQ_retI rfl rfl ?_ | refine WQ_endI rfl rfl ?_); exact ⟨_, iC, rfl, rfl⟩)
end Go.Proofs.YtkiaegkojlhaeaaDoor
