/- InflateFixed's body: any text as one block of the fixed codes. No conditions. -/
import Derived.Test.YtkiaegkojlhaeaaDoorMa
import Derived.Test.YtkiaegkojlhaeaaDoorIy
import Derived.Test.YtkiaegkojlhaeaaDoorBh
namespace Go.If
open Go.Vx Go.Hf
set_option linter.all false
theorem fxB_ge : ∀ b : List UInt8, b.length ≤ itL (fxB b)
  | [] => Nat.zero_le _
  | c :: r => by
    have h1 := fxB_ge r
    have h2 := (fxN_le c.toNat).1
    show _ ≤ fxN c.toNat + itL (fxB r)
    rw [List.length_cons]
    omega
theorem fx256 : fxC 256 = (0, 7) := by
  unfold fxC
  rw [fx_cd' (by decide)]
  rfl
/-- One block of the fixed codes: its beginning. -/
theorem fixed_head [W0] {d : List UInt8} {most V N : Nat} (h : At d 0 (3 + 2 ^ 3 * V) (3 + N)) {R : S6} (hR : cdC d most fxL fxD (8 * d.length + 1) ⟨3, [], 0⟩ = R) : rawS d most = R := by
  obtain ⟨h1, h2⟩ := h.split (by decide)
  obtain ⟨e1, e2⟩ := tk_at (s := ⟨0, [], 0⟩) h1
  unfold rawS
  rw [rwS, e1, e2]
  simp only
  rw [if_neg (by decide), if_neg (by decide)]
  have hb : bkS d most (3 / 2) ⟨0 + 3, [], 0⟩ = R := by
    unfold bkS
    rw [if_neg (by decide), if_pos (by decide)]
    exact hR
  rw [hb]
  simp
/-- A block's end. -/
theorem fixed_end [W0] {d : List UInt8} {most f : Nat} {s : S6} (he : s.e = 0) (h : At d s.t 0 7) : cdC d most fxL fxD (f + 1) s = ⟨s.t + 7, s.out, 0⟩ := by
  have h2 : At d s.t (fxC 256).1 (fxC 256).2 := by rw [fx256]; exact h
  obtain ⟨hs1, hs2⟩ := sy_fx he (by decide) h2
  rw [cdC, if_neg (fun hh => hh he), hs1, hs2, if_neg (by simp), if_neg (by decide), if_pos rfl]
  rfl
theorem fixed_raw [W0] (b : List UInt8) : rawS (leB (itV ((3, 3) :: (fxB b ++ [(0, 7)]))) ((itL ((3, 3) :: (fxB b ++ [(0, 7)])) + 7) / 8)) b.length = ⟨itL ((3, 3) :: (fxB b ++ [(0, 7)])), b, 0⟩ := by
  have ha := at_all (a := (3, 3) :: (fxB b ++ [(0, 7)])) (by
    intro x hx
    rcases List.mem_cons.1 hx with rfl | hx
    · decide
    · rcases List.mem_append.1 hx with hx | hx
      · exact fxB_lt b x hx
      · simp at hx; subst hx; decide)
  generalize hd : leB (itV ((3, 3) :: (fxB b ++ [(0, 7)]))) ((itL ((3, 3) :: (fxB b ++ [(0, 7)])) + 7) / 8) = d at ha ⊢
  change At d 0 (3 + 2 ^ 3 * itV (fxB b ++ [(0, 7)])) (3 + itL (fxB b ++ [(0, 7)])) at ha
  refine fixed_head ha ?_
  have h3 := (ha.split (by decide)).2
  rw [itV_app, itL_app] at h3
  have hle := h3.2
  have hge := fxB_ge b
  have h4 := cdC_lits d b.length b ⟨3, [], 0⟩ (8 * d.length + 1) (itV [(0, 7)]) (itL [(0, 7)]) rfl (by omega) (by simp) h3
  rw [h4.1]
  obtain ⟨g, hg⟩ : ∃ g, 8 * d.length + 1 - b.length = g + 1 := ⟨8 * d.length - b.length, by omega⟩
  rw [hg, fixed_end rfl h4.2]
  simp only
  congr 1
  rw [show itL ((3, 3) :: (fxB b ++ [(0, 7)])) = 3 + itL (fxB b ++ [(0, 7)]) from rfl, itL_app]
  show 3 + itL (fxB b) + 7 = 3 + (itL (fxB b) + (7 + 0))
  omega
end Go.If
namespace Go.Proofs.YtkiaegkojlhaeaaDoor
open Go Go.Vx Go.Hf Go.If
variable [W0]
set_option maxRecDepth 4000
set_option linter.all false
omit [W0] in
def pre (b : List UInt8) : List (Nat × Nat) := (3, 3) :: fxB b
theorem pre_snoc (b : List UInt8) (c : UInt8) : itV (pre (b ++ [c])) = itV (pre b) + 2 ^ itL (pre b) * (fxC c.toNat).1 ∧ itL (pre (b ++ [c])) = itL (pre b) + (fxC c.toNat).2 := by
  have e : pre (b ++ [c]) = pre b ++ [fxC c.toNat] := by simp [pre, fxB]
  rw [e, itV_app, itL_app]
  simp [itV, itL]

set_option maxHeartbeats 8000000 in
theorem inflatefixed_n (a : Option Addr) (c : Nat) (b : List UInt8) (L : List Chunk) (hv : Sl L 1 (.slice a b.length c) b.length (bsv b)) (hl : b.length ≤ 140737488351232) (hor : OrAt L) :
    GvP Tryd.prog 3 [.slice a b.length c].toArray L (.bool true) := by
  refine Gv.of_body Tryd.func3 rfl rfl ?_
  (repeat' (first | (show WL _ _ _ _ _ _ _; first | refine jA ?_ | refine jB ?_ | refine jC ?_ | refine jD ?_ | refine jE ?_ | refine jF ?_) | (show OW _ _ _ _ _ _; first | refine OW_E ?_ | refine jI ?_ | refine jJ ?_ | refine jK (fun bk => ?_) | refine jL (fun bk => ?_)) | (show WC _ _ _ _ _ _; first | refine jM ?_ | refine jN ?_ | refine jO ?_ | refine jP ?_ | refine jR ?_ | refine jS ?_ | refine jT ?_ | refine jU ?_) | (show WQ _ _ _ _; with_reducible first | refine jV ?_ | refine jW ?_ | refine jX ?_ | refine jY ?_ | refine jZ ?_ | refine kA ?_ | refine kB ?_ | refine kC ?_) | ((first | (refine jG (fun hc => ?_) (fun hc => ?_) <;> rw [hc]) | refine jQ (fun hc => ?_) (fun hc => ?_)) <;> (try simp only [nrB] at hc) <;> (try (exfalso; first | omega | exact hc trivial | exact hc rfl)))))
  · refine OW_callP rfl rfl rfl (iawake_n L hor) rfl ?_
    (repeat' (first | (show WL _ _ _ _ _ _ _; first | refine jA ?_ | refine jB ?_ | refine jC ?_ | refine jD ?_ | refine jE ?_ | refine jF ?_) | (show OW _ _ _ _ _ _; first | refine OW_E ?_ | refine jI ?_ | refine jJ ?_ | refine jK (fun bk => ?_) | refine jL (fun bk => ?_)) | (show WC _ _ _ _ _ _; first | refine jM ?_ | refine jN ?_ | refine jO ?_ | refine jP ?_ | refine jR ?_ | refine jS ?_ | refine jT ?_ | refine jU ?_) | (show WQ _ _ _ _; with_reducible first | refine jV ?_ | refine jW ?_ | refine jX ?_ | refine jY ?_ | refine jZ ?_ | refine kA ?_ | refine kB ?_ | refine kC ?_) | ((first | (refine jG (fun hc => ?_) (fun hc => ?_) <;> rw [hc]) | refine jQ (fun hc => ?_) (fun hc => ?_)) <;> (try simp only [nrB] at hc) <;> (try (exfalso; first | omega | exact hc trivial | exact hc rfl)))))
    ((first | refine WQ_retI rfl rfl ?_ | refine WQ_endI rfl rfl ?_); exact ⟨_, iC, rfl, rfl⟩)
  obtain ⟨p, hp⟩ : ∃ p, p = bk := ⟨_, rfl⟩
  rw [← hp]
  clear hp
  refine OW_holds (L' := [(p, cl [.slice none 0 0, .int .i64 0] 26)] :: [] :: L) (fun w h => Holds.gap.2 h) ?_
  refine OW_call rfl rfl rfl (rput_n p 0 0 3 3 _ [] L (RwD.new p) (by decide) (by decide)) rfl (fun r L' hp => ?_)
  obtain ⟨rfl, D1, E1, hw1, rfl⟩ := hp
  rw [show 0 + 2 ^ 0 * (3 % 2 ^ clp 3) = itV (pre (b.take 0)) from by rw [List.take_zero]; decide, show 0 + clp 3 = itL (pre (b.take 0)) from by rw [List.take_zero]; decide] at hw1
  (repeat' (first | (show WL _ _ _ _ _ _ _; first | refine jA ?_ | refine jB ?_ | refine jC ?_ | refine jD ?_ | refine jE ?_ | refine jF ?_) | (show OW _ _ _ _ _ _; first | refine OW_E ?_ | refine jI ?_ | refine jJ ?_ | refine jK (fun bk => ?_) | refine jL (fun bk => ?_)) | (show WC _ _ _ _ _ _; first | refine jM ?_ | refine jN ?_ | refine jO ?_ | refine jP ?_ | refine jR ?_ | refine jS ?_ | refine jT ?_ | refine jU ?_) | (show WQ _ _ _ _; with_reducible first | refine jV ?_ | refine jW ?_ | refine jX ?_ | refine jY ?_ | refine jZ ?_ | refine kA ?_ | refine kB ?_ | refine kC ?_) | ((first | (refine jG (fun hc => ?_) (fun hc => ?_) <;> rw [hc]) | refine jQ (fun hc => ?_) (fun hc => ?_)) <;> (try simp only [nrB] at hc) <;> (try (exfalso; first | omega | exact hc trivial | exact hc rfl)))))
  refine WC_loop (X := Nat × Chunk × Chunk) (fun x => [(0, .slice a b.length c), (3, .pointer (some ⟨p, 0, none⟩)), (4, .int .i64 (x.1 : Int))]) (fun x => x.2.1 :: x.2.2 :: L)
    (fun x => x.1 ≤ b.length ∧ RwD p (itV (pre (b.take x.1))) (itL (pre (b.take x.1))) x.2.1 x.2.2) (fun x => b.length - x.1) (0, D1, E1) ⟨Nat.zero_le _, hw1⟩ (by repeat (first | exact Sub.nil | refine Sub.cons rfl ?_ | refine Sub.cons (lk_int rfl (by first | omega | (dsimp only; omega))) ?_)) (fun w h => h) ?_
  rintro ⟨k, D, E⟩ ⟨hk, hw⟩
  simp only at hk hw ⊢
  have hN : itL (pre (b.take k)) ≤ 5000 := by
    have := fxB_le (b.take k)
    rw [List.length_take] at this
    show 3 + itL (fxB (b.take k)) ≤ 5000
    omega
  (repeat' (first | (show WL _ _ _ _ _ _ _; first | refine jA ?_ | refine jB ?_ | refine jC ?_ | refine jD ?_ | refine jE ?_ | refine jF ?_) | (show OW _ _ _ _ _ _; first | refine OW_E ?_ | refine jI ?_ | refine jJ ?_ | refine jK (fun bk => ?_) | refine jL (fun bk => ?_)) | (show WC _ _ _ _ _ _; first | refine jM ?_ | refine jN ?_ | refine jO ?_ | refine jP ?_ | refine jR ?_ | refine jS ?_ | refine jT ?_ | refine jU ?_) | (show WQ _ _ _ _; with_reducible first | refine jV ?_ | refine jW ?_ | refine jX ?_ | refine jY ?_ | refine jZ ?_ | refine kA ?_ | refine kB ?_ | refine kC ?_) | ((first | (refine jG (fun hc => ?_) (fun hc => ?_) <;> rw [hc]) | refine jQ (fun hc => ?_) (fun hc => ?_)) <;> (try simp only [nrB] at hc) <;> (try (exfalso; first | omega | exact hc trivial | exact hc rfl)))))
  · have hlt : k < b.length := by omega
    obtain ⟨bb, off, cap, cc, T, fr, hve, hfn, hcell⟩ := sl_byte hv hlt
    injection hve with q1 q2 q3
    subst q1 q3
    clear q2
    refine OW_EV (EV_indexAddr (j := k) rfl rfl rfl hlt) rfl ?_
    (repeat' (first | (show WL _ _ _ _ _ _ _; first | refine jA ?_ | refine jB ?_ | refine jC ?_ | refine jD ?_ | refine jE ?_ | refine jF ?_) | (show OW _ _ _ _ _ _; first | refine OW_E ?_ | refine jI ?_ | refine jJ ?_ | refine jK (fun bk => ?_) | refine jL (fun bk => ?_)) | (show WC _ _ _ _ _ _; first | refine jM ?_ | refine jN ?_ | refine jO ?_ | refine jP ?_ | refine jR ?_ | refine jS ?_ | refine jT ?_ | refine jU ?_) | (show WQ _ _ _ _; with_reducible first | refine jV ?_ | refine jW ?_ | refine jX ?_ | refine jY ?_ | refine jZ ?_ | refine kA ?_ | refine kB ?_ | refine kC ?_) | ((first | (refine jG (fun hc => ?_) (fun hc => ?_) <;> rw [hc]) | refine jQ (fun hc => ?_) (fun hc => ?_)) <;> (try simp only [nrB] at hc) <;> (try (exfalso; first | omega | exact hc trivial | exact hc rfl)))))
    refine OW_EV (EV_load rfl hfn.there.there hcell) rfl ?_
    have hsn := pre_snoc (b.take k) (b.getD k 0)
    rw [← take_succ 0 hlt] at hsn
    have hx := (b.getD k 0).toNat_lt
    generalize (b.getD k 0).toNat = x at hsn hx
    have hwr : IntKind.u32.wrap (x : Int) = (x : Int) := wrap_nat rfl (by simp only [IntKind.bits]; omega)
    (repeat' (first | (show WL _ _ _ _ _ _ _; first | refine jA ?_ | refine jB ?_ | refine jC ?_ | refine jD ?_ | refine jE ?_ | refine jF ?_) | (show OW _ _ _ _ _ _; first | refine OW_E ?_ | refine jI ?_ | refine jJ ?_ | refine jK (fun bk => ?_) | refine jL (fun bk => ?_)) | (show WC _ _ _ _ _ _; first | refine jM ?_ | refine jN ?_ | refine jO ?_ | refine jP ?_ | refine jR ?_ | refine jS ?_ | refine jT ?_ | refine jU ?_) | (show WQ _ _ _ _; with_reducible first | refine jV ?_ | refine jW ?_ | refine jX ?_ | refine jY ?_ | refine jZ ?_ | refine kA ?_ | refine kB ?_ | refine kC ?_) | ((first | (refine jG (fun hc => ?_) (fun hc => ?_) <;> rw [hc]) | refine jQ (fun hc => ?_) (fun hc => ?_)) <;> (try simp only [nrB] at hc) <;> (try (exfalso; first | omega | exact hc trivial | exact hc rfl)))))
    · rw [hwr] at hc ⊢
      have hfx : fxC x = (mir (48 + x) 8, 8) := by
        have h1 : fxK x = 48 + x := by unfold fxK; rw [if_pos (by omega)]
        have h2 : fxN x = 8 := by unfold fxN; rw [if_neg (by omega), if_neg (by omega)]
        unfold fxC
        rw [fx_cd' (by omega), h1, h2]
      rw [hfx] at hsn
      refine OW_EV (EV_nadd (k := .u32) 48 x rfl rfl rfl rfl rfl (by simp only [IntKind.bits]; omega)) rfl ?_
      (repeat' (first | (show WL _ _ _ _ _ _ _; first | refine jA ?_ | refine jB ?_ | refine jC ?_ | refine jD ?_ | refine jE ?_ | refine jF ?_) | (show OW _ _ _ _ _ _; first | refine OW_E ?_ | refine jI ?_ | refine jJ ?_ | refine jK (fun bk => ?_) | refine jL (fun bk => ?_)) | (show WC _ _ _ _ _ _; first | refine jM ?_ | refine jN ?_ | refine jO ?_ | refine jP ?_ | refine jR ?_ | refine jS ?_ | refine jT ?_ | refine jU ?_) | (show WQ _ _ _ _; with_reducible first | refine jV ?_ | refine jW ?_ | refine jX ?_ | refine jY ?_ | refine jZ ?_ | refine kA ?_ | refine kB ?_ | refine kC ?_) | ((first | (refine jG (fun hc => ?_) (fun hc => ?_) <;> rw [hc]) | refine jQ (fun hc => ?_) (fun hc => ?_)) <;> (try simp only [nrB] at hc) <;> (try (exfalso; first | omega | exact hc trivial | exact hc rfl)))))
      refine OW_call rfl rfl rfl (rcode_n p _ _ (48 + x) 8 D E L hw (by omega) (by omega)) rfl (fun r L' hp => ?_)
      obtain ⟨rfl, D2, E2, hw2, rfl⟩ := hp
      rw [show clp 8 = 8 from by decide] at hw2
      simp only at hsn
      rw [← hsn.1, ← hsn.2] at hw2
      (repeat' (first | (show WL _ _ _ _ _ _ _; first | refine jA ?_ | refine jB ?_ | refine jC ?_ | refine jD ?_ | refine jE ?_ | refine jF ?_) | (show OW _ _ _ _ _ _; first | refine OW_E ?_ | refine jI ?_ | refine jJ ?_ | refine jK (fun bk => ?_) | refine jL (fun bk => ?_)) | (show WC _ _ _ _ _ _; first | refine jM ?_ | refine jN ?_ | refine jO ?_ | refine jP ?_ | refine jR ?_ | refine jS ?_ | refine jT ?_ | refine jU ?_) | (show WQ _ _ _ _; with_reducible first | refine jV ?_ | refine jW ?_ | refine jX ?_ | refine jY ?_ | refine jZ ?_ | refine kA ?_ | refine kB ?_ | refine kC ?_) | ((first | (refine jG (fun hc => ?_) (fun hc => ?_) <;> rw [hc]) | refine jQ (fun hc => ?_) (fun hc => ?_)) <;> (try simp only [nrB] at hc) <;> (try (exfalso; first | omega | exact hc trivial | exact hc rfl)))))
      refine WQ_round (X := Nat × Chunk × Chunk) (μ := fun x => b.length - x.1) (x := (k, D, E)) (k + 1, D2, E2) (by simp only; omega) ⟨by simp only; omega, hw2⟩ (by repeat (first | exact Sub.nil | refine Sub.cons rfl ?_ | refine Sub.cons (lk_int rfl (by first | omega | (dsimp only; omega))) ?_)) (fun w h => h)
    · rw [hwr] at hc ⊢
      have hfx : fxC x = (mir (400 + x - 144) 9, 9) := by
        have h1 : fxK x = 400 + x - 144 := by unfold fxK; rw [if_neg (by omega), if_pos (by omega)]
        have h2 : fxN x = 9 := by unfold fxN; rw [if_neg (by omega), if_pos (by omega)]
        unfold fxC
        rw [fx_cd' (by omega), h1, h2]
      rw [hfx] at hsn
      refine OW_EV (EV_nadd (k := .u32) 400 x rfl rfl rfl rfl rfl (by simp only [IntKind.bits]; omega)) rfl ?_
      (repeat' (first | (show WL _ _ _ _ _ _ _; first | refine jA ?_ | refine jB ?_ | refine jC ?_ | refine jD ?_ | refine jE ?_ | refine jF ?_) | (show OW _ _ _ _ _ _; first | refine OW_E ?_ | refine jI ?_ | refine jJ ?_ | refine jK (fun bk => ?_) | refine jL (fun bk => ?_)) | (show WC _ _ _ _ _ _; first | refine jM ?_ | refine jN ?_ | refine jO ?_ | refine jP ?_ | refine jR ?_ | refine jS ?_ | refine jT ?_ | refine jU ?_) | (show WQ _ _ _ _; with_reducible first | refine jV ?_ | refine jW ?_ | refine jX ?_ | refine jY ?_ | refine jZ ?_ | refine kA ?_ | refine kB ?_ | refine kC ?_) | ((first | (refine jG (fun hc => ?_) (fun hc => ?_) <;> rw [hc]) | refine jQ (fun hc => ?_) (fun hc => ?_)) <;> (try simp only [nrB] at hc) <;> (try (exfalso; first | omega | exact hc trivial | exact hc rfl)))))
      refine OW_EV (EV_nsub (k := .u32) (400 + x) 144 rfl rfl rfl rfl rfl (by omega) (by simp only [IntKind.bits]; omega)) rfl ?_
      (repeat' (first | (show WL _ _ _ _ _ _ _; first | refine jA ?_ | refine jB ?_ | refine jC ?_ | refine jD ?_ | refine jE ?_ | refine jF ?_) | (show OW _ _ _ _ _ _; first | refine OW_E ?_ | refine jI ?_ | refine jJ ?_ | refine jK (fun bk => ?_) | refine jL (fun bk => ?_)) | (show WC _ _ _ _ _ _; first | refine jM ?_ | refine jN ?_ | refine jO ?_ | refine jP ?_ | refine jR ?_ | refine jS ?_ | refine jT ?_ | refine jU ?_) | (show WQ _ _ _ _; with_reducible first | refine jV ?_ | refine jW ?_ | refine jX ?_ | refine jY ?_ | refine jZ ?_ | refine kA ?_ | refine kB ?_ | refine kC ?_) | ((first | (refine jG (fun hc => ?_) (fun hc => ?_) <;> rw [hc]) | refine jQ (fun hc => ?_) (fun hc => ?_)) <;> (try simp only [nrB] at hc) <;> (try (exfalso; first | omega | exact hc trivial | exact hc rfl)))))
      refine OW_call rfl rfl rfl (rcode_n p _ _ (400 + x - 144) 9 D E L hw (by omega) (by omega)) rfl (fun r L' hp => ?_)
      obtain ⟨rfl, D2, E2, hw2, rfl⟩ := hp
      rw [show clp 9 = 9 from by decide] at hw2
      simp only at hsn
      rw [← hsn.1, ← hsn.2] at hw2
      (repeat' (first | (show WL _ _ _ _ _ _ _; first | refine jA ?_ | refine jB ?_ | refine jC ?_ | refine jD ?_ | refine jE ?_ | refine jF ?_) | (show OW _ _ _ _ _ _; first | refine OW_E ?_ | refine jI ?_ | refine jJ ?_ | refine jK (fun bk => ?_) | refine jL (fun bk => ?_)) | (show WC _ _ _ _ _ _; first | refine jM ?_ | refine jN ?_ | refine jO ?_ | refine jP ?_ | refine jR ?_ | refine jS ?_ | refine jT ?_ | refine jU ?_) | (show WQ _ _ _ _; with_reducible first | refine jV ?_ | refine jW ?_ | refine jX ?_ | refine jY ?_ | refine jZ ?_ | refine kA ?_ | refine kB ?_ | refine kC ?_) | ((first | (refine jG (fun hc => ?_) (fun hc => ?_) <;> rw [hc]) | refine jQ (fun hc => ?_) (fun hc => ?_)) <;> (try simp only [nrB] at hc) <;> (try (exfalso; first | omega | exact hc trivial | exact hc rfl)))))
      refine WQ_round (X := Nat × Chunk × Chunk) (μ := fun x => b.length - x.1) (x := (k, D, E)) (k + 1, D2, E2) (by simp only; omega) ⟨by simp only; omega, hw2⟩ (by repeat (first | exact Sub.nil | refine Sub.cons rfl ?_ | refine Sub.cons (lk_int rfl (by first | omega | (dsimp only; omega))) ?_)) (fun w h => h)
  · obtain rfl : k = b.length := by omega
    rw [List.take_length] at hw hN
    refine OW_call rfl rfl rfl (rcode_n p _ _ 0 7 D E L hw (by decide) (by omega)) rfl (fun r L' hp => ?_)
    obtain ⟨rfl, D2, E2, hw2, rfl⟩ := hp
    have e7 : itV ((3, 3) :: (fxB b ++ [(0, 7)])) = itV (pre b) + 2 ^ itL (pre b) * mir 0 7 ∧ itL ((3, 3) :: (fxB b ++ [(0, 7)])) = itL (pre b) + 7 := by
      have e : (3, 3) :: (fxB b ++ [(0, 7)]) = pre b ++ [(0, 7)] := by simp [pre]
      rw [e, itV_app, itL_app, show mir 0 7 = 0 from by decide]
      simp [itV, itL]
    rw [show clp 7 = 7 from by decide, ← e7.1, ← e7.2] at hw2
    have hraw := fixed_raw b
    have hNN : itL ((3, 3) :: (fxB b ++ [(0, 7)])) ≤ 6000 := by omega
    generalize itV ((3, 3) :: (fxB b ++ [(0, 7)])) = V at hw2 hraw
    generalize itL ((3, 3) :: (fxB b ++ [(0, 7)])) = N at hw2 hraw hNN
    obtain ⟨hVN, v, rfl, hoW⟩ := hw2
    obtain ⟨va, vc, rfl⟩ := ow_slc hoW
    have hlen : (leB V ((N + 7) / 8)).length = (N + 7) / 8 := leB_length _ _
    have hpr := praw_n va vc (leB V ((N + 7) / 8)) (b.length : Int) b.length ([(p, cl [.slice va ((N + 7) / 8) vc, .int .i64 (N : Int)] 26)] :: E2 :: L) (by rw [hlen]; exact sl_there (ow_sl hoW)) (by rw [hlen]; omega) (by omega) (by omega) hor.there.there
    rw [hraw, hlen] at hpr
    (repeat' (first | (show WL _ _ _ _ _ _ _; first | refine jA ?_ | refine jB ?_ | refine jC ?_ | refine jD ?_ | refine jE ?_ | refine jF ?_) | (show OW _ _ _ _ _ _; first | refine OW_E ?_ | refine jI ?_ | refine jJ ?_ | refine jK (fun bk => ?_) | refine jL (fun bk => ?_)) | (show WC _ _ _ _ _ _; first | refine jM ?_ | refine jN ?_ | refine jO ?_ | refine jP ?_ | refine jR ?_ | refine jS ?_ | refine jT ?_ | refine jU ?_) | (show WQ _ _ _ _; with_reducible first | refine jV ?_ | refine jW ?_ | refine jX ?_ | refine jY ?_ | refine jZ ?_ | refine kA ?_ | refine kB ?_ | refine kC ?_) | ((first | (refine jG (fun hc => ?_) (fun hc => ?_) <;> rw [hc]) | refine jQ (fun hc => ?_) (fun hc => ?_)) <;> (try simp only [nrB] at hc) <;> (try (exfalso; first | omega | exact hc trivial | exact hc rfl)))))
    refine OW_call rfl rfl rfl hpr rfl (fun r L' hp => ?_)
    rcases hp with ⟨h, _⟩ | ⟨_, v1, C1, rfl, ho1, _, _, rfl⟩
    · exact absurd rfl h
    (repeat' (first | (show WL _ _ _ _ _ _ _; first | refine jA ?_ | refine jB ?_ | refine jC ?_ | refine jD ?_ | refine jE ?_ | refine jF ?_) | (show OW _ _ _ _ _ _; first | refine OW_E ?_ | refine jI ?_ | refine jJ ?_ | refine jK (fun bk => ?_) | refine jL (fun bk => ?_)) | (show WC _ _ _ _ _ _; first | refine jM ?_ | refine jN ?_ | refine jO ?_ | refine jP ?_ | refine jR ?_ | refine jS ?_ | refine jT ?_ | refine jU ?_) | (show WQ _ _ _ _; with_reducible first | refine jV ?_ | refine jW ?_ | refine jX ?_ | refine jY ?_ | refine jZ ?_ | refine kA ?_ | refine kB ?_ | refine kC ?_) | ((first | (refine jG (fun hc => ?_) (fun hc => ?_) <;> rw [hc]) | refine jQ (fun hc => ?_) (fun hc => ?_)) <;> (try simp only [nrB] at hc) <;> (try (exfalso; first | omega | exact hc trivial | exact hc rfl)))))
    refine OW_EV (EV_convStr (m := b.length) (b := b) rfl (ow_sl ho1)) rfl ?_
    (repeat' (first | (show WL _ _ _ _ _ _ _; first | refine jA ?_ | refine jB ?_ | refine jC ?_ | refine jD ?_ | refine jE ?_ | refine jF ?_) | (show OW _ _ _ _ _ _; first | refine OW_E ?_ | refine jI ?_ | refine jJ ?_ | refine jK (fun bk => ?_) | refine jL (fun bk => ?_)) | (show WC _ _ _ _ _ _; first | refine jM ?_ | refine jN ?_ | refine jO ?_ | refine jP ?_ | refine jR ?_ | refine jS ?_ | refine jT ?_ | refine jU ?_) | (show WQ _ _ _ _; with_reducible first | refine jV ?_ | refine jW ?_ | refine jX ?_ | refine jY ?_ | refine jZ ?_ | refine kA ?_ | refine kB ?_ | refine kC ?_) | ((first | (refine jG (fun hc => ?_) (fun hc => ?_) <;> rw [hc]) | refine jQ (fun hc => ?_) (fun hc => ?_)) <;> (try simp only [nrB] at hc) <;> (try (exfalso; first | omega | exact hc trivial | exact hc rfl)))))
    refine OW_EV (EV_convStr (m := b.length) (b := b) rfl (sl_there (sl_there (sl_there hv)))) rfl ?_
    (repeat' (first | (show WL _ _ _ _ _ _ _; first | refine jA ?_ | refine jB ?_ | refine jC ?_ | refine jD ?_ | refine jE ?_ | refine jF ?_) | (show OW _ _ _ _ _ _; first | refine OW_E ?_ | refine jI ?_ | refine jJ ?_ | refine jK (fun bk => ?_) | refine jL (fun bk => ?_)) | (show WC _ _ _ _ _ _; first | refine jM ?_ | refine jN ?_ | refine jO ?_ | refine jP ?_ | refine jR ?_ | refine jS ?_ | refine jT ?_ | refine jU ?_) | (show WQ _ _ _ _; with_reducible first | refine jV ?_ | refine jW ?_ | refine jX ?_ | refine jY ?_ | refine jZ ?_ | refine kA ?_ | refine kB ?_ | refine kC ?_) | ((first | (refine jG (fun hc => ?_) (fun hc => ?_) <;> rw [hc]) | refine jQ (fun hc => ?_) (fun hc => ?_)) <;> (try simp only [nrB] at hc) <;> (try (exfalso; first | omega | exact hc trivial | exact hc rfl)))))
    refine OW_callP rfl rfl rfl (iawake_n _ hor.there.there.there) rfl ?_
    (repeat' (first | (show WL _ _ _ _ _ _ _; first | refine jA ?_ | refine jB ?_ | refine jC ?_ | refine jD ?_ | refine jE ?_ | refine jF ?_) | (show OW _ _ _ _ _ _; first | refine OW_E ?_ | refine jI ?_ | refine jJ ?_ | refine jK (fun bk => ?_) | refine jL (fun bk => ?_)) | (show WC _ _ _ _ _ _; first | refine jM ?_ | refine jN ?_ | refine jO ?_ | refine jP ?_ | refine jR ?_ | refine jS ?_ | refine jT ?_ | refine jU ?_) | (show WQ _ _ _ _; with_reducible first | refine jV ?_ | refine jW ?_ | refine jX ?_ | refine jY ?_ | refine jZ ?_ | refine kA ?_ | refine kB ?_ | refine kC ?_) | ((first | (refine jG (fun hc => ?_) (fun hc => ?_) <;> rw [hc]) | refine jQ (fun hc => ?_) (fun hc => ?_)) <;> (try simp only [nrB] at hc) <;> (try (exfalso; first | omega | exact hc trivial | exact hc rfl)))))
    ((first | refine WQ_retI rfl rfl ?_ | refine WQ_endI rfl rfl ?_); exact ⟨_, iC, rfl, rfl⟩)
end Go.Proofs.YtkiaegkojlhaeaaDoor
