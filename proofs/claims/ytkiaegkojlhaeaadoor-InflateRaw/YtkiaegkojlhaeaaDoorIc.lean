/- The document's own answer for layer 6: bases, fixed codes, a single distance. It proves no statement by itself. No conditions. -/
import Derived.Test.YtkiaegkojlhaeaaDoorIb
import Derived.Test.YtkiaegkojlhaeaaDoorYb
namespace Go.Proofs.YtkiaegkojlhaeaaDoor
open Go Go.Vx Go.Hf Go.If
variable [W0]
set_option maxRecDepth 4000
set_option linter.all false

theorem icn_getv {l : List Nat} {i : Nat} (h : i < l.length) : (intsN (icn l))[i]? = some (.int .i64 (l.getD i 0 : Int)) := by simp [intsN, icn, List.getD, h]

set_option maxHeartbeats 2000000 in
theorem exb_n (s g st : Nat) (L : List Chunk) (hs : s ≤ 1000) (hg : 0 < g) (hst : st ≤ 1000) :
    GvP Tryd.prog 63 [.int .i64 (s : Int), .int .i64 (g : Int), .int .i64 (st : Int)].toArray L (.int .i64 ((exB s g st : Nat) : Int)) := by
  refine Gv.of_body Tryd.func63 rfl rfl ?_
  unfold exB
  (repeat' (first | (show WL _ _ _ _ _ _ _; first | refine jA ?_ | refine jB ?_ | refine jC ?_ | refine jD ?_ | refine jE ?_ | refine jF ?_) | (show OW _ _ _ _ _ _; first | refine OW_E ?_ | refine jI ?_ | refine jJ ?_ | refine jK (fun bk => ?_) | refine jL (fun bk => ?_)) | (show WC _ _ _ _ _ _; first | refine jM ?_ | refine jN ?_ | refine jO ?_ | refine jP ?_ | refine jR ?_ | refine jS ?_ | refine jT ?_ | refine jU ?_) | (show WQ _ _ _ _; with_reducible first | refine jV ?_ | refine jW ?_ | refine jX ?_ | refine jY ?_ | refine jZ ?_ | refine kA ?_ | refine kB ?_ | refine kC ?_) | ((first | (refine jG (fun hc => ?_) (fun hc => ?_) <;> rw [hc]) | refine jQ (fun hc => ?_) (fun hc => ?_)) <;> (try simp only [nrB] at hc) <;> (try (exfalso; first | omega | exact hc trivial | exact hc rfl)))))
  · rw [if_pos (show s < st by omega)]
    ((first | refine WQ_retI rfl rfl ?_ | refine WQ_endI rfl rfl ?_); exact ⟨_, iC, rfl, rfl⟩)
  · rw [if_neg (show ¬ s < st by omega)]
    have hq : (s - st) / g ≤ s - st := Nat.div_le_self _ _
    refine OW_EV (EV_quoN (s - st) g rfl rfl (by omega) rfl (by omega) (by omega)) rfl ?_
    generalize (s - st) / g = z at hq ⊢
    (repeat' (first | (show WL _ _ _ _ _ _ _; first | refine jA ?_ | refine jB ?_ | refine jC ?_ | refine jD ?_ | refine jE ?_ | refine jF ?_) | (show OW _ _ _ _ _ _; first | refine OW_E ?_ | refine jI ?_ | refine jJ ?_ | refine jK (fun bk => ?_) | refine jL (fun bk => ?_)) | (show WC _ _ _ _ _ _; first | refine jM ?_ | refine jN ?_ | refine jO ?_ | refine jP ?_ | refine jR ?_ | refine jS ?_ | refine jT ?_ | refine jU ?_) | (show WQ _ _ _ _; with_reducible first | refine jV ?_ | refine jW ?_ | refine jX ?_ | refine jY ?_ | refine jZ ?_ | refine kA ?_ | refine kB ?_ | refine kC ?_) | ((first | (refine jG (fun hc => ?_) (fun hc => ?_) <;> rw [hc]) | refine jQ (fun hc => ?_) (fun hc => ?_)) <;> (try simp only [nrB] at hc) <;> (try (exfalso; first | omega | exact hc trivial | exact hc rfl)))))
    (first | refine WQ_retI rfl rfl ?_ | refine WQ_endI rfl rfl ?_)
    exact ⟨L, iC, by simp; rfl, rfl⟩

set_option maxHeartbeats 4000000 in
theorem base_n (first s g st B : Nat) (L : List Chunk) (hf : first ≤ 1000) (hs : s ≤ 100) (hg : 0 < g) (hst : st ≤ 1000) (hB : ∀ i, i ≤ s → exB i g st ≤ 20) :
    GvP Tryd.prog 52 [.int .i64 (first : Int), .int .i64 (s : Int), .int .i64 (g : Int), .int .i64 (st : Int)].toArray L (.tuple #[.int .i64 ((baB first g st s : Nat) : Int), .int .i64 ((exB s g st : Nat) : Int)]) := by
  refine Gv.of_body Tryd.func52 rfl rfl ?_
  (repeat' (first | (show WL _ _ _ _ _ _ _; first | refine jA ?_ | refine jB ?_ | refine jC ?_ | refine jD ?_ | refine jE ?_ | refine jF ?_) | (show OW _ _ _ _ _ _; first | refine OW_E ?_ | refine jI ?_ | refine jJ ?_ | refine jK (fun bk => ?_) | refine jL (fun bk => ?_)) | (show WC _ _ _ _ _ _; first | refine jM ?_ | refine jN ?_ | refine jO ?_ | refine jP ?_ | refine jR ?_ | refine jS ?_ | refine jT ?_ | refine jU ?_) | (show WQ _ _ _ _; with_reducible first | refine jV ?_ | refine jW ?_ | refine jX ?_ | refine jY ?_ | refine jZ ?_ | refine kA ?_ | refine kB ?_ | refine kC ?_) | ((first | (refine jG (fun hc => ?_) (fun hc => ?_) <;> rw [hc]) | refine jQ (fun hc => ?_) (fun hc => ?_)) <;> (try simp only [nrB] at hc) <;> (try (exfalso; first | omega | exact hc trivial | exact hc rfl)))))
  refine WC_loop (X := Nat) (fun i => [(0, .int .i64 (first : Int)), (1, .int .i64 (s : Int)), (2, .int .i64 (g : Int)), (3, .int .i64 (st : Int)), (10, .int .i64 ((baB first g st i : Nat) : Int)), (11, .int .i64 (i : Int))]) (fun _ => L)
    (fun i => i ≤ s ∧ baB first g st i ≤ 1000 + i * 1048576) (fun i => s - i) 0 ⟨Nat.zero_le _, by show first ≤ _; omega⟩ (by repeat (first | exact Sub.nil | refine Sub.cons rfl ?_ | refine Sub.cons (lk_int rfl (by first | omega | (dsimp only; omega))) ?_)) (fun w h => h) ?_
  rintro i ⟨hi, hb⟩
  (repeat' (first | (show WL _ _ _ _ _ _ _; first | refine jA ?_ | refine jB ?_ | refine jC ?_ | refine jD ?_ | refine jE ?_ | refine jF ?_) | (show OW _ _ _ _ _ _; first | refine OW_E ?_ | refine jI ?_ | refine jJ ?_ | refine jK (fun bk => ?_) | refine jL (fun bk => ?_)) | (show WC _ _ _ _ _ _; first | refine jM ?_ | refine jN ?_ | refine jO ?_ | refine jP ?_ | refine jR ?_ | refine jS ?_ | refine jT ?_ | refine jU ?_) | (show WQ _ _ _ _; with_reducible first | refine jV ?_ | refine jW ?_ | refine jX ?_ | refine jY ?_ | refine jZ ?_ | refine kA ?_ | refine kB ?_ | refine kC ?_) | ((first | (refine jG (fun hc => ?_) (fun hc => ?_) <;> rw [hc]) | refine jQ (fun hc => ?_) (fun hc => ?_)) <;> (try simp only [nrB] at hc) <;> (try (exfalso; first | omega | exact hc trivial | exact hc rfl)))))
  · have hx := hB i (by omega)
    have hp : 2 ^ exB i g st ≤ 2 ^ 20 := Nat.pow_le_pow_right (by decide) hx
    have hnx : baB first g st (i + 1) = baB first g st i + 2 ^ exB i g st := rfl
    refine OW_callP rfl rfl rfl (exb_n i g st L (by omega) hg hst) rfl ?_
    (repeat' (first | (show WL _ _ _ _ _ _ _; first | refine jA ?_ | refine jB ?_ | refine jC ?_ | refine jD ?_ | refine jE ?_ | refine jF ?_) | (show OW _ _ _ _ _ _; first | refine OW_E ?_ | refine jI ?_ | refine jJ ?_ | refine jK (fun bk => ?_) | refine jL (fun bk => ?_)) | (show WC _ _ _ _ _ _; first | refine jM ?_ | refine jN ?_ | refine jO ?_ | refine jP ?_ | refine jR ?_ | refine jS ?_ | refine jT ?_ | refine jU ?_) | (show WQ _ _ _ _; with_reducible first | refine jV ?_ | refine jW ?_ | refine jX ?_ | refine jY ?_ | refine jZ ?_ | refine kA ?_ | refine kB ?_ | refine kC ?_) | ((first | (refine jG (fun hc => ?_) (fun hc => ?_) <;> rw [hc]) | refine jQ (fun hc => ?_) (fun hc => ?_)) <;> (try simp only [nrB] at hc) <;> (try (exfalso; first | omega | exact hc trivial | exact hc rfl)))))
    refine OW_EV (EV_shl64 1 (exB i g st) rfl rfl rfl rfl (by omega) (by omega)) rfl ?_
    (repeat' (first | (show WL _ _ _ _ _ _ _; first | refine jA ?_ | refine jB ?_ | refine jC ?_ | refine jD ?_ | refine jE ?_ | refine jF ?_) | (show OW _ _ _ _ _ _; first | refine OW_E ?_ | refine jI ?_ | refine jJ ?_ | refine jK (fun bk => ?_) | refine jL (fun bk => ?_)) | (show WC _ _ _ _ _ _; first | refine jM ?_ | refine jN ?_ | refine jO ?_ | refine jP ?_ | refine jR ?_ | refine jS ?_ | refine jT ?_ | refine jU ?_) | (show WQ _ _ _ _; with_reducible first | refine jV ?_ | refine jW ?_ | refine jX ?_ | refine jY ?_ | refine jZ ?_ | refine kA ?_ | refine kB ?_ | refine kC ?_) | ((first | (refine jG (fun hc => ?_) (fun hc => ?_) <;> rw [hc]) | refine jQ (fun hc => ?_) (fun hc => ?_)) <;> (try simp only [nrB] at hc) <;> (try (exfalso; first | omega | exact hc trivial | exact hc rfl)))))
    rw [Nat.one_mul, ← Int.natCast_add, ← hnx]
    refine WQ_round (X := Nat) (μ := fun i => s - i) (x := i) (i + 1) (by omega) ⟨by omega, by omega⟩ (by repeat (first | exact Sub.nil | refine Sub.cons rfl ?_ | refine Sub.cons (lk_int rfl (by first | omega | (dsimp only; omega))) ?_)) (fun w h => h)
  · obtain rfl : i = s := by omega
    refine OW_callP rfl rfl rfl (exb_n i g st L (by omega) hg hst) rfl ?_
    (repeat' (first | (show WL _ _ _ _ _ _ _; first | refine jA ?_ | refine jB ?_ | refine jC ?_ | refine jD ?_ | refine jE ?_ | refine jF ?_) | (show OW _ _ _ _ _ _; first | refine OW_E ?_ | refine jI ?_ | refine jJ ?_ | refine jK (fun bk => ?_) | refine jL (fun bk => ?_)) | (show WC _ _ _ _ _ _; first | refine jM ?_ | refine jN ?_ | refine jO ?_ | refine jP ?_ | refine jR ?_ | refine jS ?_ | refine jT ?_ | refine jU ?_) | (show WQ _ _ _ _; with_reducible first | refine jV ?_ | refine jW ?_ | refine jX ?_ | refine jY ?_ | refine jZ ?_ | refine kA ?_ | refine kB ?_ | refine kC ?_) | ((first | (refine jG (fun hc => ?_) (fun hc => ?_) <;> rw [hc]) | refine jQ (fun hc => ?_) (fun hc => ?_)) <;> (try simp only [nrB] at hc) <;> (try (exfalso; first | omega | exact hc trivial | exact hc rfl)))))
    (first | refine WQ_retI rfl rfl ?_ | refine WQ_endI rfl rfl ?_)
    exact ⟨L, iC, rfl, rfl⟩

set_option maxHeartbeats 4000000 in
theorem single_n (a : Option Addr) (c : Nat) (l : List Nat) (L : List Chunk) (h : Sl L 1 (.slice a l.length c) l.length (intsN (icn l))) (hl : l.length ≤ 1000) :
    GvP Tryd.prog 41 [.slice a l.length c].toArray L (.bool (sgl l)) := by
  refine Gv.of_body Tryd.func41 rfl rfl ?_
  (repeat' (first | (show WL _ _ _ _ _ _ _; first | refine jA ?_ | refine jB ?_ | refine jC ?_ | refine jD ?_ | refine jE ?_ | refine jF ?_) | (show OW _ _ _ _ _ _; first | refine OW_E ?_ | refine jI ?_ | refine jJ ?_ | refine jK (fun bk => ?_) | refine jL (fun bk => ?_)) | (show WC _ _ _ _ _ _; first | refine jM ?_ | refine jN ?_ | refine jO ?_ | refine jP ?_ | refine jR ?_ | refine jS ?_ | refine jT ?_ | refine jU ?_) | (show WQ _ _ _ _; with_reducible first | refine jV ?_ | refine jW ?_ | refine jX ?_ | refine jY ?_ | refine jZ ?_ | refine kA ?_ | refine kB ?_ | refine kC ?_) | ((first | (refine jG (fun hc => ?_) (fun hc => ?_) <;> rw [hc]) | refine jQ (fun hc => ?_) (fun hc => ?_)) <;> (try simp only [nrB] at hc) <;> (try (exfalso; first | omega | exact hc trivial | exact hc rfl)))))
  refine WC_loop (X := Nat) (fun i => [(0, .slice a l.length c), (3, .int .i64 (((l.take i).sum : Nat) : Int)), (4, .int .i64 (i : Int))]) (fun _ => L)
    (fun i => i ≤ l.length ∧ (l.take i).all (fun x => decide (x ≤ 1)) = true ∧ (l.take i).sum ≤ i) (fun i => l.length - i) 0 ⟨Nat.zero_le _, rfl, Nat.le_refl _⟩ (by repeat (first | exact Sub.nil | refine Sub.cons rfl ?_ | refine Sub.cons (lk_int rfl (by first | omega | (dsimp only; omega))) ?_)) (fun w h => h) ?_
  rintro i ⟨hi, hal, hsm⟩
  (repeat' (first | (show WL _ _ _ _ _ _ _; first | refine jA ?_ | refine jB ?_ | refine jC ?_ | refine jD ?_ | refine jE ?_ | refine jF ?_) | (show OW _ _ _ _ _ _; first | refine OW_E ?_ | refine jI ?_ | refine jJ ?_ | refine jK (fun bk => ?_) | refine jL (fun bk => ?_)) | (show WC _ _ _ _ _ _; first | refine jM ?_ | refine jN ?_ | refine jO ?_ | refine jP ?_ | refine jR ?_ | refine jS ?_ | refine jT ?_ | refine jU ?_) | (show WQ _ _ _ _; with_reducible first | refine jV ?_ | refine jW ?_ | refine jX ?_ | refine jY ?_ | refine jZ ?_ | refine kA ?_ | refine kB ?_ | refine kC ?_) | ((first | (refine jG (fun hc => ?_) (fun hc => ?_) <;> rw [hc]) | refine jQ (fun hc => ?_) (fun hc => ?_)) <;> (try simp only [nrB] at hc) <;> (try (exfalso; first | omega | exact hc trivial | exact hc rfl)))))
  · have hlt : i < l.length := by omega
    obtain ⟨b, off, cap, cc, T, fr, hve, hfn, hcell⟩ := sl_at h (icn_getv hlt)
    injection hve with q1 q2 q3
    subst q1 q3
    clear q2
    have hg : l.getD i 0 = l[i] := by simp [List.getD, hlt]
    have htk : l.take (i + 1) = l.take i ++ [l.getD i 0] := by rw [List.take_add_one, List.getElem?_eq_getElem hlt, hg]; rfl
    have hmem : l.getD i 0 ∈ l := by rw [hg]; exact List.getElem_mem _
    obtain ⟨x, hx⟩ : ∃ x, x = l.getD i 0 := ⟨_, rfl⟩
    rw [← hx] at hcell htk hmem
    refine OW_EV (EV_indexAddr (j := i) rfl rfl rfl hlt) rfl ?_
    (repeat' (first | (show WL _ _ _ _ _ _ _; first | refine jA ?_ | refine jB ?_ | refine jC ?_ | refine jD ?_ | refine jE ?_ | refine jF ?_) | (show OW _ _ _ _ _ _; first | refine OW_E ?_ | refine jI ?_ | refine jJ ?_ | refine jK (fun bk => ?_) | refine jL (fun bk => ?_)) | (show WC _ _ _ _ _ _; first | refine jM ?_ | refine jN ?_ | refine jO ?_ | refine jP ?_ | refine jR ?_ | refine jS ?_ | refine jT ?_ | refine jU ?_) | (show WQ _ _ _ _; with_reducible first | refine jV ?_ | refine jW ?_ | refine jX ?_ | refine jY ?_ | refine jZ ?_ | refine kA ?_ | refine kB ?_ | refine kC ?_) | ((first | (refine jG (fun hc => ?_) (fun hc => ?_) <;> rw [hc]) | refine jQ (fun hc => ?_) (fun hc => ?_)) <;> (try simp only [nrB] at hc) <;> (try (exfalso; first | omega | exact hc trivial | exact hc rfl)))))
    refine OW_EV (EV_load rfl hfn hcell) rfl ?_
    (repeat' (first | (show WL _ _ _ _ _ _ _; first | refine jA ?_ | refine jB ?_ | refine jC ?_ | refine jD ?_ | refine jE ?_ | refine jF ?_) | (show OW _ _ _ _ _ _; first | refine OW_E ?_ | refine jI ?_ | refine jJ ?_ | refine jK (fun bk => ?_) | refine jL (fun bk => ?_)) | (show WC _ _ _ _ _ _; first | refine jM ?_ | refine jN ?_ | refine jO ?_ | refine jP ?_ | refine jR ?_ | refine jS ?_ | refine jT ?_ | refine jU ?_) | (show WQ _ _ _ _; with_reducible first | refine jV ?_ | refine jW ?_ | refine jX ?_ | refine jY ?_ | refine jZ ?_ | refine kA ?_ | refine kB ?_ | refine kC ?_) | ((first | (refine jG (fun hc => ?_) (fun hc => ?_) <;> rw [hc]) | refine jQ (fun hc => ?_) (fun hc => ?_)) <;> (try simp only [nrB] at hc) <;> (try (exfalso; first | omega | exact hc trivial | exact hc rfl)))))
    · (first | refine WQ_retI rfl rfl ?_ | refine WQ_endI rfl rfl ?_)
      refine ⟨L, iC, congrArg Value.bool (show false = sgl l from ?_), rfl⟩
      have : l.all (fun x => decide (x ≤ 1)) = false := by
        rw [← Bool.not_eq_true, List.all_eq_true]
        intro hh
        have := hh x hmem
        simp at this
        omega
      unfold sgl
      rw [this]
      rfl
    · refine OW_EV (EV_indexAddr (j := i) rfl rfl rfl hlt) rfl ?_
      (repeat' (first | (show WL _ _ _ _ _ _ _; first | refine jA ?_ | refine jB ?_ | refine jC ?_ | refine jD ?_ | refine jE ?_ | refine jF ?_) | (show OW _ _ _ _ _ _; first | refine OW_E ?_ | refine jI ?_ | refine jJ ?_ | refine jK (fun bk => ?_) | refine jL (fun bk => ?_)) | (show WC _ _ _ _ _ _; first | refine jM ?_ | refine jN ?_ | refine jO ?_ | refine jP ?_ | refine jR ?_ | refine jS ?_ | refine jT ?_ | refine jU ?_) | (show WQ _ _ _ _; with_reducible first | refine jV ?_ | refine jW ?_ | refine jX ?_ | refine jY ?_ | refine jZ ?_ | refine kA ?_ | refine kB ?_ | refine kC ?_) | ((first | (refine jG (fun hc => ?_) (fun hc => ?_) <;> rw [hc]) | refine jQ (fun hc => ?_) (fun hc => ?_)) <;> (try simp only [nrB] at hc) <;> (try (exfalso; first | omega | exact hc trivial | exact hc rfl)))))
      refine OW_EV (EV_load rfl hfn hcell) rfl ?_
      (repeat' (first | (show WL _ _ _ _ _ _ _; first | refine jA ?_ | refine jB ?_ | refine jC ?_ | refine jD ?_ | refine jE ?_ | refine jF ?_) | (show OW _ _ _ _ _ _; first | refine OW_E ?_ | refine jI ?_ | refine jJ ?_ | refine jK (fun bk => ?_) | refine jL (fun bk => ?_)) | (show WC _ _ _ _ _ _; first | refine jM ?_ | refine jN ?_ | refine jO ?_ | refine jP ?_ | refine jR ?_ | refine jS ?_ | refine jT ?_ | refine jU ?_) | (show WQ _ _ _ _; with_reducible first | refine jV ?_ | refine jW ?_ | refine jX ?_ | refine jY ?_ | refine jZ ?_ | refine kA ?_ | refine kB ?_ | refine kC ?_) | ((first | (refine jG (fun hc => ?_) (fun hc => ?_) <;> rw [hc]) | refine jQ (fun hc => ?_) (fun hc => ?_)) <;> (try simp only [nrB] at hc) <;> (try (exfalso; first | omega | exact hc trivial | exact hc rfl)))))
      have hs2 : (((l.take (i + 1)).sum : Nat) : Int) = ((l.take i).sum : Int) + (x : Int) := by rw [htk, List.sum_append]; simp
      refine WQ_round (X := Nat) (μ := fun i => l.length - i) (x := i) (i + 1) (by omega) ⟨by omega, by rw [htk, List.all_append, hal]; simp; omega, by rw [htk, List.sum_append]; simp; omega⟩ ?_ (fun w h => h)
      simp only [hs2]
      exact (by repeat (first | exact Sub.nil | refine Sub.cons rfl ?_ | refine Sub.cons (lk_int rfl (by first | omega | (dsimp only; omega))) ?_))
  · obtain rfl : i = l.length := by omega
    rw [List.take_length] at hal hsm ⊢
    (first | refine WQ_retI rfl rfl ?_ | refine WQ_endI rfl rfl ?_)
    refine ⟨L, iC, congrArg Value.bool (show decide ((l.sum : Int) < 2) = sgl l from ?_), rfl⟩
    unfold sgl
    rw [hal, Bool.true_and]
    exact decide_eq_decide.2 (by omega)
end Go.Proofs.YtkiaegkojlhaeaaDoor
