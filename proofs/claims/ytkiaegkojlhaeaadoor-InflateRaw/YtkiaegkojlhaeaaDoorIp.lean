/- Package inflate: blocks of the fixed codes. It proves no statement by itself. No conditions. -/
import Derived.Test.YtkiaegkojlhaeaaDoorIm
namespace Go.If
open Go.Vx Go.Hf
set_option linter.all false
theorem kS_sum : ∀ l : List Nat, kS l ≤ 16384 * l.sum
  | [] => by simp [kS]
  | x :: r => by
    have ih := kS_sum r
    have h2 : (if 0 < x then 2 ^ (15 - x) else 0) ≤ 16384 * x := by
      split
      · have : 2 ^ (15 - x) ≤ 2 ^ 14 := Nat.pow_le_pow_right (by decide) (by omega)
        omega
      · omega
    rw [List.sum_cons, kS]
    omega
theorem mem_sum : ∀ {l : List Nat} {x : Nat}, x ∈ l → x ≤ l.sum
  | y :: r, x, h => by
    rw [List.sum_cons]
    rcases List.mem_cons.1 h with rfl | h
    · omega
    · have := mem_sum h; omega
theorem sgl_sum (l : List Nat) : sgl l = decide (l.sum < 2) := by
  unfold sgl
  by_cases h : l.sum < 2
  · rw [decide_eq_true h, Bool.and_true, List.all_eq_true]
    intro x hx
    have := mem_sum hx
    simp
    omega
  · rw [decide_eq_false h, Bool.and_false]
end Go.If
namespace Go.Proofs.YtkiaegkojlhaeaaDoor
open Go Go.Vx Go.Hf Go.If
variable [W0]
set_option maxRecDepth 4000
set_option linter.all false
theorem okL_icn {l : List Nat} (h : ∀ x ∈ l, x ≤ 15) : okL (icn l) = true := by
  unfold okL icn
  rw [List.all_eq_true]
  intro x hx
  obtain ⟨y, hy, rfl⟩ := List.mem_map.1 hx
  have := h y hy
  simp
  omega
theorem wgt_icn {l : List Nat} (h : ∀ x ∈ l, x ≤ 15) : wgt (icn l) = (kS l : Int) := by unfold wgt; rw [if_pos (okL_icn h), nl_icn]
theorem cdE_icn {l : List Nat} (h : ∀ x ∈ l, x ≤ 15) (h4 : l.length ≤ 400) (hk : kS l ≤ 32768) : cdE (icn l) = 0 := (cdE_zero (by rw [icn_length]; exact h4) (okL_icn h) (by rw [nl_icn]; exact hk)).1

set_option maxHeartbeats 2000000 in
theorem completeCode_n (a : Option Addr) (c : Nat) (l : List Nat) (L : List Chunk) (h : Sl L 1 (.slice a l.length c) l.length (ivn l)) (h15 : ∀ x ∈ l, x ≤ 15) (h4 : l.length ≤ 400) :
    Gv Tryd.prog 64 [.slice a l.length c].toArray L (fun r L' => (kS l ≠ 32768 ∧ r = .tuple #[.pointer none, .int .i64 3] ∧ L' = L) ∨
      (kS l = 32768 ∧ ∃ p C, r = .tuple #[.pointer (some ⟨p, 0, none⟩), .int .i64 0] ∧ L' = C :: L ∧ CoD l p C)) := by
  refine Gv.of_body Tryd.func64 rfl rfl ?_
  have hlen : (icn l).length = l.length := icn_length l
  have hco := hcomplete_n a c (icn l) L (by rw [hlen, intsN_icn]; exact h) (by omega)
  have hnw := hnew_n a c (icn l) L (by rw [hlen, intsN_icn]; exact h) (by omega)
  rw [hlen, wgt_icn h15] at hco
  rw [hlen, nl_icn] at hnw
  by_cases hk : kS l = 32768
  · rw [hk, show (((32768 : Nat) : Int) == 32768) = true from rfl] at hco
    have h0 := cdE_icn h15 h4 (by omega)
    (repeat' (first | (show WL _ _ _ _ _ _ _; first | refine jA ?_ | refine jB ?_ | refine jC ?_ | refine jD ?_ | refine jE ?_ | refine jF ?_) | (show OW _ _ _ _ _ _; first | refine OW_E ?_ | refine jI ?_ | refine jJ ?_ | refine jK (fun bk => ?_) | refine jL (fun bk => ?_)) | (show WC _ _ _ _ _ _; first | refine jM ?_ | refine jN ?_ | refine jO ?_ | refine jP ?_ | refine jR ?_ | refine jS ?_ | refine jT ?_ | refine jU ?_) | (show WQ _ _ _ _; with_reducible first | refine jV ?_ | refine jW ?_ | refine jX ?_ | refine jY ?_ | refine jZ ?_ | refine kA ?_ | refine kB ?_ | refine kC ?_) | ((first | (refine jG (fun hc => ?_) (fun hc => ?_) <;> rw [hc]) | refine jQ (fun hc => ?_) (fun hc => ?_)) <;> (try simp only [nrB] at hc) <;> (try (exfalso; first | omega | exact hc trivial | exact hc rfl)))))
    refine OW_callP rfl rfl rfl hco rfl ?_
    (repeat' (first | (show WL _ _ _ _ _ _ _; first | refine jA ?_ | refine jB ?_ | refine jC ?_ | refine jD ?_ | refine jE ?_ | refine jF ?_) | (show OW _ _ _ _ _ _; first | refine OW_E ?_ | refine jI ?_ | refine jJ ?_ | refine jK (fun bk => ?_) | refine jL (fun bk => ?_)) | (show WC _ _ _ _ _ _; first | refine jM ?_ | refine jN ?_ | refine jO ?_ | refine jP ?_ | refine jR ?_ | refine jS ?_ | refine jT ?_ | refine jU ?_) | (show WQ _ _ _ _; with_reducible first | refine jV ?_ | refine jW ?_ | refine jX ?_ | refine jY ?_ | refine jZ ?_ | refine kA ?_ | refine kB ?_ | refine kC ?_) | ((first | (refine jG (fun hc => ?_) (fun hc => ?_) <;> rw [hc]) | refine jQ (fun hc => ?_) (fun hc => ?_)) <;> (try simp only [nrB] at hc) <;> (try (exfalso; first | omega | exact hc trivial | exact hc rfl)))))
    refine OW_call rfl rfl rfl hnw rfl (fun r L' hp => ?_)
    rcases hp with ⟨h1, _⟩ | ⟨_, p, C, rfl, rfl, hc⟩
    · exact absurd h0 h1
    (repeat' (first | (show WL _ _ _ _ _ _ _; first | refine jA ?_ | refine jB ?_ | refine jC ?_ | refine jD ?_ | refine jE ?_ | refine jF ?_) | (show OW _ _ _ _ _ _; first | refine OW_E ?_ | refine jI ?_ | refine jJ ?_ | refine jK (fun bk => ?_) | refine jL (fun bk => ?_)) | (show WC _ _ _ _ _ _; first | refine jM ?_ | refine jN ?_ | refine jO ?_ | refine jP ?_ | refine jR ?_ | refine jS ?_ | refine jT ?_ | refine jU ?_) | (show WQ _ _ _ _; with_reducible first | refine jV ?_ | refine jW ?_ | refine jX ?_ | refine jY ?_ | refine jZ ?_ | refine kA ?_ | refine kB ?_ | refine kC ?_) | ((first | (refine jG (fun hc => ?_) (fun hc => ?_) <;> rw [hc]) | refine jQ (fun hc => ?_) (fun hc => ?_)) <;> (try simp only [nrB] at hc) <;> (try (exfalso; first | omega | exact hc trivial | exact hc rfl)))))
    (first | refine WQ_retI rfl rfl ?_ | refine WQ_endI rfl rfl ?_)
    exact ⟨_, iC, .inr ⟨hk, p, C, rfl, rfl, hc⟩⟩
  · rw [show (((kS l : Nat) : Int) == 32768) = false from by simpa using fun h => hk (by omega)] at hco
    (repeat' (first | (show WL _ _ _ _ _ _ _; first | refine jA ?_ | refine jB ?_ | refine jC ?_ | refine jD ?_ | refine jE ?_ | refine jF ?_) | (show OW _ _ _ _ _ _; first | refine OW_E ?_ | refine jI ?_ | refine jJ ?_ | refine jK (fun bk => ?_) | refine jL (fun bk => ?_)) | (show WC _ _ _ _ _ _; first | refine jM ?_ | refine jN ?_ | refine jO ?_ | refine jP ?_ | refine jR ?_ | refine jS ?_ | refine jT ?_ | refine jU ?_) | (show WQ _ _ _ _; with_reducible first | refine jV ?_ | refine jW ?_ | refine jX ?_ | refine jY ?_ | refine jZ ?_ | refine kA ?_ | refine kB ?_ | refine kC ?_) | ((first | (refine jG (fun hc => ?_) (fun hc => ?_) <;> rw [hc]) | refine jQ (fun hc => ?_) (fun hc => ?_)) <;> (try simp only [nrB] at hc) <;> (try (exfalso; first | omega | exact hc trivial | exact hc rfl)))))
    refine OW_callP rfl rfl rfl hco rfl ?_
    (repeat' (first | (show WL _ _ _ _ _ _ _; first | refine jA ?_ | refine jB ?_ | refine jC ?_ | refine jD ?_ | refine jE ?_ | refine jF ?_) | (show OW _ _ _ _ _ _; first | refine OW_E ?_ | refine jI ?_ | refine jJ ?_ | refine jK (fun bk => ?_) | refine jL (fun bk => ?_)) | (show WC _ _ _ _ _ _; first | refine jM ?_ | refine jN ?_ | refine jO ?_ | refine jP ?_ | refine jR ?_ | refine jS ?_ | refine jT ?_ | refine jU ?_) | (show WQ _ _ _ _; with_reducible first | refine jV ?_ | refine jW ?_ | refine jX ?_ | refine jY ?_ | refine jZ ?_ | refine kA ?_ | refine kB ?_ | refine kC ?_) | ((first | (refine jG (fun hc => ?_) (fun hc => ?_) <;> rw [hc]) | refine jQ (fun hc => ?_) (fun hc => ?_)) <;> (try simp only [nrB] at hc) <;> (try (exfalso; first | omega | exact hc trivial | exact hc rfl)))))
    refine WQ_retI (rs := [.tmp 2, .tmp 3]) (vs := [.pointer none, .int .i64 3]) rfl rfl ?_
    exact ⟨_, iC, .inl ⟨hk, rfl, rfl⟩⟩

set_option maxHeartbeats 2000000 in
theorem distanceCode_n (a : Option Addr) (c : Nat) (l : List Nat) (L : List Chunk) (h : Sl L 1 (.slice a l.length c) l.length (ivn l)) (h15 : ∀ x ∈ l, x ≤ 15) (h4 : l.length ≤ 400) :
    Gv Tryd.prog 65 [.slice a l.length c].toArray L (fun r L' => (¬ (kS l = 32768 ∨ sgl l = true) ∧ r = .tuple #[.pointer none, .int .i64 3] ∧ L' = L) ∨
      ((kS l = 32768 ∨ sgl l = true) ∧ ∃ p C, r = .tuple #[.pointer (some ⟨p, 0, none⟩), .int .i64 0] ∧ L' = C :: L ∧ CoD l p C)) := by
  refine Gv.of_body Tryd.func65 rfl rfl ?_
  have hlen : (icn l).length = l.length := icn_length l
  have hnw := hnew_n a c (icn l) L (by rw [hlen, intsN_icn]; exact h) (by omega)
  rw [hlen, nl_icn] at hnw
  have hcc := completeCode_n a c l L h h15 h4
  (repeat' (first | (show WL _ _ _ _ _ _ _; first | refine jA ?_ | refine jB ?_ | refine jC ?_ | refine jD ?_ | refine jE ?_ | refine jF ?_) | (show OW _ _ _ _ _ _; first | refine OW_E ?_ | refine jI ?_ | refine jJ ?_ | refine jK (fun bk => ?_) | refine jL (fun bk => ?_)) | (show WC _ _ _ _ _ _; first | refine jM ?_ | refine jN ?_ | refine jO ?_ | refine jP ?_ | refine jR ?_ | refine jS ?_ | refine jT ?_ | refine jU ?_) | (show WQ _ _ _ _; with_reducible first | refine jV ?_ | refine jW ?_ | refine jX ?_ | refine jY ?_ | refine jZ ?_ | refine kA ?_ | refine kB ?_ | refine kC ?_) | ((first | (refine jG (fun hc => ?_) (fun hc => ?_) <;> rw [hc]) | refine jQ (fun hc => ?_) (fun hc => ?_)) <;> (try simp only [nrB] at hc) <;> (try (exfalso; first | omega | exact hc trivial | exact hc rfl)))))
  refine WC_loop (X := Nat) (fun i => [(0, .slice a l.length c), (4, .int .i64 (((l.take i).sum : Nat) : Int)), (7, .slice a l.length c), (8, .int .i64 (l.length : Int)), (9, .int .i64 (i : Int))]) (fun _ => L)
    (fun i => i ≤ l.length ∧ (l.take i).sum ≤ 15 * i) (fun i => l.length - i) 0 ⟨Nat.zero_le _, Nat.le_refl _⟩ (by repeat (first | exact Sub.nil | refine Sub.cons rfl ?_ | refine Sub.cons (lk_int rfl (by first | omega | (dsimp only; omega))) ?_)) (fun w h => h) ?_
  rintro i ⟨hi, hsm⟩
  (repeat' (first | (show WL _ _ _ _ _ _ _; first | refine jA ?_ | refine jB ?_ | refine jC ?_ | refine jD ?_ | refine jE ?_ | refine jF ?_) | (show OW _ _ _ _ _ _; first | refine OW_E ?_ | refine jI ?_ | refine jJ ?_ | refine jK (fun bk => ?_) | refine jL (fun bk => ?_)) | (show WC _ _ _ _ _ _; first | refine jM ?_ | refine jN ?_ | refine jO ?_ | refine jP ?_ | refine jR ?_ | refine jS ?_ | refine jT ?_ | refine jU ?_) | (show WQ _ _ _ _; with_reducible first | refine jV ?_ | refine jW ?_ | refine jX ?_ | refine jY ?_ | refine jZ ?_ | refine kA ?_ | refine kB ?_ | refine kC ?_) | ((first | (refine jG (fun hc => ?_) (fun hc => ?_) <;> rw [hc]) | refine jQ (fun hc => ?_) (fun hc => ?_)) <;> (try simp only [nrB] at hc) <;> (try (exfalso; first | omega | exact hc trivial | exact hc rfl)))))
  · have hlt : i < l.length := by omega
    obtain ⟨x, hx⟩ : ∃ x, l[i]? = some x := ⟨l[i], List.getElem?_eq_getElem hlt⟩
    have hx15 := h15 x (List.mem_of_getElem? hx)
    have hsu : (l.take (i + 1)).sum = (l.take i).sum + x := by rw [List.take_add_one, hx]; simp
    obtain ⟨b, off, cap, cc, T, fr, hve, hfn, hcell⟩ := sl_at h (ivn_get hx)
    injection hve with q1 q2 q3
    subst q1 q3
    clear q2
    refine OW_EV (EV_indexAddr (j := i) rfl rfl rfl hlt) rfl ?_
    (repeat' (first | (show WL _ _ _ _ _ _ _; first | refine jA ?_ | refine jB ?_ | refine jC ?_ | refine jD ?_ | refine jE ?_ | refine jF ?_) | (show OW _ _ _ _ _ _; first | refine OW_E ?_ | refine jI ?_ | refine jJ ?_ | refine jK (fun bk => ?_) | refine jL (fun bk => ?_)) | (show WC _ _ _ _ _ _; first | refine jM ?_ | refine jN ?_ | refine jO ?_ | refine jP ?_ | refine jR ?_ | refine jS ?_ | refine jT ?_ | refine jU ?_) | (show WQ _ _ _ _; with_reducible first | refine jV ?_ | refine jW ?_ | refine jX ?_ | refine jY ?_ | refine jZ ?_ | refine kA ?_ | refine kB ?_ | refine kC ?_) | ((first | (refine jG (fun hc => ?_) (fun hc => ?_) <;> rw [hc]) | refine jQ (fun hc => ?_) (fun hc => ?_)) <;> (try simp only [nrB] at hc) <;> (try (exfalso; first | omega | exact hc trivial | exact hc rfl)))))
    refine OW_EV (EV_load rfl hfn hcell) rfl ?_
    (repeat' (first | (show WL _ _ _ _ _ _ _; first | refine jA ?_ | refine jB ?_ | refine jC ?_ | refine jD ?_ | refine jE ?_ | refine jF ?_) | (show OW _ _ _ _ _ _; first | refine OW_E ?_ | refine jI ?_ | refine jJ ?_ | refine jK (fun bk => ?_) | refine jL (fun bk => ?_)) | (show WC _ _ _ _ _ _; first | refine jM ?_ | refine jN ?_ | refine jO ?_ | refine jP ?_ | refine jR ?_ | refine jS ?_ | refine jT ?_ | refine jU ?_) | (show WQ _ _ _ _; with_reducible first | refine jV ?_ | refine jW ?_ | refine jX ?_ | refine jY ?_ | refine jZ ?_ | refine kA ?_ | refine kB ?_ | refine kC ?_) | ((first | (refine jG (fun hc => ?_) (fun hc => ?_) <;> rw [hc]) | refine jQ (fun hc => ?_) (fun hc => ?_)) <;> (try simp only [nrB] at hc) <;> (try (exfalso; first | omega | exact hc trivial | exact hc rfl)))))
    rw [← Int.natCast_add, ← hsu]
    refine WQ_round (X := Nat) (μ := fun i => l.length - i) (x := i) (i + 1) (by omega) ⟨by omega, by omega⟩ (by repeat (first | exact Sub.nil | refine Sub.cons rfl ?_ | refine Sub.cons (lk_int rfl (by first | omega | (dsimp only; omega))) ?_)) (fun w h => h)
  · obtain rfl : i = l.length := by omega
    rw [List.take_length] at *
    refine OW_call rfl rfl rfl hcc rfl (fun r L' hp => ?_)
    have hsg : sgl l = false := by rw [sgl_sum]; simp; omega
    simp only [hsg, Bool.false_eq_true, or_false]
    rcases hp with ⟨h1, rfl, rfl⟩ | ⟨h1, p, C, rfl, rfl, hc⟩
    · (repeat' (first | (show WL _ _ _ _ _ _ _; first | refine jA ?_ | refine jB ?_ | refine jC ?_ | refine jD ?_ | refine jE ?_ | refine jF ?_) | (show OW _ _ _ _ _ _; first | refine OW_E ?_ | refine jI ?_ | refine jJ ?_ | refine jK (fun bk => ?_) | refine jL (fun bk => ?_)) | (show WC _ _ _ _ _ _; first | refine jM ?_ | refine jN ?_ | refine jO ?_ | refine jP ?_ | refine jR ?_ | refine jS ?_ | refine jT ?_ | refine jU ?_) | (show WQ _ _ _ _; with_reducible first | refine jV ?_ | refine jW ?_ | refine jX ?_ | refine jY ?_ | refine jZ ?_ | refine kA ?_ | refine kB ?_ | refine kC ?_) | ((first | (refine jG (fun hc => ?_) (fun hc => ?_) <;> rw [hc]) | refine jQ (fun hc => ?_) (fun hc => ?_)) <;> (try simp only [nrB] at hc) <;> (try (exfalso; first | omega | exact hc trivial | exact hc rfl)))))
      refine WQ_retI (rs := [.tmp 2, .tmp 3]) (vs := [.pointer none, .int .i64 3]) rfl rfl ?_
      exact ⟨_, iC, .inl ⟨h1, rfl, rfl⟩⟩
    · (repeat' (first | (show WL _ _ _ _ _ _ _; first | refine jA ?_ | refine jB ?_ | refine jC ?_ | refine jD ?_ | refine jE ?_ | refine jF ?_) | (show OW _ _ _ _ _ _; first | refine OW_E ?_ | refine jI ?_ | refine jJ ?_ | refine jK (fun bk => ?_) | refine jL (fun bk => ?_)) | (show WC _ _ _ _ _ _; first | refine jM ?_ | refine jN ?_ | refine jO ?_ | refine jP ?_ | refine jR ?_ | refine jS ?_ | refine jT ?_ | refine jU ?_) | (show WQ _ _ _ _; with_reducible first | refine jV ?_ | refine jW ?_ | refine jX ?_ | refine jY ?_ | refine jZ ?_ | refine kA ?_ | refine kB ?_ | refine kC ?_) | ((first | (refine jG (fun hc => ?_) (fun hc => ?_) <;> rw [hc]) | refine jQ (fun hc => ?_) (fun hc => ?_)) <;> (try simp only [nrB] at hc) <;> (try (exfalso; first | omega | exact hc trivial | exact hc rfl)))))
      (first | refine WQ_retI rfl rfl ?_ | refine WQ_endI rfl rfl ?_)
      exact ⟨_, iC, .inr ⟨h1, p, C, rfl, rfl, hc⟩⟩
  · obtain rfl : i = l.length := by omega
    rw [List.take_length] at *
    have hsg : sgl l = true := by rw [sgl_sum]; simp; omega
    have hks := kS_sum l
    have h0 := cdE_icn h15 h4 (by omega)
    refine OW_call rfl rfl rfl hnw rfl (fun r L' hp => ?_)
    rcases hp with ⟨h1, _⟩ | ⟨_, p, C, rfl, rfl, hc⟩
    · exact absurd h0 h1
    (repeat' (first | (show WL _ _ _ _ _ _ _; first | refine jA ?_ | refine jB ?_ | refine jC ?_ | refine jD ?_ | refine jE ?_ | refine jF ?_) | (show OW _ _ _ _ _ _; first | refine OW_E ?_ | refine jI ?_ | refine jJ ?_ | refine jK (fun bk => ?_) | refine jL (fun bk => ?_)) | (show WC _ _ _ _ _ _; first | refine jM ?_ | refine jN ?_ | refine jO ?_ | refine jP ?_ | refine jR ?_ | refine jS ?_ | refine jT ?_ | refine jU ?_) | (show WQ _ _ _ _; with_reducible first | refine jV ?_ | refine jW ?_ | refine jX ?_ | refine jY ?_ | refine jZ ?_ | refine kA ?_ | refine kB ?_ | refine kC ?_) | ((first | (refine jG (fun hc => ?_) (fun hc => ?_) <;> rw [hc]) | refine jQ (fun hc => ?_) (fun hc => ?_)) <;> (try simp only [nrB] at hc) <;> (try (exfalso; first | omega | exact hc trivial | exact hc rfl)))))
    (first | refine WQ_retI rfl rfl ?_ | refine WQ_endI rfl rfl ?_)
    exact ⟨_, iC, .inr ⟨.inr hsg, p, C, rfl, rfl, hc⟩⟩

set_option maxHeartbeats 2000000 in
theorem codesOf_n (a a2 : Option Addr) (c c2 : Nat) (l dl : List Nat) (L : List Chunk) (h : Sl L 1 (.slice a l.length c) l.length (ivn l)) (h15 : ∀ x ∈ l, x ≤ 15) (h4 : l.length ≤ 400) (hd : Sl L 1 (.slice a2 dl.length c2) dl.length (ivn dl)) (hd15 : ∀ x ∈ dl, x ≤ 15) (hd4 : dl.length ≤ 400) :
    Gv Tryd.prog 56 [.slice a l.length c, .slice a2 dl.length c2].toArray L (fun r L' => (¬ (kS l = 32768 ∧ (kS dl = 32768 ∨ sgl dl = true)) ∧ r = .tuple #[.pointer none, .int .i64 3] ∧ L' = L) ∨
      ((kS l = 32768 ∧ (kS dl = 32768 ∨ sgl dl = true)) ∧ ∃ p pl pd Cl Cd, r = .tuple #[.pointer (some ⟨p, 0, none⟩), .int .i64 0] ∧ L' = csC p pl pd :: Cl :: Cd :: L ∧ CoD l pl Cl ∧ CoD dl pd Cd)) := by
  refine Gv.of_body Tryd.func56 rfl rfl ?_
  have hcc := completeCode_n a c l L h h15 h4
  (repeat' (first | (show WL _ _ _ _ _ _ _; first | refine jA ?_ | refine jB ?_ | refine jC ?_ | refine jD ?_ | refine jE ?_ | refine jF ?_) | (show OW _ _ _ _ _ _; first | refine OW_E ?_ | refine jI ?_ | refine jJ ?_ | refine jK (fun bk => ?_) | refine jL (fun bk => ?_)) | (show WC _ _ _ _ _ _; first | refine jM ?_ | refine jN ?_ | refine jO ?_ | refine jP ?_ | refine jR ?_ | refine jS ?_ | refine jT ?_ | refine jU ?_) | (show WQ _ _ _ _; with_reducible first | refine jV ?_ | refine jW ?_ | refine jX ?_ | refine jY ?_ | refine jZ ?_ | refine kA ?_ | refine kB ?_ | refine kC ?_) | ((first | (refine jG (fun hc => ?_) (fun hc => ?_) <;> rw [hc]) | refine jQ (fun hc => ?_) (fun hc => ?_)) <;> (try simp only [nrB] at hc) <;> (try (exfalso; first | omega | exact hc trivial | exact hc rfl)))))
  refine OW_call rfl rfl rfl hcc rfl (fun r L' hp => ?_)
  rcases hp with ⟨h1, rfl, rfl⟩ | ⟨h1, pl, Cl, rfl, rfl, hcl⟩
  · (repeat' (first | (show WL _ _ _ _ _ _ _; first | refine jA ?_ | refine jB ?_ | refine jC ?_ | refine jD ?_ | refine jE ?_ | refine jF ?_) | (show OW _ _ _ _ _ _; first | refine OW_E ?_ | refine jI ?_ | refine jJ ?_ | refine jK (fun bk => ?_) | refine jL (fun bk => ?_)) | (show WC _ _ _ _ _ _; first | refine jM ?_ | refine jN ?_ | refine jO ?_ | refine jP ?_ | refine jR ?_ | refine jS ?_ | refine jT ?_ | refine jU ?_) | (show WQ _ _ _ _; with_reducible first | refine jV ?_ | refine jW ?_ | refine jX ?_ | refine jY ?_ | refine jZ ?_ | refine kA ?_ | refine kB ?_ | refine kC ?_) | ((first | (refine jG (fun hc => ?_) (fun hc => ?_) <;> rw [hc]) | refine jQ (fun hc => ?_) (fun hc => ?_)) <;> (try simp only [nrB] at hc) <;> (try (exfalso; first | omega | exact hc trivial | exact hc rfl)))))
    refine WQ_retI (rs := [.tmp 4, .tmp 5]) (vs := [.pointer none, .int .i64 3]) rfl rfl ?_
    exact ⟨_, iC, .inl ⟨fun hh => h1 hh.1, rfl, rfl⟩⟩
  have hdc := distanceCode_n a2 c2 dl (Cl :: L) (sl_there hd) hd15 hd4
  (repeat' (first | (show WL _ _ _ _ _ _ _; first | refine jA ?_ | refine jB ?_ | refine jC ?_ | refine jD ?_ | refine jE ?_ | refine jF ?_) | (show OW _ _ _ _ _ _; first | refine OW_E ?_ | refine jI ?_ | refine jJ ?_ | refine jK (fun bk => ?_) | refine jL (fun bk => ?_)) | (show WC _ _ _ _ _ _; first | refine jM ?_ | refine jN ?_ | refine jO ?_ | refine jP ?_ | refine jR ?_ | refine jS ?_ | refine jT ?_ | refine jU ?_) | (show WQ _ _ _ _; with_reducible first | refine jV ?_ | refine jW ?_ | refine jX ?_ | refine jY ?_ | refine jZ ?_ | refine kA ?_ | refine kB ?_ | refine kC ?_) | ((first | (refine jG (fun hc => ?_) (fun hc => ?_) <;> rw [hc]) | refine jQ (fun hc => ?_) (fun hc => ?_)) <;> (try simp only [nrB] at hc) <;> (try (exfalso; first | omega | exact hc trivial | exact hc rfl)))))
  refine OW_call rfl rfl rfl hdc rfl (fun r L' hp => ?_)
  rcases hp with ⟨h2, rfl, rfl⟩ | ⟨h2, pd, Cd, rfl, rfl, hcd⟩
  · (repeat' (first | (show WL _ _ _ _ _ _ _; first | refine jA ?_ | refine jB ?_ | refine jC ?_ | refine jD ?_ | refine jE ?_ | refine jF ?_) | (show OW _ _ _ _ _ _; first | refine OW_E ?_ | refine jI ?_ | refine jJ ?_ | refine jK (fun bk => ?_) | refine jL (fun bk => ?_)) | (show WC _ _ _ _ _ _; first | refine jM ?_ | refine jN ?_ | refine jO ?_ | refine jP ?_ | refine jR ?_ | refine jS ?_ | refine jT ?_ | refine jU ?_) | (show WQ _ _ _ _; with_reducible first | refine jV ?_ | refine jW ?_ | refine jX ?_ | refine jY ?_ | refine jZ ?_ | refine kA ?_ | refine kB ?_ | refine kC ?_) | ((first | (refine jG (fun hc => ?_) (fun hc => ?_) <;> rw [hc]) | refine jQ (fun hc => ?_) (fun hc => ?_)) <;> (try simp only [nrB] at hc) <;> (try (exfalso; first | omega | exact hc trivial | exact hc rfl)))))
    refine WQ_retI (rs := [.tmp 4, .tmp 5]) (vs := [.pointer none, .int .i64 3]) rfl rfl ?_
    exact ⟨_, iC, .inl ⟨fun hh => h2 hh.2, rfl, rfl⟩⟩
  (repeat' (first | (show WL _ _ _ _ _ _ _; first | refine jA ?_ | refine jB ?_ | refine jC ?_ | refine jD ?_ | refine jE ?_ | refine jF ?_) | (show OW _ _ _ _ _ _; first | refine OW_E ?_ | refine jI ?_ | refine jJ ?_ | refine jK (fun bk => ?_) | refine jL (fun bk => ?_)) | (show WC _ _ _ _ _ _; first | refine jM ?_ | refine jN ?_ | refine jO ?_ | refine jP ?_ | refine jR ?_ | refine jS ?_ | refine jT ?_ | refine jU ?_) | (show WQ _ _ _ _; with_reducible first | refine jV ?_ | refine jW ?_ | refine jX ?_ | refine jY ?_ | refine jZ ?_ | refine kA ?_ | refine kB ?_ | refine kC ?_) | ((first | (refine jG (fun hc => ?_) (fun hc => ?_) <;> rw [hc]) | refine jQ (fun hc => ?_) (fun hc => ?_)) <;> (try simp only [nrB] at hc) <;> (try (exfalso; first | omega | exact hc trivial | exact hc rfl)))))
  refine WQ_retI (rs := [.tmp 4, .tmp 5]) (vs := [.pointer (some ⟨bk, 0, none⟩), .int .i64 0]) rfl rfl ?_
  exact ⟨csC bk pl pd :: Cl :: Cd :: L, iC, .inr ⟨⟨h1, h2⟩, bk, pl, pd, Cl, Cd, rfl, rfl, hcl, hcd⟩⟩
end Go.Proofs.YtkiaegkojlhaeaaDoor
/- Package inflate: blocks of the fixed codes. It proves no statement by itself. No conditions. -/
namespace Go.Proofs.YtkiaegkojlhaeaaDoor
open Go Go.Vx Go.Hf Go.If
variable [W0]
set_option maxRecDepth 4000
set_option linter.all false
omit [W0] in
/-- The fixed codes, once they are known. -/
def KnD (kn : Value) (K : Chunk) : Prop := (kn = .pointer none ∧ K = []) ∨ ∃ pk pl pd Cl Cd, kn = .pointer (some ⟨pk, 0, none⟩) ∧ K = csC pk pl pd ++ (Cl ++ Cd) ∧ CoD fxL pl Cl ∧ CoD fxD pd Cd
theorem KnD.one {kn : Value} {K : Chunk} (h : KnD kn K) : kn.oneCell' = true := by
  rcases h with ⟨rfl, _⟩ | ⟨pk, _, _, _, _, rfl, _⟩ <;> rfl
theorem fxL_15 : ∀ x ∈ fxL, x ≤ 15 := by decide
theorem fxD_15 : ∀ x ∈ fxD, x ≤ 15 := by decide
theorem fxL_kS : kS fxL = 32768 := by decide
theorem fxD_kS : kS fxD = 32768 := by decide
theorem fxL_len : fxL.length = 288 := by decide
theorem fxD_len : fxD.length = 32 := by decide
theorem holds3 {w : World} {A B C : Chunk} {L : List Chunk} : Holds w ((A ++ (B ++ C)) :: L) ↔ Holds w (A :: B :: C :: L) := by simp [Holds, List.append_assoc]

set_option maxHeartbeats 4000000 in
theorem pfixed_n (p q most : Nat) (v kn : Value) (d : List UInt8) (s : S6) (D E C K : Chunk) (L : List Chunk) (h : RdN q d s.t D E) (hl : d.length ≤ 140737488355328) (he : s.e = 0) (hm : most ≤ 1000000) (hkn : KnD kn K)
    (ho : Ow 5 1 v s.out.length (bsv s.out) C) (hom : s.out.length ≤ most) :
    Gv Tryd.prog 46 [.pointer (some ⟨p, 0, none⟩)].toArray (rdR p q v most kn :: D :: E :: C :: K :: L) (fun r L' =>
      ((cdC d most fxL fxD (8 * d.length + 1) s).e ≠ 0 ∧ r = .int .i64 ((cdC d most fxL fxD (8 * d.length + 1) s).e : Int) ∧ L' = L) ∨
      ((cdC d most fxL fxD (8 * d.length + 1) s).e = 0 ∧ r = .int .i64 0 ∧ ∃ v' D' C' kn' K', KnD kn' K' ∧ Ow 5 1 v' (cdC d most fxL fxD (8 * d.length + 1) s).out.length (bsv (cdC d most fxL fxD (8 * d.length + 1) s).out) C' ∧ (cdC d most fxL fxD (8 * d.length + 1) s).out.length ≤ most ∧ RdN q d (cdC d most fxL fxD (8 * d.length + 1) s).t D' E ∧
        L' = rdR p q v' most kn' :: D' :: E :: C' :: K' :: L)) := by
  have hcd := fun pc pl pd Cl Cd (hCl : CoD fxL pl Cl) (hCd : CoD fxD pd Cd) => pcoded_n p q pc pl pd most v (.pointer (some ⟨pc, 0, none⟩)) fxL fxD d s D E C Cl Cd L h hl he hm rfl ho hom hCl (by rw [fxL_kS]; decide) fxL_15 (by decide) hCd (by rw [fxD_kS]; decide) fxD_15 (by decide)
  generalize cdC d most fxL fxD (8 * d.length + 1) s = R at hcd ⊢
  obtain ⟨va, vc, rfl⟩ := ow_slc ho
  have hfin : ∀ (r : Value) (L' : List Chunk) (pk pl pd : Nat) (Cl Cd : Chunk), CoD fxL pl Cl → CoD fxD pd Cd → ((R.e ≠ 0 ∧ r = Value.int .i64 (R.e : Int) ∧ L' = L) ∨ (R.e = 0 ∧ r = .int .i64 0 ∧ ∃ v' D' C', Ow 5 1 v' R.out.length (bsv R.out) C' ∧ R.out.length ≤ most ∧ RdN q d R.t D' E ∧ L' = rdR p q v' most (.pointer (some ⟨pk, 0, none⟩)) :: D' :: E :: C' :: csC pk pl pd :: Cl :: Cd :: L)) →
      ∃ L2, (∀ w, Holds w L' → Holds w L2) ∧ ((R.e ≠ 0 ∧ r = Value.int .i64 (R.e : Int) ∧ L2 = L) ∨ (R.e = 0 ∧ r = .int .i64 0 ∧ ∃ v' D' C' kn' K', KnD kn' K' ∧ Ow 5 1 v' R.out.length (bsv R.out) C' ∧ R.out.length ≤ most ∧ RdN q d R.t D' E ∧ L2 = rdR p q v' most kn' :: D' :: E :: C' :: K' :: L)) := by
    intro r L' pk pl pd Cl Cd hCl hCd hp
    rcases hp with ⟨h1, rfl, e⟩ | ⟨h1, rfl, v', D', C', ho', hl', hr', rfl⟩
    · exact ⟨L', fun w h => h, .inl ⟨h1, rfl, e⟩⟩
    · refine ⟨rdR p q v' most (.pointer (some ⟨pk, 0, none⟩)) :: D' :: E :: C' :: (csC pk pl pd ++ (Cl ++ Cd)) :: L, fun w h => ?_, .inr ⟨h1, rfl, v', D', C', _, _, .inr ⟨pk, pl, pd, Cl, Cd, rfl, rfl, hCl, hCd⟩, ho', hl', hr', rfl⟩⟩
      simpa [Holds, List.append_assoc] using h
  rcases hkn with ⟨rfl, rfl⟩ | ⟨pk, pl, pd, Cl, Cd, rfl, rfl, hCl, hCd⟩
  · refine Gv.of_body Tryd.func46 rfl rfl ?_
    unfold rdR
    (repeat' (first | (show WL _ _ _ _ _ _ _; first | refine jA ?_ | refine jB ?_ | refine jC ?_ | refine jD ?_ | refine jE ?_ | refine jF ?_) | (show OW _ _ _ _ _ _; first | refine OW_E ?_ | refine jI ?_ | refine jJ ?_ | refine jK (fun bk => ?_) | refine jL (fun bk => ?_)) | (show WC _ _ _ _ _ _; first | refine jM ?_ | refine jN ?_ | refine jO ?_ | refine jP ?_ | refine jR ?_ | refine jS ?_ | refine jT ?_ | refine jU ?_) | (show WQ _ _ _ _; with_reducible first | refine jV ?_ | refine jW ?_ | refine jX ?_ | refine jY ?_ | refine jZ ?_ | refine kA ?_ | refine kB ?_ | refine kC ?_) | ((first | (refine jG (fun hc => ?_) (fun hc => ?_) <;> rw [hc]) | refine jQ (fun hc => ?_) (fun hc => ?_)) <;> (try simp only [nrB] at hc) <;> (try (exfalso; first | omega | exact hc trivial | exact hc rfl)))))
    refine OW_call rfl rfl rfl (fixedLengths_n _) rfl (fun r L' hp => ?_)
    obtain ⟨u1, u2, C1, C2, rfl, rfl, o1, o2⟩ := hp
    obtain ⟨a1, c1, rfl⟩ := ow_slc o1
    obtain ⟨a2, c2, rfl⟩ := ow_slc o2
    (repeat' (first | (show WL _ _ _ _ _ _ _; first | refine jA ?_ | refine jB ?_ | refine jC ?_ | refine jD ?_ | refine jE ?_ | refine jF ?_) | (show OW _ _ _ _ _ _; first | refine OW_E ?_ | refine jI ?_ | refine jJ ?_ | refine jK (fun bk => ?_) | refine jL (fun bk => ?_)) | (show WC _ _ _ _ _ _; first | refine jM ?_ | refine jN ?_ | refine jO ?_ | refine jP ?_ | refine jR ?_ | refine jS ?_ | refine jT ?_ | refine jU ?_) | (show WQ _ _ _ _; with_reducible first | refine jV ?_ | refine jW ?_ | refine jX ?_ | refine jY ?_ | refine jZ ?_ | refine kA ?_ | refine kB ?_ | refine kC ?_) | ((first | (refine jG (fun hc => ?_) (fun hc => ?_) <;> rw [hc]) | refine jQ (fun hc => ?_) (fun hc => ?_)) <;> (try simp only [nrB] at hc) <;> (try (exfalso; first | omega | exact hc trivial | exact hc rfl)))))
    have hco := codesOf_n a1 a2 c1 c2 fxL fxD (C2 :: C1 :: rdR p q (.slice va s.out.length vc) most (.pointer none) :: D :: E :: C :: [] :: L) (by rw [fxL_len]; exact sl_there (ow_sl o1)) fxL_15 (by decide) (by rw [fxD_len]; exact ow_sl o2) fxD_15 (by decide)
    rw [fxL_len, fxD_len] at hco
    unfold rdR at hco
    refine OW_call rfl rfl rfl hco rfl (fun r L' hp => ?_)
    rcases hp with ⟨h1, _⟩ | ⟨_, pk, pl, pd, Cl, Cd, rfl, rfl, hCl, hCd⟩
    · exact absurd ⟨fxL_kS, .inl fxD_kS⟩ h1
    have hcd := hcd pk pl pd Cl Cd hCl hCd
    unfold rdR at hcd
    (repeat' (first | (show WL _ _ _ _ _ _ _; first | refine jA ?_ | refine jB ?_ | refine jC ?_ | refine jD ?_ | refine jE ?_ | refine jF ?_) | (show OW _ _ _ _ _ _; first | refine OW_E ?_ | refine jI ?_ | refine jJ ?_ | refine jK (fun bk => ?_) | refine jL (fun bk => ?_)) | (show WC _ _ _ _ _ _; first | refine jM ?_ | refine jN ?_ | refine jO ?_ | refine jP ?_ | refine jR ?_ | refine jS ?_ | refine jT ?_ | refine jU ?_) | (show WQ _ _ _ _; with_reducible first | refine jV ?_ | refine jW ?_ | refine jX ?_ | refine jY ?_ | refine jZ ?_ | refine kA ?_ | refine kB ?_ | refine kC ?_) | ((first | (refine jG (fun hc => ?_) (fun hc => ?_) <;> rw [hc]) | refine jQ (fun hc => ?_) (fun hc => ?_)) <;> (try simp only [nrB] at hc) <;> (try (exfalso; first | omega | exact hc trivial | exact hc rfl)))))
    refine OW_call rfl rfl rfl (Gv.holds hcd (fun w h => iH h)) rfl (fun r L' hp => ?_)
    have hf := hfin r L' pk pl pd Cl Cd hCl hCd hp
    obtain ⟨L2, hL2, hp2⟩ := hf
    (repeat' (first | (show WL _ _ _ _ _ _ _; first | refine jA ?_ | refine jB ?_ | refine jC ?_ | refine jD ?_ | refine jE ?_ | refine jF ?_) | (show OW _ _ _ _ _ _; first | refine OW_E ?_ | refine jI ?_ | refine jJ ?_ | refine jK (fun bk => ?_) | refine jL (fun bk => ?_)) | (show WC _ _ _ _ _ _; first | refine jM ?_ | refine jN ?_ | refine jO ?_ | refine jP ?_ | refine jR ?_ | refine jS ?_ | refine jT ?_ | refine jU ?_) | (show WQ _ _ _ _; with_reducible first | refine jV ?_ | refine jW ?_ | refine jX ?_ | refine jY ?_ | refine jZ ?_ | refine kA ?_ | refine kB ?_ | refine kC ?_) | ((first | (refine jG (fun hc => ?_) (fun hc => ?_) <;> rw [hc]) | refine jQ (fun hc => ?_) (fun hc => ?_)) <;> (try simp only [nrB] at hc) <;> (try (exfalso; first | omega | exact hc trivial | exact hc rfl)))))
    first | refine WQ_retH rfl rfl ?_ | refine WQ_endH rfl rfl ?_
    exact ⟨L2, hL2, hp2⟩
  · refine Gv.holds (L' := rdR p q (.slice va s.out.length vc) most (.pointer (some ⟨pk, 0, none⟩)) :: D :: E :: C :: csC pk pl pd :: Cl :: Cd :: L) ?_ (fun w h => by simpa [Holds, List.append_assoc] using h)
    refine Gv.of_body Tryd.func46 rfl rfl ?_
    have hcd := hcd pk pl pd Cl Cd hCl hCd
    unfold rdR at hcd ⊢
    (repeat' (first | (show WL _ _ _ _ _ _ _; first | refine jA ?_ | refine jB ?_ | refine jC ?_ | refine jD ?_ | refine jE ?_ | refine jF ?_) | (show OW _ _ _ _ _ _; first | refine OW_E ?_ | refine jI ?_ | refine jJ ?_ | refine jK (fun bk => ?_) | refine jL (fun bk => ?_)) | (show WC _ _ _ _ _ _; first | refine jM ?_ | refine jN ?_ | refine jO ?_ | refine jP ?_ | refine jR ?_ | refine jS ?_ | refine jT ?_ | refine jU ?_) | (show WQ _ _ _ _; with_reducible first | refine jV ?_ | refine jW ?_ | refine jX ?_ | refine jY ?_ | refine jZ ?_ | refine kA ?_ | refine kB ?_ | refine kC ?_) | ((first | (refine jG (fun hc => ?_) (fun hc => ?_) <;> rw [hc]) | refine jQ (fun hc => ?_) (fun hc => ?_)) <;> (try simp only [nrB] at hc) <;> (try (exfalso; first | omega | exact hc trivial | exact hc rfl)))))
    refine OW_call rfl rfl rfl hcd rfl (fun r L' hp => ?_)
    have hf := hfin r L' pk pl pd Cl Cd hCl hCd hp
    obtain ⟨L2, hL2, hp2⟩ := hf
    (repeat' (first | (show WL _ _ _ _ _ _ _; first | refine jA ?_ | refine jB ?_ | refine jC ?_ | refine jD ?_ | refine jE ?_ | refine jF ?_) | (show OW _ _ _ _ _ _; first | refine OW_E ?_ | refine jI ?_ | refine jJ ?_ | refine jK (fun bk => ?_) | refine jL (fun bk => ?_)) | (show WC _ _ _ _ _ _; first | refine jM ?_ | refine jN ?_ | refine jO ?_ | refine jP ?_ | refine jR ?_ | refine jS ?_ | refine jT ?_ | refine jU ?_) | (show WQ _ _ _ _; with_reducible first | refine jV ?_ | refine jW ?_ | refine jX ?_ | refine jY ?_ | refine jZ ?_ | refine kA ?_ | refine kB ?_ | refine kC ?_) | ((first | (refine jG (fun hc => ?_) (fun hc => ?_) <;> rw [hc]) | refine jQ (fun hc => ?_) (fun hc => ?_)) <;> (try simp only [nrB] at hc) <;> (try (exfalso; first | omega | exact hc trivial | exact hc rfl)))))
    first | refine WQ_retH rfl rfl ?_ | refine WQ_endH rfl rfl ?_
    exact ⟨L2, hL2, hp2⟩
end Go.Proofs.YtkiaegkojlhaeaaDoor
