/- The document's own answer for layer 6: matches. It proves no statement by itself. No conditions. -/
import Derived.Test.YtkiaegkojlhaeaaDoorId
import Derived.Test.YtkiaegkojlhaeaaDoorVi
import Derived.Test.YtkiaegkojlhaeaaDoorVj
import Derived.Test.YtkiaegkojlhaeaaDoorVk
namespace Go.Proofs.YtkiaegkojlhaeaaDoor
open Go Go.Vx Go.Hf Go.If
variable [W0]
set_option maxRecDepth 4000
set_option linter.all false

set_option maxHeartbeats 16000000 in
theorem wmatch_n (p q most k : Nat) (v : Value) (a : Option Addr) (c : Nat) (dl : List Nat) (fa : Option Addr) (fc : Nat) (d : List UInt8) (s : S6) (C : Chunk) (L : List Chunk) (hd : Sl L 1 (.slice a dl.length c) dl.length (intsN (icn dl))) (hok : cdE (icn dl) = 0)
    (hv : Sl L 1 (.slice fa d.length fc) d.length (bsv d)) (hl : d.length ≤ 1000000) (ht : s.t ≤ 8 * d.length) (hm : most ≤ 1000000) (ho : Ow 5 1 v s.out.length (bsv s.out) C) (hk1 : 257 ≤ k) (hk2 : k ≤ 1000) :
    Gv Tryd.prog 38 [.pointer (some ⟨p, 0, none⟩), .int .i64 (k : Int), .slice a dl.length c].toArray (wkC p q v most s.e :: biC q fa d.length fc s.t :: C :: L) (fun r L' =>
      ∃ v' C', r = .tuple #[] ∧ Ow 5 1 v' (mtS d most k dl s).out.length (bsv (mtS d most k dl s).out) C' ∧ L' = wkC p q v' most (mtS d most k dl s).e :: biC q fa d.length fc (mtS d most k dl s).t :: C' :: L ∧ (mtS d most k dl s).t ≤ 8 * d.length) := by
  refine Gv.of_body Tryd.func38 rfl rfl ?_
  have hil : (icn dl).length = dl.length := icn_length dl
  by_cases h285 : 285 < k
  · have hf := wfail_n p q most 3 s.e v (biC q fa d.length fc s.t :: C :: L)
    unfold mtS
    simp only [if_pos h285, fl_e, fl_t, fl_out]
    (repeat' (first | (show WL _ _ _ _ _ _ _; first | refine jA ?_ | refine jB ?_ | refine jC ?_ | refine jD ?_ | refine jE ?_ | refine jF ?_) | (show OW _ _ _ _ _ _; first | refine OW_E ?_ | refine jI ?_ | refine jJ ?_ | refine jK (fun bk => ?_) | refine jL (fun bk => ?_)) | (show WC _ _ _ _ _ _; first | refine jM ?_ | refine jN ?_ | refine jO ?_ | refine jP ?_ | refine jR ?_ | refine jS ?_ | refine jT ?_ | refine jU ?_) | (show WQ _ _ _ _; with_reducible first | refine jV ?_ | refine jW ?_ | refine jX ?_ | refine jY ?_ | refine jZ ?_ | refine kA ?_ | refine kB ?_ | refine kC ?_) | ((first | (refine jG (fun hc => ?_) (fun hc => ?_) <;> rw [hc]) | refine jQ (fun hc => ?_) (fun hc => ?_)) <;> (try simp only [nrB] at hc) <;> (try (exfalso; first | omega | exact hc trivial | exact hc rfl)))))
    refine OW_call rfl rfl rfl hf rfl (fun r L' hp => ?_)
    obtain ⟨rfl, rfl⟩ := hp
    (repeat' (first | (show WL _ _ _ _ _ _ _; first | refine jA ?_ | refine jB ?_ | refine jC ?_ | refine jD ?_ | refine jE ?_ | refine jF ?_) | (show OW _ _ _ _ _ _; first | refine OW_E ?_ | refine jI ?_ | refine jJ ?_ | refine jK (fun bk => ?_) | refine jL (fun bk => ?_)) | (show WC _ _ _ _ _ _; first | refine jM ?_ | refine jN ?_ | refine jO ?_ | refine jP ?_ | refine jR ?_ | refine jS ?_ | refine jT ?_ | refine jU ?_) | (show WQ _ _ _ _; with_reducible first | refine jV ?_ | refine jW ?_ | refine jX ?_ | refine jY ?_ | refine jZ ?_ | refine kA ?_ | refine kB ?_ | refine kC ?_) | ((first | (refine jG (fun hc => ?_) (fun hc => ?_) <;> rw [hc]) | refine jQ (fun hc => ?_) (fun hc => ?_)) <;> (try simp only [nrB] at hc) <;> (try (exfalso; first | omega | exact hc trivial | exact hc rfl)))))
    (first | refine WQ_retI rfl rfl ?_ | refine WQ_endI rfl rfl ?_)
    exact ⟨_, iC, v, C, rfl, ho, rfl, ht⟩
  have hms : mtS d most k dl s = if (sy d (tk d s (lnB k).2) dl).e ≠ 0 then sy d (tk d s (lnB k).2) dl
      else if 29 < sv d (tk d s (lnB k).2) dl then fl (sy d (tk d s (lnB k).2) dl) 3
      else mtD d most ((lnB k).1 + tv d s (lnB k).2) (sv d (tk d s (lnB k).2) dl) (sy d (tk d s (lnB k).2) dl) := by
    unfold mtS
    rw [if_neg h285]
  rw [hms]
  clear hms
  have hb0 := base_n 3 (k - 257) 4 8 20 (wkC p q v most s.e :: biC q fa d.length fc s.t :: C :: L) (by omega) (by omega) (by omega) (by omega) (fun i hi => Nat.le_trans (exL_le i (by omega)) (by decide))
  have hbl := baL_le (k - 257) (by omega)
  have hxl := exL_le (k - 257) (by omega)
  obtain ⟨n0, hn0⟩ : ∃ n0, n0 = (lnB k).1 := ⟨_, rfl⟩
  obtain ⟨mo, hmo⟩ : ∃ mo, mo = (lnB k).2 := ⟨_, rfl⟩
  rw [← hn0, ← hmo]
  have hn400 : n0 ≤ 400 ∧ mo ≤ 6 ∧ (k = 285 → n0 = 258 ∧ mo = 0) ∧ (k ≠ 285 → n0 = baB 3 4 8 (k - 257) ∧ mo = exB (k - 257) 4 8) := by
    rw [hn0, hmo]
    unfold lnB
    split
    · exact ⟨by simp, by simp, fun _ => ⟨rfl, rfl⟩, fun h => by omega⟩
    · exact ⟨hbl, hxl, fun h => by omega, fun _ => ⟨rfl, rfl⟩⟩
  obtain ⟨hq1, hq2, hq3, hq4⟩ := hn400
  (repeat' (first | (show WL _ _ _ _ _ _ _; first | refine jA ?_ | refine jB ?_ | refine jC ?_ | refine jD ?_ | refine jE ?_ | refine jF ?_) | (show OW _ _ _ _ _ _; first | refine OW_E ?_ | refine jI ?_ | refine jJ ?_ | refine jK (fun bk => ?_) | refine jL (fun bk => ?_)) | (show WC _ _ _ _ _ _; first | refine jM ?_ | refine jN ?_ | refine jO ?_ | refine jP ?_ | refine jR ?_ | refine jS ?_ | refine jT ?_ | refine jU ?_) | (show WQ _ _ _ _; with_reducible first | refine jV ?_ | refine jW ?_ | refine jX ?_ | refine jY ?_ | refine jZ ?_ | refine kA ?_ | refine kB ?_ | refine kC ?_) | ((first | (refine jG (fun hc => ?_) (fun hc => ?_) <;> rw [hc]) | refine jQ (fun hc => ?_) (fun hc => ?_)) <;> (try simp only [nrB] at hc) <;> (try (exfalso; first | omega | exact hc trivial | exact hc rfl)))))
  rw [show (k : Int) - 257 = ((k - 257 : Nat) : Int) from by omega]
  refine OW_callP rfl rfl rfl hb0 rfl ?_
  (repeat' (first | (show WL _ _ _ _ _ _ _; first | refine jA ?_ | refine jB ?_ | refine jC ?_ | refine jD ?_ | refine jE ?_ | refine jF ?_) | (show OW _ _ _ _ _ _; first | refine OW_E ?_ | refine jI ?_ | refine jJ ?_ | refine jK (fun bk => ?_) | refine jL (fun bk => ?_)) | (show WC _ _ _ _ _ _; first | refine jN ?_ | refine jO ?_ | refine jP ?_ | refine jR ?_ | refine jS ?_ | refine jT ?_ | refine jU ?_) | (show WQ _ _ _ _; with_reducible first | refine jV ?_ | refine jW ?_ | refine jX ?_ | refine jY ?_ | refine jZ ?_ | refine kA ?_ | refine kB ?_ | refine kC ?_) | ((first | (refine jG (fun hc => ?_) (fun hc => ?_) <;> rw [hc]) | refine jQ (fun hc => ?_) (fun hc => ?_)) <;> (try simp only [nrB] at hc) <;> (try (exfalso; first | omega | exact hc trivial | exact hc rfl)))))
  refine WC_cut (X := Unit) (fun _ => [(0, .pointer (some ⟨p, 0, none⟩)), (2, .slice a dl.length c), (6, .int .i64 (n0 : Int)), (7, .int .i64 (mo : Int))]) (fun _ => wkC p q v most s.e :: biC q fa d.length fc s.t :: C :: L) (fun _ => True) ?_ ?_
  · (repeat' (first | (show WL _ _ _ _ _ _ _; first | refine jA ?_ | refine jB ?_ | refine jC ?_ | refine jD ?_ | refine jE ?_ | refine jF ?_) | (show OW _ _ _ _ _ _; first | refine OW_E ?_ | refine jI ?_ | refine jJ ?_ | refine jK (fun bk => ?_) | refine jL (fun bk => ?_)) | (show WC _ _ _ _ _ _; first | refine jM ?_ | refine jN ?_ | refine jO ?_ | refine jP ?_ | refine jR ?_ | refine jS ?_ | refine jT ?_ | refine jU ?_) | (show WQ _ _ _ _; with_reducible first | refine jV ?_ | refine jW ?_ | refine jX ?_ | refine jY ?_ | refine jZ ?_ | refine kA ?_ | refine kB ?_ | refine kC ?_) | ((first | (refine jG (fun hc => ?_) (fun hc => ?_) <;> rw [hc]) | refine jQ (fun hc => ?_) (fun hc => ?_)) <;> (try simp only [nrB] at hc) <;> (try (exfalso; first | omega | exact hc trivial | exact hc rfl)))))
    · obtain ⟨rfl, rfl⟩ := hq3 (by omega)
      exact WQ_cut () trivial (by repeat (first | exact Sub.nil | refine Sub.cons rfl ?_ | refine Sub.cons (lk_int rfl (by first | omega | (dsimp only; omega))) ?_)) (fun w h => h)
    · obtain ⟨e1, e2⟩ := hq4 (by omega)
      rw [← e1, ← e2]
      exact WQ_cut () trivial (by repeat (first | exact Sub.nil | refine Sub.cons rfl ?_ | refine Sub.cons (lk_int rfl (by first | omega | (dsimp only; omega))) ?_)) (fun w h => h)
  intro _ _
  clear hb0 hbl hxl hq3 hq4 hn0 hmo
  have ht1 := wtake_n p q most mo v fa fc d s (C :: L) (sl_there hv) (by omega) ht (by omega)
  have hs1 := fun h => wsym_n p q most v a c (icn dl) fa fc d (tk d s mo) (C :: L) (by rw [hil]; exact sl_there hd) hok (sl_there hv) (by omega) h
  rw [hil, nl_icn] at hs1
  have htv := tv_lt d s mo
  have hto := tk_out d s mo
  have hpw : 2 ^ mo ≤ 2 ^ 6 := Nat.pow_le_pow_right (by decide) hq2
  obtain ⟨n, hn⟩ : ∃ n, n = n0 + tv d s mo := ⟨_, rfl⟩
  rw [← hn]
  generalize hz : tv d s mo = z at ht1 htv hn
  generalize tk d s mo = s1 at ht1 hs1 hto ⊢
  rw [← hto] at ho
  (repeat' (first | (show WL _ _ _ _ _ _ _; first | refine jA ?_ | refine jB ?_ | refine jC ?_ | refine jD ?_ | refine jE ?_ | refine jF ?_) | (show OW _ _ _ _ _ _; first | refine OW_E ?_ | refine jI ?_ | refine jJ ?_ | refine jK (fun bk => ?_) | refine jL (fun bk => ?_)) | (show WC _ _ _ _ _ _; first | refine jM ?_ | refine jN ?_ | refine jO ?_ | refine jP ?_ | refine jR ?_ | refine jS ?_ | refine jT ?_ | refine jU ?_) | (show WQ _ _ _ _; with_reducible first | refine jV ?_ | refine jW ?_ | refine jX ?_ | refine jY ?_ | refine jZ ?_ | refine kA ?_ | refine kB ?_ | refine kC ?_) | ((first | (refine jG (fun hc => ?_) (fun hc => ?_) <;> rw [hc]) | refine jQ (fun hc => ?_) (fun hc => ?_)) <;> (try simp only [nrB] at hc) <;> (try (exfalso; first | omega | exact hc trivial | exact hc rfl)))))
  refine OW_call rfl rfl rfl ht1 rfl (fun r L' hp => ?_)
  obtain ⟨rfl, rfl, hb1⟩ := hp
  (repeat' (first | (show WL _ _ _ _ _ _ _; first | refine jA ?_ | refine jB ?_ | refine jC ?_ | refine jD ?_ | refine jE ?_ | refine jF ?_) | (show OW _ _ _ _ _ _; first | refine OW_E ?_ | refine jI ?_ | refine jJ ?_ | refine jK (fun bk => ?_) | refine jL (fun bk => ?_)) | (show WC _ _ _ _ _ _; first | refine jM ?_ | refine jN ?_ | refine jO ?_ | refine jP ?_ | refine jR ?_ | refine jS ?_ | refine jT ?_ | refine jU ?_) | (show WQ _ _ _ _; with_reducible first | refine jV ?_ | refine jW ?_ | refine jX ?_ | refine jY ?_ | refine jZ ?_ | refine kA ?_ | refine kB ?_ | refine kC ?_) | ((first | (refine jG (fun hc => ?_) (fun hc => ?_) <;> rw [hc]) | refine jQ (fun hc => ?_) (fun hc => ?_)) <;> (try simp only [nrB] at hc) <;> (try (exfalso; first | omega | exact hc trivial | exact hc rfl)))))
  rw [show (n0 : Int) + (z : Int) = (n : Int) from by omega]
  refine OW_call rfl rfl rfl (hs1 hb1) rfl (fun r L' hp => ?_)
  obtain ⟨rfl, rfl, hb2⟩ := hp
  have hw1 : ∀ v e (L : List Chunk), wkC p q v most e :: L = [(p, cl [.pointer (some ⟨q, 0, none⟩), v, .int .i64 (most : Int), .int .i64 (e : Int)] 55)] :: L := fun _ _ _ => rfl
  have hso := sy_out d s1 dl
  generalize sv d s1 dl = t
  generalize sy d s1 dl = s2 at hb2 hso ⊢
  rw [← hso] at ho
  clear hs1 ht1
  rw [hw1]
  (repeat' (first | (show WL _ _ _ _ _ _ _; first | refine jA ?_ | refine jB ?_ | refine jC ?_ | refine jD ?_ | refine jE ?_ | refine jF ?_) | (show OW _ _ _ _ _ _; first | refine OW_E ?_ | refine jI ?_ | refine jJ ?_ | refine jK (fun bk => ?_) | refine jL (fun bk => ?_)) | (show WC _ _ _ _ _ _; first | refine jM ?_ | refine jN ?_ | refine jO ?_ | refine jP ?_ | refine jR ?_ | refine jS ?_ | refine jT ?_ | refine jU ?_) | (show WQ _ _ _ _; with_reducible first | refine jV ?_ | refine jW ?_ | refine jX ?_ | refine jY ?_ | refine jZ ?_ | refine kA ?_ | refine kB ?_ | refine kC ?_) | ((first | (refine jG (fun hc => ?_) (fun hc => ?_) <;> rw [hc]) | refine jQ (fun hc => ?_) (fun hc => ?_)) <;> (try simp only [nrB] at hc) <;> (try (exfalso; first | omega | exact hc trivial | exact hc rfl)))))
  · rw [if_pos (show s2.e ≠ 0 by omega)]
    (first | refine WQ_retI rfl rfl ?_ | refine WQ_endI rfl rfl ?_)
    exact ⟨_, iC, v, C, rfl, ho, rfl, hb2⟩
  · rw [if_neg (show ¬ s2.e ≠ 0 by omega), if_pos (show 29 < t by omega)]
    have hf := wfail_n p q most 3 s2.e v (biC q fa d.length fc s2.t :: C :: L)
    simp only [fl_e, fl_t, fl_out]
    refine OW_call rfl rfl rfl hf rfl (fun r L' hp => ?_)
    obtain ⟨rfl, rfl⟩ := hp
    (repeat' (first | (show WL _ _ _ _ _ _ _; first | refine jA ?_ | refine jB ?_ | refine jC ?_ | refine jD ?_ | refine jE ?_ | refine jF ?_) | (show OW _ _ _ _ _ _; first | refine OW_E ?_ | refine jI ?_ | refine jJ ?_ | refine jK (fun bk => ?_) | refine jL (fun bk => ?_)) | (show WC _ _ _ _ _ _; first | refine jM ?_ | refine jN ?_ | refine jO ?_ | refine jP ?_ | refine jR ?_ | refine jS ?_ | refine jT ?_ | refine jU ?_) | (show WQ _ _ _ _; with_reducible first | refine jV ?_ | refine jW ?_ | refine jX ?_ | refine jY ?_ | refine jZ ?_ | refine kA ?_ | refine kB ?_ | refine kC ?_) | ((first | (refine jG (fun hc => ?_) (fun hc => ?_) <;> rw [hc]) | refine jQ (fun hc => ?_) (fun hc => ?_)) <;> (try simp only [nrB] at hc) <;> (try (exfalso; first | omega | exact hc trivial | exact hc rfl)))))
    (first | refine WQ_retI rfl rfl ?_ | refine WQ_endI rfl rfl ?_)
    exact ⟨_, iC, v, C, rfl, ho, rfl, hb2⟩
  rw [if_neg (show ¬ s2.e ≠ 0 by omega), if_neg (show ¬ 29 < t by omega)]
  have hb0 := base_n 1 t 2 4 20 (wkC p q v most s2.e :: biC q fa d.length fc s2.t :: C :: L) (by omega) (by omega) (by omega) (by omega) (fun i hi => Nat.le_trans (exB_le i (by omega)) (by decide))
  have hbl := baB_le t (by omega)
  have hxl := exB_le t (by omega)
  have hbp := baB_pos t
  unfold mtD
  generalize baB 1 2 4 t = f0 at hb0 hbl hbp ⊢
  generalize exB t 2 4 = mo at hb0 hxl ⊢
  have ht1 := wtake_n p q most mo v fa fc d s2 (C :: L) (sl_there hv) (by omega) hb2 (by omega)
  have htv := tv_lt d s2 mo
  have hto := tk_out d s2 mo
  have hpw : 2 ^ mo ≤ 2 ^ 13 := Nat.pow_le_pow_right (by decide) hxl
  obtain ⟨far, hfar⟩ : ∃ far, far = f0 + tv d s2 mo := ⟨_, rfl⟩
  rw [← hfar]
  generalize tv d s2 mo = z2 at ht1 htv hfar
  generalize tk d s2 mo = s3 at ht1 hto ⊢
  rw [← hto] at ho
  refine OW_callP rfl rfl rfl hb0 rfl ?_
  (repeat' (first | (show WL _ _ _ _ _ _ _; first | refine jA ?_ | refine jB ?_ | refine jC ?_ | refine jD ?_ | refine jE ?_ | refine jF ?_) | (show OW _ _ _ _ _ _; first | refine OW_E ?_ | refine jI ?_ | refine jJ ?_ | refine jK (fun bk => ?_) | refine jL (fun bk => ?_)) | (show WC _ _ _ _ _ _; first | refine jM ?_ | refine jN ?_ | refine jO ?_ | refine jP ?_ | refine jR ?_ | refine jS ?_ | refine jT ?_ | refine jU ?_) | (show WQ _ _ _ _; with_reducible first | refine jV ?_ | refine jW ?_ | refine jX ?_ | refine jY ?_ | refine jZ ?_ | refine kA ?_ | refine kB ?_ | refine kC ?_) | ((first | (refine jG (fun hc => ?_) (fun hc => ?_) <;> rw [hc]) | refine jQ (fun hc => ?_) (fun hc => ?_)) <;> (try simp only [nrB] at hc) <;> (try (exfalso; first | omega | exact hc trivial | exact hc rfl)))))
  refine OW_call rfl rfl rfl ht1 rfl (fun r L' hp => ?_)
  obtain ⟨rfl, rfl, hb3⟩ := hp
  (repeat' (first | (show WL _ _ _ _ _ _ _; first | refine jA ?_ | refine jB ?_ | refine jC ?_ | refine jD ?_ | refine jE ?_ | refine jF ?_) | (show OW _ _ _ _ _ _; first | refine OW_E ?_ | refine jI ?_ | refine jJ ?_ | refine jK (fun bk => ?_) | refine jL (fun bk => ?_)) | (show WC _ _ _ _ _ _; first | refine jN ?_ | refine jO ?_ | refine jP ?_ | refine jR ?_ | refine jS ?_ | refine jT ?_ | refine jU ?_) | (show WQ _ _ _ _; with_reducible first | refine jV ?_ | refine jW ?_ | refine jX ?_ | refine jY ?_ | refine jZ ?_ | refine kA ?_ | refine kB ?_ | refine kC ?_) | ((first | (refine jG (fun hc => ?_) (fun hc => ?_) <;> rw [hc]) | refine jQ (fun hc => ?_) (fun hc => ?_)) <;> (try simp only [nrB] at hc) <;> (try (exfalso; first | omega | exact hc trivial | exact hc rfl)))))
  rw [show (f0 : Int) + (z2 : Int) = (far : Int) from by omega]
  (repeat' (first | (show WL _ _ _ _ _ _ _; first | refine jA ?_ | refine jB ?_ | refine jC ?_ | refine jD ?_ | refine jE ?_ | refine jF ?_) | (show OW _ _ _ _ _ _; first | refine OW_E ?_ | refine jI ?_ | refine jJ ?_ | refine jK (fun bk => ?_) | refine jL (fun bk => ?_)) | (show WC _ _ _ _ _ _; first | refine jN ?_ | refine jO ?_ | refine jP ?_ | refine jR ?_ | refine jS ?_ | refine jT ?_ | refine jU ?_) | (show WQ _ _ _ _; with_reducible first | refine jV ?_ | refine jW ?_ | refine jX ?_ | refine jY ?_ | refine jZ ?_ | refine kA ?_ | refine kB ?_ | refine kC ?_) | ((first | (refine jG (fun hc => ?_) (fun hc => ?_) <;> rw [hc]) | refine jQ (fun hc => ?_) (fun hc => ?_)) <;> (try simp only [nrB] at hc) <;> (try (exfalso; first | omega | exact hc trivial | exact hc rfl)))))
  obtain ⟨s4, hs4⟩ : ∃ s4, s4 = if s3.e = 0 ∧ s3.out.length < far then fl s3 3 else s3 := ⟨_, rfl⟩
  rw [← hs4]
  obtain ⟨va, vc, rfl⟩ := ow_slc ho
  have h4t : s4.t = s3.t := by rw [hs4]; split; exact fl_t _ _; rfl
  have h4o : s4.out = s3.out := by rw [hs4]; split; exact fl_out _ _; rfl
  have h4e : s4.e = if s3.e = 0 ∧ s3.out.length < far then 3 else s3.e := by
    rw [hs4]
    split
    · rename_i h; rw [fl_e, if_pos h.1]
    · rfl
  have h4f : s4.e = 0 → far ≤ s4.out.length := by
    intro h
    rw [h4o]
    rw [h4e] at h
    split at h
    · cases h
    · omega
  refine WC_cut (X := Unit) (fun _ => [(0, .pointer (some ⟨p, 0, none⟩)), (6, .int .i64 (n : Int)), (9, .int .i64 (far : Int))]) (fun _ => wkC p q (.slice va s3.out.length vc) most s4.e :: biC q fa d.length fc s4.t :: C :: L) (fun _ => True) ?_ ?_
  · have hf := wfail_n p q most 3 s3.e (.slice va s3.out.length vc) (biC q fa d.length fc s3.t :: C :: L)
    rw [h4t, hw1, h4e]
    (repeat' (first | (show WL _ _ _ _ _ _ _; first | refine jA ?_ | refine jB ?_ | refine jC ?_ | refine jD ?_ | refine jE ?_ | refine jF ?_) | (show OW _ _ _ _ _ _; first | refine OW_E ?_ | refine jI ?_ | refine jJ ?_ | refine jK (fun bk => ?_) | refine jL (fun bk => ?_)) | (show WC _ _ _ _ _ _; first | refine jM ?_ | refine jN ?_ | refine jO ?_ | refine jP ?_ | refine jR ?_ | refine jS ?_ | refine jT ?_ | refine jU ?_) | (show WQ _ _ _ _; with_reducible first | refine jV ?_ | refine jW ?_ | refine jX ?_ | refine jY ?_ | refine jZ ?_ | refine kA ?_ | refine kB ?_ | refine kC ?_) | ((first | (refine jG (fun hc => ?_) (fun hc => ?_) <;> rw [hc]) | refine jQ (fun hc => ?_) (fun hc => ?_)) <;> (try simp only [nrB] at hc) <;> (try (exfalso; first | omega | exact hc trivial | exact hc rfl)))))
    · rw [if_pos (show s3.e = 0 ∧ s3.out.length < far by omega)]
      rw [if_pos (show s3.e = 0 by omega)] at hf
      refine OW_call rfl rfl rfl hf rfl (fun r L' hp => ?_)
      obtain ⟨rfl, rfl⟩ := hp
      (repeat' (first | (show WL _ _ _ _ _ _ _; first | refine jA ?_ | refine jB ?_ | refine jC ?_ | refine jD ?_ | refine jE ?_ | refine jF ?_) | (show OW _ _ _ _ _ _; first | refine OW_E ?_ | refine jI ?_ | refine jJ ?_ | refine jK (fun bk => ?_) | refine jL (fun bk => ?_)) | (show WC _ _ _ _ _ _; first | refine jM ?_ | refine jN ?_ | refine jO ?_ | refine jP ?_ | refine jR ?_ | refine jS ?_ | refine jT ?_ | refine jU ?_) | (show WQ _ _ _ _; with_reducible first | refine jV ?_ | refine jW ?_ | refine jX ?_ | refine jY ?_ | refine jZ ?_ | refine kA ?_ | refine kB ?_ | refine kC ?_) | ((first | (refine jG (fun hc => ?_) (fun hc => ?_) <;> rw [hc]) | refine jQ (fun hc => ?_) (fun hc => ?_)) <;> (try simp only [nrB] at hc) <;> (try (exfalso; first | omega | exact hc trivial | exact hc rfl)))))
      exact WQ_cut () trivial (by repeat (first | exact Sub.nil | refine Sub.cons rfl ?_ | refine Sub.cons (lk_int rfl (by first | omega | (dsimp only; omega))) ?_)) (fun w h => h)
    · rw [if_neg (show ¬ (s3.e = 0 ∧ s3.out.length < far) by omega)]
      exact WQ_cut () trivial (by repeat (first | exact Sub.nil | refine Sub.cons rfl ?_ | refine Sub.cons (lk_int rfl (by first | omega | (dsimp only; omega))) ?_)) (fun w h => h)
    · rw [if_neg (show ¬ (s3.e = 0 ∧ s3.out.length < far) by omega)]
      exact WQ_cut () trivial (by repeat (first | exact Sub.nil | refine Sub.cons rfl ?_ | refine Sub.cons (lk_int rfl (by first | omega | (dsimp only; omega))) ?_)) (fun w h => h)
  intro _ _
  have ho4 : Ow 5 1 (.slice va s3.out.length vc) s4.out.length (bsv s4.out) C := by rw [h4o]; exact ho
  rw [← h4t] at hb3
  clear hs4 h4e h4t h4o hb0 ht1
  (repeat' (first | (show WL _ _ _ _ _ _ _; first | refine jA ?_ | refine jB ?_ | refine jC ?_ | refine jD ?_ | refine jE ?_ | refine jF ?_) | (show OW _ _ _ _ _ _; first | refine OW_E ?_ | refine jI ?_ | refine jJ ?_ | refine jK (fun bk => ?_) | refine jL (fun bk => ?_)) | (show WC _ _ _ _ _ _; first | refine jM ?_ | refine jN ?_ | refine jO ?_ | refine jP ?_ | refine jR ?_ | refine jS ?_ | refine jT ?_ | refine jU ?_) | (show WQ _ _ _ _; with_reducible first | refine jV ?_ | refine jW ?_ | refine jX ?_ | refine jY ?_ | refine jZ ?_ | refine kA ?_ | refine kB ?_ | refine kC ?_) | ((first | (refine jG (fun hc => ?_) (fun hc => ?_) <;> rw [hc]) | refine jQ (fun hc => ?_) (fun hc => ?_)) <;> (try simp only [nrB] at hc) <;> (try (exfalso; first | omega | exact hc trivial | exact hc rfl)))))
  refine WC_loop (X := Nat × S6 × Value × Chunk) (fun x => [(0, .pointer (some ⟨p, 0, none⟩)), (6, .int .i64 (n : Int)), (9, .int .i64 (far : Int)), (11, .int .i64 (x.1 : Int))]) (fun x => wkC p q x.2.2.1 most x.2.1.e :: biC q fa d.length fc x.2.1.t :: x.2.2.2 :: L)
    (fun x => x.1 ≤ n ∧ x.2.1.t ≤ 8 * d.length ∧ Ow 5 1 x.2.2.1 x.2.1.out.length (bsv x.2.1.out) x.2.2.2 ∧ (x.2.1.e = 0 → far ≤ x.2.1.out.length) ∧ cpL most far n s4 = cpL most far (n - x.1) x.2.1) (fun x => n - x.1) (0, s4, .slice va s3.out.length vc, C) ⟨Nat.zero_le _, hb3, ho4, h4f, rfl⟩ (by repeat (first | exact Sub.nil | refine Sub.cons rfl ?_ | refine Sub.cons (lk_int rfl (by first | omega | (dsimp only; omega))) ?_)) (fun w h => h) ?_
  rintro ⟨i, s5, v1, C1⟩ ⟨hi, hst, hov, hfr, hsl⟩
  simp only at hi hst hov hfr hsl ⊢
  obtain ⟨wa, wc, rfl⟩ := ow_slc hov
  rw [hw1]
  (repeat' (first | (show WL _ _ _ _ _ _ _; first | refine jA ?_ | refine jB ?_ | refine jC ?_ | refine jD ?_ | refine jE ?_ | refine jF ?_) | (show OW _ _ _ _ _ _; first | refine OW_E ?_ | refine jI ?_ | refine jJ ?_ | refine jK (fun bk => ?_) | refine jL (fun bk => ?_)) | (show WC _ _ _ _ _ _; first | refine jM ?_ | refine jN ?_ | refine jO ?_ | refine jP ?_ | refine jR ?_ | refine jS ?_ | refine jT ?_ | refine jU ?_) | (show WQ _ _ _ _; with_reducible first | refine jV ?_ | refine jW ?_ | refine jX ?_ | refine jY ?_ | refine jZ ?_ | refine kA ?_ | refine kB ?_ | refine kC ?_) | ((first | (refine jG (fun hc => ?_) (fun hc => ?_) <;> rw [hc]) | refine jQ (fun hc => ?_) (fun hc => ?_)) <;> (try simp only [nrB] at hc) <;> (try (exfalso; first | omega | exact hc trivial | exact hc rfl)))))
  · have he0 : s5.e = 0 := by omega
    have hfr := hfr he0
    obtain ⟨k2, hk2⟩ : ∃ k2, n - i = k2 + 1 := ⟨n - i - 1, by omega⟩
    have hk3 : n - (i + 1) = k2 := by omega
    rw [hk2, cpL, if_pos he0] at hsl
    have hput := wput_n p q most (s5.out.getD (s5.out.length - far) 0) (.slice wa s5.out.length wc) s5 C1 (biC q fa d.length fc s5.t :: L) hov hm
    have hov2 := hov
    rcases hov2 with ⟨_, h1, _⟩ | ⟨b, cap, rest, hve, rfl, hxl, hrl, hmc, hcm⟩
    · omega
    injection hve with e1 e2 e3
    subst e1 e3
    clear e2
    have hcell : (bsv s5.out ++ rest).toArray[(s5.out.length - far) * 1]? = some (.int .u8 ((s5.out.getD (s5.out.length - far) 0).toNat : Int)) := by
      rw [Nat.mul_one]
      simpa using getE_app (r := rest) (bsv_get (l := s5.out) (i := s5.out.length - far) (b := s5.out.getD (s5.out.length - far) 0) (by simp [List.getD, show s5.out.length - far < s5.out.length from by omega]))
    have hlen : s5.out.length ≤ 9223372036854775807 := by simp [maxLen] at hcm; omega
    unfold wkC at hput
    refine WC_drawAll [14] mixed ?_
    (refine WR_t 0 ?_; refine WR_t 1 ?_; refine WR_t 2 ?_; refine WR_t 3 ?_; refine WR_t 4 ?_; refine WR_t 5 ?_; refine WR_t 6 ?_; refine WR_t 7 ?_; refine WR_t 8 ?_; refine WR_t 9 ?_; refine WR_t 10 ?_; refine WR_t 11 ?_)
    rw [show (s5.out.length : Int) - (far : Int) = ((s5.out.length - far : Nat) : Int) from by omega]
    (refine WR_take 12 rfl rfl (by kernel_rfl) (by repeat (first | with_reducible exact PO.body | with_reducible exact RP_po | with_reducible refine PO.then ?_ | with_reducible refine PO.block ?_)) iC (EV_indexAddr0 (j := s5.out.length - far) (len := s5.out.length) rfl rfl rfl (by omega)) (by rfl) ?_)
    (refine WR_take 13 rfl rfl (by kernel_rfl) (by repeat (first | with_reducible exact PO.body | with_reducible exact RP_po | with_reducible refine PO.then ?_ | with_reducible refine PO.block ?_)) iC (EV_load rfl (by exact Fnd.there (Fnd.there Fnd.here)) hcell) (by rfl) ?_)
    (refine WR_last 14 (by kernel_rfl) rfl rfl rfl ?_)
    refine OW_call rfl rfl rfl (Gv.holds hput (fun w h => iH h)) rfl (fun r L' hp => ?_)
    obtain ⟨v2, C2, rfl, ho3, rfl⟩ := hp
    (refine WR_done (by kernel_rfl) ?_)
    (repeat' (first | (show WL _ _ _ _ _ _ _; first | refine jA ?_ | refine jB ?_ | refine jC ?_ | refine jD ?_ | refine jE ?_ | refine jF ?_) | (show OW _ _ _ _ _ _; first | refine OW_E ?_ | refine jI ?_ | refine jJ ?_ | refine jK (fun bk => ?_) | refine jL (fun bk => ?_)) | (show WC _ _ _ _ _ _; first | refine jM ?_ | refine jN ?_ | refine jO ?_ | refine jP ?_ | refine jR ?_ | refine jS ?_ | refine jT ?_ | refine jU ?_) | (show WQ _ _ _ _; with_reducible first | refine jV ?_ | refine jW ?_ | refine jX ?_ | refine jY ?_ | refine jZ ?_ | refine kA ?_ | refine kB ?_ | refine kC ?_) | ((first | (refine jG (fun hc => ?_) (fun hc => ?_) <;> rw [hc]) | refine jQ (fun hc => ?_) (fun hc => ?_)) <;> (try simp only [nrB] at hc) <;> (try (exfalso; first | omega | exact hc trivial | exact hc rfl)))))
    have hptt := pt_t most s5 (s5.out.getD (s5.out.length - far) 0)
    have hpf : (pt most s5 (s5.out.getD (s5.out.length - far) 0)).e = 0 → far ≤ (pt most s5 (s5.out.getD (s5.out.length - far) 0)).out.length := by
      intro _
      unfold pt
      split
      · rw [fl_out]; exact hfr
      · simp; omega
    generalize pt most s5 (s5.out.getD (s5.out.length - far) 0) = s6 at hsl ho3 hptt hpf ⊢
    refine WQ_round (X := Nat × S6 × Value × Chunk) (μ := fun x => n - x.1) (x := (i, s5, .slice (some ⟨b, 0, none⟩) s5.out.length wc, [(b, cl (bsv s5.out ++ rest) 5)])) (i + 1, s6, v2, C2) (by simp only; omega) ⟨by simp only; omega, by simp only; rw [hptt]; exact hst, ho3, hpf, by simp only; rw [hk3]; exact hsl⟩ (by repeat (first | exact Sub.nil | refine Sub.cons rfl ?_ | refine Sub.cons (lk_int rfl (by first | omega | (dsimp only; omega))) ?_)) (fun w h => ?_)
    simp only [hptt]
    unfold wkC
    exact iH h
  · have he0 : ¬ s5.e = 0 := by omega
    obtain ⟨k2, hk2⟩ : ∃ k2, n - i = k2 + 1 := ⟨n - i - 1, by omega⟩
    rw [hk2, cpL, if_neg he0] at hsl
    rw [hsl]
    (first | refine WQ_retI rfl rfl ?_ | refine WQ_endI rfl rfl ?_)
    exact ⟨_, iC, _, C1, rfl, hov, rfl, hst⟩
  · rw [show n - i = 0 from by omega, cpL] at hsl
    rw [hsl]
    (first | refine WQ_retI rfl rfl ?_ | refine WQ_endI rfl rfl ?_)
    exact ⟨_, iC, _, C1, rfl, hov, rfl, hst⟩
end Go.Proofs.YtkiaegkojlhaeaaDoor
