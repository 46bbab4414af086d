/- The document's own answer for layer 6: the lengths of a block. It proves no statement by itself. No conditions. -/
import Derived.Test.YtkiaegkojlhaeaaDoorIf
import Derived.Test.YtkiaegkojlhaeaaDoorIt
namespace Go.Proofs.YtkiaegkojlhaeaaDoor
open Go Go.Vx Go.Hf Go.If
variable [W0]
set_option maxRecDepth 4000
set_option linter.all false
theorem ivn_icn (l : List Nat) : intsN (icn l) = ivn l := by simp [intsN, icn, ivn]
omit [W0] in
/-- The list so far, in memory. -/
def lpC (lp : Nat) (lv : Value) : Chunk := [(lp, cl [lv] 57)]
/-- The state ahead of the loop. -/
def rpT (d : List UInt8) (k : Nat) (s : S6) (l : List Nat) : S6 := if (tk d s (rpB k)).e = 0 ∧ k = 16 ∧ l = [] then fl (tk d s (rpB k)) 3 else tk d s (rpB k)

set_option maxHeartbeats 16000000 in
theorem wrepeat_n (p q lp most m : Nat) (v lv : Value) (a : Option Addr) (c : Nat) (own l : List Nat) (fa : Option Addr) (fc : Nat) (d : List UInt8) (s : S6) (Cl : Chunk) (L : List Chunk) (h : Sl L 1 (.slice a own.length c) own.length (intsN (icn own))) (hok : cdE (icn own) = 0) (hol : own.length = 19)
    (hv : Sl L 1 (.slice fa d.length fc) d.length (bsv d)) (hl : d.length ≤ 1000000) (ht : s.t ≤ 8 * d.length) (he : s.e = 0) (hlv : Ow 3 1 lv l.length (ivn l) Cl) (hlm : l.length ≤ m) (hm : m ≤ 400) :
    Gv Tryd.prog 40 [.pointer (some ⟨p, 0, none⟩), .slice a own.length c, .pointer (some ⟨lp, 0, none⟩), .int .i64 (m : Int)].toArray (wkC p q v most s.e :: biC q fa d.length fc s.t :: lpC lp lv :: Cl :: L) (fun r L' =>
      ∃ lv' Cl', r = .tuple #[] ∧ Ow 3 1 lv' (if (rpS d own m s l).e = 0 then rpL d own s l else l).length (ivn (if (rpS d own m s l).e = 0 then rpL d own s l else l)) Cl' ∧ L' = wkC p q v most (rpS d own m s l).e :: biC q fa d.length fc (rpS d own m s l).t :: lpC lp lv' :: Cl' :: L ∧ (rpS d own m s l).t ≤ 8 * d.length) := by
  refine Gv.of_body Tryd.func40 rfl rfl ?_
  have hw1 : ∀ v e (L : List Chunk), wkC p q v most e :: L = [(p, cl [.pointer (some ⟨q, 0, none⟩), v, .int .i64 (most : Int), .int .i64 (e : Int)] 55)] :: L := fun _ _ _ => rfl
  have hsy := wsym_n p q most v a c (icn own) fa fc d s (lpC lp lv :: Cl :: L) (by rw [icn_length]; exact sl_there (sl_there h)) hok (sl_there (sl_there hv)) (by omega) ht
  rw [icn_length, nl_icn] at hsy
  have hk19 := sv_lt d s (l := own) (by omega)
  have hso := sy_out d s own
  unfold rpS rpL
  generalize sv d s own = k at hsy hk19 ⊢
  generalize sy d s own = s1 at hsy hso ⊢
  obtain ⟨la, lc, rfl⟩ := ow_slc hlv
  (repeat' (first | (show WL _ _ _ _ _ _ _; first | refine jA ?_ | refine jB ?_ | refine jC ?_ | refine jD ?_ | refine jE ?_ | refine jF ?_) | (show OW _ _ _ _ _ _; first | refine OW_E ?_ | refine jI ?_ | refine jJ ?_ | refine jK (fun bk => ?_) | refine jL (fun bk => ?_)) | (show WC _ _ _ _ _ _; first | refine jM ?_ | refine jN ?_ | refine jO ?_ | refine jP ?_ | refine jR ?_ | refine jS ?_ | refine jT ?_ | refine jU ?_) | (show WQ _ _ _ _; with_reducible first | refine jV ?_ | refine jW ?_ | refine jX ?_ | refine jY ?_ | refine jZ ?_ | refine kA ?_ | refine kB ?_ | refine kC ?_) | ((first | (refine jG (fun hc => ?_) (fun hc => ?_) <;> rw [hc]) | refine jQ (fun hc => ?_) (fun hc => ?_)) <;> (try simp only [nrB] at hc) <;> (try (exfalso; first | omega | exact hc trivial | exact hc rfl)))))
  refine OW_call rfl rfl rfl hsy rfl (fun r L' hp => ?_)
  obtain ⟨rfl, rfl, hb1⟩ := hp
  rw [hw1]
  (repeat' (first | (show WL _ _ _ _ _ _ _; first | refine jA ?_ | refine jB ?_ | refine jC ?_ | refine jD ?_ | refine jE ?_ | refine jF ?_) | (show OW _ _ _ _ _ _; first | refine OW_E ?_ | refine jI ?_ | refine jJ ?_ | refine jK (fun bk => ?_) | refine jL (fun bk => ?_)) | (show WC _ _ _ _ _ _; first | refine jN ?_ | refine jO ?_ | refine jP ?_ | refine jR ?_ | refine jS ?_ | refine jT ?_ | refine jU ?_) | (show WQ _ _ _ _; with_reducible first | refine jV ?_ | refine jW ?_ | refine jX ?_ | refine jY ?_ | refine jZ ?_ | refine kA ?_ | refine kB ?_ | refine kC ?_) | ((first | (refine jG (fun hc => ?_) (fun hc => ?_) <;> rw [hc]) | refine jQ (fun hc => ?_) (fun hc => ?_)) <;> (try simp only [nrB] at hc) <;> (try (exfalso; first | omega | exact hc trivial | exact hc rfl)))))
  refine WC_seq ?_
  refine WC_seq ?_
  (repeat' (first | (show WL _ _ _ _ _ _ _; first | refine jA ?_ | refine jB ?_ | refine jC ?_ | refine jD ?_ | refine jE ?_ | refine jF ?_) | (show OW _ _ _ _ _ _; first | refine OW_E ?_ | refine jI ?_ | refine jJ ?_ | refine jK (fun bk => ?_) | refine jL (fun bk => ?_)) | (show WC _ _ _ _ _ _; first | refine jN ?_ | refine jO ?_ | refine jP ?_ | refine jR ?_ | refine jS ?_ | refine jT ?_ | refine jU ?_) | (show WQ _ _ _ _; with_reducible first | refine jV ?_ | refine jW ?_ | refine jX ?_ | refine jY ?_ | refine jZ ?_ | refine kA ?_ | refine kB ?_ | refine kC ?_) | ((first | (refine jG (fun hc => ?_) (fun hc => ?_) <;> rw [hc]) | refine jQ (fun hc => ?_) (fun hc => ?_)) <;> (try simp only [nrB] at hc) <;> (try (exfalso; first | omega | exact hc trivial | exact hc rfl)))))
  · have h1 : s1.e ≠ 0 := by omega
    rw [if_pos h1, if_neg h1]
    (first | refine WQ_retI rfl rfl ?_ | refine WQ_endI rfl rfl ?_)
    exact ⟨_, iC, _, Cl, rfl, hlv, rfl, hb1⟩
  have h1 : s1.e = 0 := by omega
  rw [if_neg (show ¬ s1.e ≠ 0 by omega)]
  refine WC_seq ?_
  (repeat' (first | (show WL _ _ _ _ _ _ _; first | refine jA ?_ | refine jB ?_ | refine jC ?_ | refine jD ?_ | refine jE ?_ | refine jF ?_) | (show OW _ _ _ _ _ _; first | refine OW_E ?_ | refine jI ?_ | refine jJ ?_ | refine jK (fun bk => ?_) | refine jL (fun bk => ?_)) | (show WC _ _ _ _ _ _; first | refine jN ?_ | refine jO ?_ | refine jP ?_ | refine jR ?_ | refine jS ?_ | refine jT ?_ | refine jU ?_) | (show WQ _ _ _ _; with_reducible first | refine jV ?_ | refine jW ?_ | refine jX ?_ | refine jY ?_ | refine jZ ?_ | refine kA ?_ | refine kB ?_ | refine kC ?_) | ((first | (refine jG (fun hc => ?_) (fun hc => ?_) <;> rw [hc]) | refine jQ (fun hc => ?_) (fun hc => ?_)) <;> (try simp only [nrB] at hc) <;> (try (exfalso; first | omega | exact hc trivial | exact hc rfl)))))
  refine WC_seq ?_
  (repeat' (first | (show WL _ _ _ _ _ _ _; first | refine jA ?_ | refine jB ?_ | refine jC ?_ | refine jD ?_ | refine jE ?_ | refine jF ?_) | (show OW _ _ _ _ _ _; first | refine OW_E ?_ | refine jI ?_ | refine jJ ?_ | refine jK (fun bk => ?_) | refine jL (fun bk => ?_)) | (show WC _ _ _ _ _ _; first | refine jN ?_ | refine jO ?_ | refine jP ?_ | refine jR ?_ | refine jS ?_ | refine jT ?_ | refine jU ?_) | (show WQ _ _ _ _; with_reducible first | refine jV ?_ | refine jW ?_ | refine jX ?_ | refine jY ?_ | refine jZ ?_ | refine kA ?_ | refine kB ?_ | refine kC ?_) | ((first | (refine jG (fun hc => ?_) (fun hc => ?_) <;> rw [hc]) | refine jQ (fun hc => ?_) (fun hc => ?_)) <;> (try simp only [nrB] at hc) <;> (try (exfalso; first | omega | exact hc trivial | exact hc rfl)))))
  have htk := fun n hn => wtake_n p q most n v fa fc d s1 (lpC lp (.slice la l.length lc) :: Cl :: L) (sl_there (sl_there hv)) (by omega) hb1 hn
  have hpw : 2 ^ rpB k ≤ 2 ^ 7 := Nat.pow_le_pow_right (by decide) (rpB_le k)
  have htv := tv_lt d s1 (rpB k)
  have hra := rpA_pos k
  have hto := tk_out d s1 (rpB k)
  obtain ⟨n, hn⟩ : ∃ n, n = rpA k + tv d s1 (rpB k) := ⟨_, rfl⟩
  rw [← hn]
  obtain ⟨s2, hs2⟩ : ∃ s2, s2 = tk d s1 (rpB k) := ⟨_, rfl⟩
  rw [← hs2] at hto ⊢
  obtain ⟨s3, hs3⟩ : ∃ s3, s3 = if s2.e = 0 ∧ k = 16 ∧ l = [] then fl s2 3 else s2 := ⟨_, rfl⟩
  have h3t : s3.t = s2.t := by rw [hs3]; split; exact fl_t _ _; rfl
  have h3e : s3.e = if s2.e = 0 ∧ k = 16 ∧ l = [] then 3 else s2.e := by
    rw [hs3]
    split
    · rename_i h; rw [fl_e, if_pos h.1]
    · rfl
  refine WC_cut (X := Nat) (fun x => [(0, .pointer (some ⟨p, 0, none⟩)), (2, .pointer (some ⟨lp, 0, none⟩)), (3, .int .i64 (m : Int)), (9, .int .i64 (x : Int)), (10, .int .i64 (n : Int))]) (fun _ => wkC p q v most s3.e :: biC q fa d.length fc s3.t :: lpC lp (.slice la l.length lc) :: Cl :: L) (fun x => s3.t ≤ 8 * d.length ∧ (s3.e = 0 → x = rpV k l)) ?_ ?_
  · unfold lpC
    unfold lpC at htk
    (repeat' (first | (show WL _ _ _ _ _ _ _; first | refine jA ?_ | refine jB ?_ | refine jC ?_ | refine jD ?_ | refine jE ?_ | refine jF ?_) | (show OW _ _ _ _ _ _; first | refine OW_E ?_ | refine jI ?_ | refine jJ ?_ | refine jK (fun bk => ?_) | refine jL (fun bk => ?_)) | (show WC _ _ _ _ _ _; first | refine jM ?_ | refine jN ?_ | refine jO ?_ | refine jP ?_ | refine jR ?_ | refine jS ?_ | refine jT ?_ | refine jU ?_) | (show WQ _ _ _ _; with_reducible first | refine jV ?_ | refine jW ?_ | refine jX ?_ | refine jY ?_ | refine jZ ?_ | refine kA ?_ | refine kB ?_ | refine kC ?_) | ((first | (refine jG (fun hc => ?_) (fun hc => ?_) <;> rw [hc]) | refine jQ (fun hc => ?_) (fun hc => ?_)) <;> (try simp only [nrB] at hc) <;> (try (exfalso; first | omega | exact hc trivial | exact hc rfl)))))
    · obtain rfl : k = 16 := by omega
      rw [show rpB 16 = 2 from rfl] at hs2 hn htv
      rw [show rpA 16 = 3 from rfl] at hn
      have ht2 := htk 2 (by decide)
      rw [← hs2] at ht2
      clear htk
      generalize tv d s1 2 = z at ht2 hn htv
      refine OW_call rfl rfl rfl (Gv.holds ht2 (fun w h => iH h)) rfl (fun r L' hp => ?_)
      obtain ⟨rfl, rfl, hb2⟩ := hp
      rw [hw1 v s2.e]
      (repeat' (first | (show WL _ _ _ _ _ _ _; first | refine jA ?_ | refine jB ?_ | refine jC ?_ | refine jD ?_ | refine jE ?_ | refine jF ?_) | (show OW _ _ _ _ _ _; first | refine OW_E ?_ | refine jI ?_ | refine jJ ?_ | refine jK (fun bk => ?_) | refine jL (fun bk => ?_)) | (show WC _ _ _ _ _ _; first | refine jM ?_ | refine jN ?_ | refine jO ?_ | refine jP ?_ | refine jR ?_ | refine jS ?_ | refine jT ?_ | refine jU ?_) | (show WQ _ _ _ _; with_reducible first | refine jV ?_ | refine jW ?_ | refine jX ?_ | refine jY ?_ | refine jZ ?_ | refine kA ?_ | refine kB ?_ | refine kC ?_) | ((first | (refine jG (fun hc => ?_) (fun hc => ?_) <;> rw [hc]) | refine jQ (fun hc => ?_) (fun hc => ?_)) <;> (try simp only [nrB] at hc) <;> (try (exfalso; first | omega | exact hc trivial | exact hc rfl)))))
      · have h2 : s2.e = 0 := by omega
        have hl0 : l = [] := List.length_eq_zero_iff.1 (by omega)
        have hf := wfail_n p q most 3 s2.e v (biC q fa d.length fc s2.t :: [(lp, cl [.slice la l.length lc] 57)] :: Cl :: L)
        rw [if_pos h2] at hf
        rw [if_pos ⟨h2, rfl, hl0⟩] at h3e
        refine OW_call rfl rfl rfl hf rfl (fun r L' hp => ?_)
        obtain ⟨rfl, rfl⟩ := hp
        rw [hw1 v 3]
        (repeat' (first | (show WL _ _ _ _ _ _ _; first | refine jA ?_ | refine jB ?_ | refine jC ?_ | refine jD ?_ | refine jE ?_ | refine jF ?_) | (show OW _ _ _ _ _ _; first | refine OW_E ?_ | refine jI ?_ | refine jJ ?_ | refine jK (fun bk => ?_) | refine jL (fun bk => ?_)) | (show WC _ _ _ _ _ _; first | refine jM ?_ | refine jN ?_ | refine jO ?_ | refine jP ?_ | refine jR ?_ | refine jS ?_ | refine jT ?_ | refine jU ?_) | (show WQ _ _ _ _; with_reducible first | refine jV ?_ | refine jW ?_ | refine jX ?_ | refine jY ?_ | refine jZ ?_ | refine kA ?_ | refine kB ?_ | refine kC ?_) | ((first | (refine jG (fun hc => ?_) (fun hc => ?_) <;> rw [hc]) | refine jQ (fun hc => ?_) (fun hc => ?_)) <;> (try simp only [nrB] at hc) <;> (try (exfalso; first | omega | exact hc trivial | exact hc rfl)))))
        exact WQ_cut 16 ⟨by omega, fun hh => by omega⟩ (by repeat (first | exact Sub.nil | refine Sub.cons rfl ?_ | refine Sub.cons (lk_int rfl (by first | omega | (dsimp only; omega))) ?_)) (fun w h => by rw [h3e, h3t]; exact h)
      · have h2 : s2.e = 0 := by omega
        have hl0 : ¬ l.length = 0 := by omega
        rw [if_neg (fun hh => hl0 (by rw [hh.2.2]; rfl))] at hs3
        subst hs3
        have hov2 := hlv
        rcases hov2 with ⟨_, h0, _⟩ | ⟨b, cap, rest, hve, rfl, hxl, hrl, hmc, hcm⟩
        · omega
        injection hve with q1 q2 q3
        subst q1 q3
        clear q2
        have hcell : (ivn l ++ rest).toArray[(l.length - 1) * 1]? = some (.int .i64 (l.getD (l.length - 1) 0 : Int)) := by
          rw [Nat.mul_one]
          simpa using getE_app (r := rest) (ivn_get (l := l) (i := l.length - 1) (n := l.getD (l.length - 1) 0) (by simp [List.getD, show l.length - 1 < l.length from by omega]))
        refine WC_drawAll [] mixed ?_
        (refine WR_t 0 ?_; refine WR_t 1 ?_; refine WR_t 2 ?_; refine WR_t 3 ?_; refine WR_t 4 ?_; refine WR_t 5 ?_; refine WR_t 6 ?_; refine WR_t 7 ?_)
        rw [show (l.length : Int) - 1 = ((l.length - 1 : Nat) : Int) from by omega]
        (refine WR_take 8 rfl rfl (by kernel_rfl) (by repeat (first | with_reducible exact PO.body | with_reducible exact RP_po | with_reducible refine PO.then ?_ | with_reducible refine PO.block ?_)) iC (EV_indexAddr0 (j := l.length - 1) (len := l.length) rfl rfl rfl (by omega)) (by rfl) ?_)
        (refine WR_take 9 rfl rfl (by kernel_rfl) (by repeat (first | with_reducible exact PO.body | with_reducible exact RP_po | with_reducible refine PO.then ?_ | with_reducible refine PO.block ?_)) iC (EV_load rfl (by exact Fnd.there (Fnd.there (Fnd.there Fnd.here))) hcell) (by rfl) ?_)
        (refine WR_t 10 ?_)
        (refine WR_done (by kernel_rfl) ?_)
        (repeat' (first | (show WL _ _ _ _ _ _ _; first | refine jA ?_ | refine jB ?_ | refine jC ?_ | refine jD ?_ | refine jE ?_ | refine jF ?_) | (show OW _ _ _ _ _ _; first | refine OW_E ?_ | refine jI ?_ | refine jJ ?_ | refine jK (fun bk => ?_) | refine jL (fun bk => ?_)) | (show WC _ _ _ _ _ _; first | refine jM ?_ | refine jN ?_ | refine jO ?_ | refine jP ?_ | refine jR ?_ | refine jS ?_ | refine jT ?_ | refine jU ?_) | (show WQ _ _ _ _; with_reducible first | refine jV ?_ | refine jW ?_ | refine jX ?_ | refine jY ?_ | refine jZ ?_ | refine kA ?_ | refine kB ?_ | refine kC ?_) | ((first | (refine jG (fun hc => ?_) (fun hc => ?_) <;> rw [hc]) | refine jQ (fun hc => ?_) (fun hc => ?_)) <;> (try simp only [nrB] at hc) <;> (try (exfalso; first | omega | exact hc trivial | exact hc rfl)))))
        exact WQ_cut (l.getD (l.length - 1) 0) ⟨hb2, fun _ => by unfold rpV; rw [if_pos rfl]⟩ (by repeat (first | exact Sub.nil | refine Sub.cons rfl ?_ | refine Sub.cons (lk_int rfl (by first | omega | (dsimp only; omega))) ?_)) (fun w h => h)
      · have h2 : ¬ s2.e = 0 := by omega
        rw [if_neg (fun hh => h2 hh.1)] at hs3
        subst hs3
        exact WQ_cut 16 ⟨hb2, fun hh => absurd hh h2⟩ (by repeat (first | exact Sub.nil | refine Sub.cons rfl ?_ | refine Sub.cons (lk_int rfl (by first | omega | (dsimp only; omega))) ?_)) (fun w h => h)
    · obtain rfl : k = 17 := by omega
      rw [show rpB 17 = 3 from rfl] at hs2 hn htv
      rw [show rpA 17 = 3 from rfl] at hn
      have ht2 := htk 3 (by decide)
      rw [← hs2] at ht2
      rw [if_neg (fun hh => by omega)] at hs3
      subst hs3
      generalize tv d s1 3 = z at ht2 hn htv
      refine OW_call rfl rfl rfl (Gv.holds ht2 (fun w h => iH h)) rfl (fun r L' hp => ?_)
      obtain ⟨rfl, rfl, hb2⟩ := hp
      (repeat' (first | (show WL _ _ _ _ _ _ _; first | refine jA ?_ | refine jB ?_ | refine jC ?_ | refine jD ?_ | refine jE ?_ | refine jF ?_) | (show OW _ _ _ _ _ _; first | refine OW_E ?_ | refine jI ?_ | refine jJ ?_ | refine jK (fun bk => ?_) | refine jL (fun bk => ?_)) | (show WC _ _ _ _ _ _; first | refine jM ?_ | refine jN ?_ | refine jO ?_ | refine jP ?_ | refine jR ?_ | refine jS ?_ | refine jT ?_ | refine jU ?_) | (show WQ _ _ _ _; with_reducible first | refine jV ?_ | refine jW ?_ | refine jX ?_ | refine jY ?_ | refine jZ ?_ | refine kA ?_ | refine kB ?_ | refine kC ?_) | ((first | (refine jG (fun hc => ?_) (fun hc => ?_) <;> rw [hc]) | refine jQ (fun hc => ?_) (fun hc => ?_)) <;> (try simp only [nrB] at hc) <;> (try (exfalso; first | omega | exact hc trivial | exact hc rfl)))))
      exact WQ_cut 0 ⟨hb2, fun _ => rfl⟩ (by repeat (first | exact Sub.nil | refine Sub.cons rfl ?_ | refine Sub.cons (lk_int rfl (by first | omega | (dsimp only; omega))) ?_)) (fun w h => h)
    · obtain rfl : k = 18 := by omega
      rw [show rpB 18 = 7 from rfl] at hs2 hn htv
      rw [show rpA 18 = 11 from rfl] at hn
      have ht2 := htk 7 (by decide)
      rw [← hs2] at ht2
      rw [if_neg (fun hh => by omega)] at hs3
      subst hs3
      generalize tv d s1 7 = z at ht2 hn htv
      refine OW_call rfl rfl rfl (Gv.holds ht2 (fun w h => iH h)) rfl (fun r L' hp => ?_)
      obtain ⟨rfl, rfl, hb2⟩ := hp
      (repeat' (first | (show WL _ _ _ _ _ _ _; first | refine jA ?_ | refine jB ?_ | refine jC ?_ | refine jD ?_ | refine jE ?_ | refine jF ?_) | (show OW _ _ _ _ _ _; first | refine OW_E ?_ | refine jI ?_ | refine jJ ?_ | refine jK (fun bk => ?_) | refine jL (fun bk => ?_)) | (show WC _ _ _ _ _ _; first | refine jM ?_ | refine jN ?_ | refine jO ?_ | refine jP ?_ | refine jR ?_ | refine jS ?_ | refine jT ?_ | refine jU ?_) | (show WQ _ _ _ _; with_reducible first | refine jV ?_ | refine jW ?_ | refine jX ?_ | refine jY ?_ | refine jZ ?_ | refine kA ?_ | refine kB ?_ | refine kC ?_) | ((first | (refine jG (fun hc => ?_) (fun hc => ?_) <;> rw [hc]) | refine jQ (fun hc => ?_) (fun hc => ?_)) <;> (try simp only [nrB] at hc) <;> (try (exfalso; first | omega | exact hc trivial | exact hc rfl)))))
      exact WQ_cut 0 ⟨hb2, fun _ => rfl⟩ (by repeat (first | exact Sub.nil | refine Sub.cons rfl ?_ | refine Sub.cons (lk_int rfl (by first | omega | (dsimp only; omega))) ?_)) (fun w h => h)
    · have e1 : rpB k = 0 := by unfold rpB; rw [if_neg (by omega), if_neg (by omega), if_neg (by omega)]
      have e2 : rpA k = 1 := by unfold rpA; rw [if_neg (by omega), if_neg (by omega), if_neg (by omega)]
      rw [e1, tk_zero hb1] at hs2
      rw [e1, e2, tv_zero] at hn
      rw [if_neg (fun hh => by omega)] at hs3
      subst hs3 hs2 hn
      exact WQ_cut k ⟨hb1, fun _ => by unfold rpV; rw [if_neg (by omega), if_neg (by omega)]⟩ (by repeat (first | exact Sub.nil | refine Sub.cons rfl ?_ | refine Sub.cons (lk_int rfl (by first | omega | (dsimp only; omega))) ?_)) (fun w h => h)
  · rintro x ⟨hb3, hx⟩
    clear htk hs2 htv hsy
    obtain ⟨s4, hs4⟩ : ∃ s4, s4 = if s3.e = 0 ∧ m < l.length + n then fl s3 3 else s3 := ⟨_, rfl⟩
    have h4t : s4.t = s3.t := by rw [hs4]; split; exact fl_t _ _; rfl
    have h4e : s4.e = if s3.e = 0 ∧ m < l.length + n then 3 else s3.e := by
      rw [hs4]
      split
      · rename_i h; rw [fl_e, if_pos h.1]
      · rfl
    have hR : (if s2.e ≠ 0 then s2 else if k = 16 ∧ l = [] ∨ m < l.length + n then fl s2 3 else s2) = s4 := by
      by_cases h2 : s2.e = 0
      · by_cases h16 : k = 16 ∧ l = []
        · have e3 : s3 = fl s2 3 := by rw [hs3, if_pos ⟨h2, h16⟩]
          have e4 : s3.e = 3 := by rw [e3, fl_e, if_pos h2]
          rw [hs4, if_neg (show ¬ (s3.e = 0 ∧ m < l.length + n) from fun hh => by omega), if_neg (show ¬ s2.e ≠ 0 from fun hh => hh h2), if_pos (Or.inl h16), e3]
        · have e3 : s3 = s2 := by rw [hs3, if_neg (fun hh => h16 hh.2)]
          rw [hs4, e3, if_neg (show ¬ s2.e ≠ 0 from fun hh => hh h2)]
          by_cases hm : m < l.length + n
          · rw [if_pos (Or.inr hm), if_pos ⟨h2, hm⟩]
          · rw [if_neg (show ¬ (k = 16 ∧ l = [] ∨ m < l.length + n) from fun hh => hh.elim (fun h => h16 h) (fun h => hm h)), if_neg (show ¬ (s2.e = 0 ∧ m < l.length + n) from fun hh => hm hh.2)]
      · have e3 : s3 = s2 := by rw [hs3, if_neg (fun hh => h2 hh.1)]
        rw [hs4, e3, if_pos h2, if_neg (show ¬ (s2.e = 0 ∧ m < l.length + n) from fun hh => h2 hh.1)]
    rw [hR]
    have h4x : s4.e = 0 → x = rpV k l ∧ l.length + n ≤ m := by
      intro h0
      rw [h4e] at h0
      split at h0
      · cases h0
      · exact ⟨hx h0, by omega⟩
    clear hR hs3 hx h3e h3t hs4
    unfold lpC
    have hb4 : s4.t ≤ 8 * d.length := by omega
    have hw2 : wkC p q v most s3.e = [(p, cl [.pointer (some ⟨q, 0, none⟩), v, .int .i64 (most : Int), .int .i64 (s3.e : Int)] 55)] := rfl
    refine WC_cut (X := Unit) (fun _ => [(0, .pointer (some ⟨p, 0, none⟩)), (2, .pointer (some ⟨lp, 0, none⟩)), (9, .int .i64 (x : Int)), (10, .int .i64 (n : Int))]) (fun _ => wkC p q v most s4.e :: biC q fa d.length fc s4.t :: [(lp, cl [.slice la l.length lc] 57)] :: Cl :: L) (fun _ => True) ?_ ?_
    · have hf := wfail_n p q most 3 s3.e v (biC q fa d.length fc s3.t :: [(lp, cl [.slice la l.length lc] 57)] :: Cl :: L)
      rw [h4t, h4e]
      rw [hw2]
      (repeat' (first | (show WL _ _ _ _ _ _ _; first | refine jA ?_ | refine jB ?_ | refine jC ?_ | refine jD ?_ | refine jE ?_ | refine jF ?_) | (show OW _ _ _ _ _ _; first | refine OW_E ?_ | refine jI ?_ | refine jJ ?_ | refine jK (fun bk => ?_) | refine jL (fun bk => ?_)) | (show WC _ _ _ _ _ _; first | refine jM ?_ | refine jN ?_ | refine jO ?_ | refine jP ?_ | refine jR ?_ | refine jS ?_ | refine jT ?_ | refine jU ?_) | (show WQ _ _ _ _; with_reducible first | refine jV ?_ | refine jW ?_ | refine jX ?_ | refine jY ?_ | refine jZ ?_ | refine kA ?_ | refine kB ?_ | refine kC ?_) | ((first | (refine jG (fun hc => ?_) (fun hc => ?_) <;> rw [hc]) | refine jQ (fun hc => ?_) (fun hc => ?_)) <;> (try simp only [nrB] at hc) <;> (try (exfalso; first | omega | exact hc trivial | exact hc rfl)))))
      · have h3 : s3.e = 0 := by omega
        rw [if_pos (show s3.e = 0 ∧ m < l.length + n by omega)]
        rw [if_pos h3] at hf
        refine OW_call rfl rfl rfl hf rfl (fun r L' hp => ?_)
        obtain ⟨rfl, rfl⟩ := hp
        (repeat' (first | (show WL _ _ _ _ _ _ _; first | refine jA ?_ | refine jB ?_ | refine jC ?_ | refine jD ?_ | refine jE ?_ | refine jF ?_) | (show OW _ _ _ _ _ _; first | refine OW_E ?_ | refine jI ?_ | refine jJ ?_ | refine jK (fun bk => ?_) | refine jL (fun bk => ?_)) | (show WC _ _ _ _ _ _; first | refine jM ?_ | refine jN ?_ | refine jO ?_ | refine jP ?_ | refine jR ?_ | refine jS ?_ | refine jT ?_ | refine jU ?_) | (show WQ _ _ _ _; with_reducible first | refine jV ?_ | refine jW ?_ | refine jX ?_ | refine jY ?_ | refine jZ ?_ | refine kA ?_ | refine kB ?_ | refine kC ?_) | ((first | (refine jG (fun hc => ?_) (fun hc => ?_) <;> rw [hc]) | refine jQ (fun hc => ?_) (fun hc => ?_)) <;> (try simp only [nrB] at hc) <;> (try (exfalso; first | omega | exact hc trivial | exact hc rfl)))))
        exact WQ_cut () trivial (by repeat (first | exact Sub.nil | refine Sub.cons rfl ?_ | refine Sub.cons (lk_int rfl (by first | omega | (dsimp only; omega))) ?_)) (fun w h => h)
      · rw [if_neg (show ¬ (s3.e = 0 ∧ m < l.length + n) by omega)]
        exact WQ_cut () trivial (by repeat (first | exact Sub.nil | refine Sub.cons rfl ?_ | refine Sub.cons (lk_int rfl (by first | omega | (dsimp only; omega))) ?_)) (fun w h => h)
      · rw [if_neg (show ¬ (s3.e = 0 ∧ m < l.length + n) by omega)]
        exact WQ_cut () trivial (by repeat (first | exact Sub.nil | refine Sub.cons rfl ?_ | refine Sub.cons (lk_int rfl (by first | omega | (dsimp only; omega))) ?_)) (fun w h => h)
    intro _ _
    (repeat' (first | (show WL _ _ _ _ _ _ _; first | refine jA ?_ | refine jB ?_ | refine jC ?_ | refine jD ?_ | refine jE ?_ | refine jF ?_) | (show OW _ _ _ _ _ _; first | refine OW_E ?_ | refine jI ?_ | refine jJ ?_ | refine jK (fun bk => ?_) | refine jL (fun bk => ?_)) | (show WC _ _ _ _ _ _; first | refine jM ?_ | refine jN ?_ | refine jO ?_ | refine jP ?_ | refine jR ?_ | refine jS ?_ | refine jT ?_ | refine jU ?_) | (show WQ _ _ _ _; with_reducible first | refine jV ?_ | refine jW ?_ | refine jX ?_ | refine jY ?_ | refine jZ ?_ | refine kA ?_ | refine kB ?_ | refine kC ?_) | ((first | (refine jG (fun hc => ?_) (fun hc => ?_) <;> rw [hc]) | refine jQ (fun hc => ?_) (fun hc => ?_)) <;> (try simp only [nrB] at hc) <;> (try (exfalso; first | omega | exact hc trivial | exact hc rfl)))))
    refine WC_loop (X := Nat × Value × Chunk) (fun y => [(0, .pointer (some ⟨p, 0, none⟩)), (2, .pointer (some ⟨lp, 0, none⟩)), (9, .int .i64 (x : Int)), (10, .int .i64 (n : Int)), (11, .int .i64 (y.1 : Int))]) (fun y => wkC p q v most s4.e :: biC q fa d.length fc s4.t :: [(lp, cl [y.2.1] 57)] :: y.2.2 :: L)
      (fun y => y.1 ≤ n ∧ (s4.e ≠ 0 → y.1 = 0) ∧ Ow 3 1 y.2.1 (l.length + y.1) (ivn (l ++ List.replicate y.1 x)) y.2.2) (fun y => n - y.1) (0, .slice la l.length lc, Cl) ⟨Nat.zero_le _, fun _ => rfl, by simpa using hlv⟩ (by repeat (first | exact Sub.nil | refine Sub.cons rfl ?_ | refine Sub.cons (lk_int rfl (by first | omega | (dsimp only; omega))) ?_)) (fun w h => h) ?_
    rintro ⟨i, v1, C1⟩ ⟨hi, hz, hov⟩
    simp only at hi hz hov ⊢
    obtain ⟨wa, wc, rfl⟩ := ow_slc hov
    unfold wkC
    (repeat' (first | (show WL _ _ _ _ _ _ _; first | refine jA ?_ | refine jB ?_ | refine jC ?_ | refine jD ?_ | refine jE ?_ | refine jF ?_) | (show OW _ _ _ _ _ _; first | refine OW_E ?_ | refine jI ?_ | refine jJ ?_ | refine jK (fun bk => ?_) | refine jL (fun bk => ?_)) | (show WC _ _ _ _ _ _; first | refine jM ?_ | refine jN ?_ | refine jO ?_ | refine jP ?_ | refine jR ?_ | refine jS ?_ | refine jT ?_ | refine jU ?_) | (show WQ _ _ _ _; with_reducible first | refine jV ?_ | refine jW ?_ | refine jX ?_ | refine jY ?_ | refine jZ ?_ | refine kA ?_ | refine kB ?_ | refine kC ?_) | ((first | (refine jG (fun hc => ?_) (fun hc => ?_) <;> rw [hc]) | refine jQ (fun hc => ?_) (fun hc => ?_)) <;> (try simp only [nrB] at hc) <;> (try (exfalso; first | omega | exact hc trivial | exact hc rfl)))))
    · have h4 : s4.e = 0 := by omega
      have hmx := (h4x h4).2
      refine OW_buildSlice (cs := [.int .i64 (x : Int)]) rfl (by rfl) (by first | (simp [fillL, patch, Value.cells, zeros]; done) | (simp [fillL, patch, Value.cells, zeros]; rfl)) (by omega) rfl rfl (fun bn => ?_)
      (repeat' (first | (show WL _ _ _ _ _ _ _; first | refine jA ?_ | refine jB ?_ | refine jC ?_ | refine jD ?_ | refine jE ?_ | refine jF ?_) | (show OW _ _ _ _ _ _; first | refine OW_E ?_ | refine jI ?_ | refine jJ ?_ | refine jK (fun bk => ?_) | refine jL (fun bk => ?_)) | (show WC _ _ _ _ _ _; first | refine jM ?_ | refine jN ?_ | refine jO ?_ | refine jP ?_ | refine jR ?_ | refine jS ?_ | refine jT ?_ | refine jU ?_) | (show WQ _ _ _ _; with_reducible first | refine jV ?_ | refine jW ?_ | refine jX ?_ | refine jY ?_ | refine jZ ?_ | refine kA ?_ | refine kB ?_ | refine kC ?_) | ((first | (refine jG (fun hc => ?_) (fun hc => ?_) <;> rw [hc]) | refine jQ (fun hc => ?_) (fun hc => ?_)) <;> (try simp only [nrB] at hc) <;> (try (exfalso; first | omega | exact hc trivial | exact hc rfl)))))
      refine OW_append rfl rfl hov (sl_cells (k := 1) (c := #[.int .i64 (x : Int)]) (xs := [.int .i64 (x : Int)]) (m := 1) Fnd.here rfl (by simp)) (by repeat (first | exact Zip.here _ | apply Zip.there)) rfl (by rfl) (by omega) (by simp [maxLen]; omega) rfl (fun v' C' ho' _ _ => ?_)
      (repeat' (first | (show WL _ _ _ _ _ _ _; first | refine jA ?_ | refine jB ?_ | refine jC ?_ | refine jD ?_ | refine jE ?_ | refine jF ?_) | (show OW _ _ _ _ _ _; first | refine OW_E ?_ | refine jI ?_ | refine jJ ?_ | refine jK (fun bk => ?_) | refine jL (fun bk => ?_)) | (show WC _ _ _ _ _ _; first | refine jM ?_ | refine jN ?_ | refine jO ?_ | refine jP ?_ | refine jR ?_ | refine jS ?_ | refine jT ?_ | refine jU ?_) | (show WQ _ _ _ _; with_reducible first | refine jV ?_ | refine jW ?_ | refine jX ?_ | refine jY ?_ | refine jZ ?_ | refine kA ?_ | refine kB ?_ | refine kC ?_) | ((first | (refine jG (fun hc => ?_) (fun hc => ?_) <;> rw [hc]) | refine jQ (fun hc => ?_) (fun hc => ?_)) <;> (try simp only [nrB] at hc) <;> (try (exfalso; first | omega | exact hc trivial | exact hc rfl)))))
      refine OW_storeTo [v'] rfl rfl (by rcases ho' with ⟨rfl, _⟩ | ⟨_, _, _, rfl, _⟩ <;> rfl) rfl (by repeat (first | exact Upd.here | apply Upd.there)) (by simp) ?_
      (repeat' (first | (show WL _ _ _ _ _ _ _; first | refine jA ?_ | refine jB ?_ | refine jC ?_ | refine jD ?_ | refine jE ?_ | refine jF ?_) | (show OW _ _ _ _ _ _; first | refine OW_E ?_ | refine jI ?_ | refine jJ ?_ | refine jK (fun bk => ?_) | refine jL (fun bk => ?_)) | (show WC _ _ _ _ _ _; first | refine jM ?_ | refine jN ?_ | refine jO ?_ | refine jP ?_ | refine jR ?_ | refine jS ?_ | refine jT ?_ | refine jU ?_) | (show WQ _ _ _ _; with_reducible first | refine jV ?_ | refine jW ?_ | refine jX ?_ | refine jY ?_ | refine jZ ?_ | refine kA ?_ | refine kB ?_ | refine kC ?_) | ((first | (refine jG (fun hc => ?_) (fun hc => ?_) <;> rw [hc]) | refine jQ (fun hc => ?_) (fun hc => ?_)) <;> (try simp only [nrB] at hc) <;> (try (exfalso; first | omega | exact hc trivial | exact hc rfl)))))
      refine WQ_round (X := Nat × Value × Chunk) (μ := fun y => n - y.1) (x := (i, .slice wa (l.length + i) wc, C1)) (i + 1, v', C') (by simp only; omega) ⟨by simp only; omega, fun hh => absurd h4 hh, ?_⟩ (by repeat (first | exact Sub.nil | refine Sub.cons rfl ?_ | refine Sub.cons (lk_int rfl (by first | omega | (dsimp only; omega))) ?_)) (fun w h => iH h)
      rw [List.replicate_succ', ← List.append_assoc, ivn_app (l ++ List.replicate i x) [x]]
      exact ho'
    · have h4 : ¬ s4.e = 0 := by omega
      obtain rfl : i = 0 := hz h4
      rw [if_neg h4]
      (first | refine WQ_retI rfl rfl ?_ | refine WQ_endI rfl rfl ?_)
      exact ⟨_, iC, _, C1, rfl, by simpa using hov, rfl, hb4⟩
    · obtain rfl : i = n := by omega
      (first | refine WQ_retI rfl rfl ?_ | refine WQ_endI rfl rfl ?_)
      refine ⟨_, iC, _, C1, rfl, ?_, rfl, hb4⟩
      by_cases h4 : s4.e = 0
      · rw [if_pos h4, ← (h4x h4).1]
        simpa using hov
      · rw [if_neg h4]
        obtain rfl : i = 0 := hz h4
        simpa using hov
end Go.Proofs.YtkiaegkojlhaeaaDoor
/- The document's own answer for layer 6: the lengths of a block. It proves no statement by itself. No conditions. -/
namespace Go.If
open Go.Vx Go.Hf
set_option linter.all false
theorem tv_err [W0] {d : List UInt8} {s : S6} {n : Nat} (he : s.e = 0) (h : (tk d s n).e ≠ 0) : tv d s n = 0 := by
  unfold tv
  split
  · rename_i hh
    unfold tk at h
    rw [if_pos hh] at h
    exact absurd he h
  · rfl
theorem rp_facts [W0] {d : List UInt8} {own : List Nat} {m : Nat} {s : S6} {l : List Nat} (hol : own.length = 19) (h15 : ∀ x ∈ l, x ≤ 15) (h : (rpS d own m s l).e = 0) :
    l.length < (rpL d own s l).length ∧ (rpL d own s l).length ≤ m ∧ ∀ x ∈ rpL d own s l, x ≤ 15 := by
  have hk := sv_lt d s (l := own) (by omega)
  unfold rpS at h
  unfold rpL
  generalize sv d s own = k at *
  generalize sy d s own = s1 at *
  have hra := rpA_pos k
  split at h
  · exact absurd h (by assumption)
  · split at h
    · exact absurd h (by assumption)
    · rename_i h1 h2
      split at h
      · rw [fl_e, if_pos (by omega)] at h; cases h
      · rename_i h3
        refine ⟨by simp; omega, by simp; omega, fun x hx => ?_⟩
        rcases List.mem_append.1 hx with hx | hx
        · exact h15 x hx
        · rw [List.eq_of_mem_replicate hx]; exact rpV_le (by omega) h15
end Go.If
namespace Go.Proofs.YtkiaegkojlhaeaaDoor
open Go Go.Vx Go.Hf Go.If
variable [W0]
set_option maxRecDepth 4000
set_option linter.all false

/-- Chunks left out, where the end is a variable: no search where no chunk is wanted. -/
theorem iD {S L : List Chunk} (h : Inc S L := by exact (by repeat (first | exact Inc.refl | exact Inc.nil | (show Inc (_ :: _) _; refine Inc.cons (by repeat (first | exact Take.here | apply Take.there)) ?_) | refine Inc.skip ?_))) : Inc S L := h
omit [W0] in
/-- Read out of this chunk, whatever else is held. -/
structure SlA (C : Chunk) (v : Value) (m : Nat) (xs : List Value) : Prop where
  all : ∀ L, Sl (C :: L) 1 v m xs

set_option maxHeartbeats 16000000 in
theorem wlengths_n (p q most : Nat) (v : Value) (fa : Option Addr) (fc : Nat) (d : List UInt8) (s : S6) (L : List Chunk)
    (hv : Sl L 1 (.slice fa d.length fc) d.length (bsv d)) (hl : d.length ≤ 1000000) (ht : s.t ≤ 8 * d.length) (he : s.e = 0) :
    Gv Tryd.prog 24 [.pointer (some ⟨p, 0, none⟩)].toArray (wkC p q v most s.e :: biC q fa d.length fc s.t :: L) (fun r L' =>
      (dyS d s).1.t ≤ 8 * d.length ∧ (((dyS d s).1.e ≠ 0 ∧ ∃ x y, r = .tuple #[x, y] ∧ L' = wkC p q v most (dyS d s).1.e :: biC q fa d.length fc (dyS d s).1.t :: L) ∨
      ((dyS d s).1.e = 0 ∧ ∃ a1 c1 a2 c2 l dl Cl, r = .tuple #[.slice a1 l.length c1, .slice a2 dl.length c2] ∧ l = (dyS d s).2.1.take (dyS d s).2.2 ∧ dl = (dyS d s).2.1.drop (dyS d s).2.2 ∧ SlA Cl (.slice a1 l.length c1) l.length (intsN (icn l)) ∧ SlA Cl (.slice a2 dl.length c2) dl.length (intsN (icn dl)) ∧ cdE (icn l) = 0 ∧ cdE (icn dl) = 0 ∧ l.length ≤ 400 ∧
        L' = wkC p q v most (dyS d s).1.e :: biC q fa d.length fc (dyS d s).1.t :: Cl :: L))) := by
  refine Gv.of_body Tryd.func24 rfl rfl ?_
  have hw1 : ∀ v e (L : List Chunk), wkC p q v most e :: L = [(p, cl [.pointer (some ⟨q, 0, none⟩), v, .int .i64 (most : Int), .int .i64 (e : Int)] 55)] :: L := fun _ _ _ => rfl
  have ht1 := wtake_n p q most 5 v fa fc d s L hv (by omega) ht (by omega)
  have htv := tv_lt d s 5
  have hte := tv_err (d := d) (n := 5) he
  unfold dyS
  generalize tv d s 5 = z1 at ht1 htv hte ⊢
  generalize tk d s 5 = s1 at ht1 hte ⊢
  (repeat' (first | (show WL _ _ _ _ _ _ _; first | refine jA ?_ | refine jB ?_ | refine jC ?_ | refine jD ?_ | refine jE ?_ | refine jF ?_) | (show OW _ _ _ _ _ _; first | refine OW_E ?_ | refine jI ?_ | refine jJ ?_ | refine jK (fun bk => ?_) | refine jL (fun bk => ?_)) | (show WC _ _ _ _ _ _; first | refine jM ?_ | refine jN ?_ | refine jO ?_ | refine jP ?_ | refine jR ?_ | refine jS ?_ | refine jT ?_ | refine jU ?_) | (show WQ _ _ _ _; with_reducible first | refine jV ?_ | refine jW ?_ | refine jX ?_ | refine jY ?_ | refine jZ ?_ | refine kA ?_ | refine kB ?_ | refine kC ?_) | ((first | (refine jG (fun hc => ?_) (fun hc => ?_) <;> rw [hc]) | refine jQ (fun hc => ?_) (fun hc => ?_)) <;> (try simp only [nrB] at hc) <;> (try (exfalso; first | omega | exact hc trivial | exact hc rfl)))))
  refine OW_call rfl rfl rfl ht1 rfl (fun r L' hp => ?_)
  obtain ⟨rfl, rfl, hb1⟩ := hp
  by_cases h29 : 29 < z1
  · have h1 : s1.e = 0 := by
      by_cases h0 : s1.e = 0
      · exact h0
      · have := hte h0; omega
    rw [if_neg (show ¬ s1.e ≠ 0 by omega), if_pos h29]
    have hf := wfail_n p q most 3 s1.e v (biC q fa d.length fc s1.t :: L)
    rw [if_pos h1] at hf
    (repeat' (first | (show WL _ _ _ _ _ _ _; first | refine jA ?_ | refine jB ?_ | refine jC ?_ | refine jD ?_ | refine jE ?_ | refine jF ?_) | (show OW _ _ _ _ _ _; first | refine OW_E ?_ | refine jI ?_ | refine jJ ?_ | refine jK (fun bk => ?_) | refine jL (fun bk => ?_)) | (show WC _ _ _ _ _ _; first | refine jM ?_ | refine jN ?_ | refine jO ?_ | refine jP ?_ | refine jR ?_ | refine jS ?_ | refine jT ?_ | refine jU ?_) | (show WQ _ _ _ _; with_reducible first | refine jV ?_ | refine jW ?_ | refine jX ?_ | refine jY ?_ | refine jZ ?_ | refine kA ?_ | refine kB ?_ | refine kC ?_) | ((first | (refine jG (fun hc => ?_) (fun hc => ?_) <;> rw [hc]) | refine jQ (fun hc => ?_) (fun hc => ?_)) <;> (try simp only [nrB] at hc) <;> (try (exfalso; first | omega | exact hc trivial | exact hc rfl)))))
    refine OW_call rfl rfl rfl hf rfl (fun r L' hp => ?_)
    obtain ⟨rfl, rfl⟩ := hp
    rw [hw1]
    (repeat' (first | (show WL _ _ _ _ _ _ _; first | refine jA ?_ | refine jB ?_ | refine jC ?_ | refine jD ?_ | refine jE ?_ | refine jF ?_) | (show OW _ _ _ _ _ _; first | refine OW_E ?_ | refine jI ?_ | refine jJ ?_ | refine jK (fun bk => ?_) | refine jL (fun bk => ?_)) | (show WC _ _ _ _ _ _; first | refine jM ?_ | refine jN ?_ | refine jO ?_ | refine jP ?_ | refine jR ?_ | refine jS ?_ | refine jT ?_ | refine jU ?_) | (show WQ _ _ _ _; with_reducible first | refine jV ?_ | refine jW ?_ | refine jX ?_ | refine jY ?_ | refine jZ ?_ | refine kA ?_ | refine kB ?_ | refine kC ?_) | ((first | (refine jG (fun hc => ?_) (fun hc => ?_) <;> rw [hc]) | refine jQ (fun hc => ?_) (fun hc => ?_)) <;> (try simp only [nrB] at hc) <;> (try (exfalso; first | omega | exact hc trivial | exact hc rfl)))))
    simp only [fl3 h1, fl_t]
    (first | refine WQ_retI rfl rfl ?_ | refine WQ_endI rfl rfl ?_)
    exact ⟨wkC p q v most 3 :: biC q fa d.length fc s1.t :: L, iD, hb1, .inl ⟨by decide, _, _, rfl, rfl⟩⟩
  by_cases h1 : s1.e ≠ 0
  · rw [if_pos h1, hw1]
    (repeat' (first | (show WL _ _ _ _ _ _ _; first | refine jA ?_ | refine jB ?_ | refine jC ?_ | refine jD ?_ | refine jE ?_ | refine jF ?_) | (show OW _ _ _ _ _ _; first | refine OW_E ?_ | refine jI ?_ | refine jJ ?_ | refine jK (fun bk => ?_) | refine jL (fun bk => ?_)) | (show WC _ _ _ _ _ _; first | refine jM ?_ | refine jN ?_ | refine jO ?_ | refine jP ?_ | refine jR ?_ | refine jS ?_ | refine jT ?_ | refine jU ?_) | (show WQ _ _ _ _; with_reducible first | refine jV ?_ | refine jW ?_ | refine jX ?_ | refine jY ?_ | refine jZ ?_ | refine kA ?_ | refine kB ?_ | refine kC ?_) | ((first | (refine jG (fun hc => ?_) (fun hc => ?_) <;> rw [hc]) | refine jQ (fun hc => ?_) (fun hc => ?_)) <;> (try simp only [nrB] at hc) <;> (try (exfalso; first | omega | exact hc trivial | exact hc rfl)))))
    (first | refine WQ_retI rfl rfl ?_ | refine WQ_endI rfl rfl ?_)
    exact ⟨wkC p q v most s1.e :: biC q fa d.length fc s1.t :: L, iD, hb1, .inl ⟨h1, _, _, rfl, rfl⟩⟩
  rw [if_neg h1, if_neg h29]
  have h1 : s1.e = 0 := by omega
  have ht2 := wtake_n p q most 5 v fa fc d s1 L hv (by omega) hb1 (by omega)
  have htv2 := tv_lt d s1 5
  have hte2 := tv_err (d := d) (n := 5) h1
  generalize tv d s1 5 = z2 at ht2 htv2 hte2 ⊢
  generalize tk d s1 5 = s2 at ht2 hte2 ⊢
  rw [hw1 v s1.e]
  (repeat' (first | (show WL _ _ _ _ _ _ _; first | refine jA ?_ | refine jB ?_ | refine jC ?_ | refine jD ?_ | refine jE ?_ | refine jF ?_) | (show OW _ _ _ _ _ _; first | refine OW_E ?_ | refine jI ?_ | refine jJ ?_ | refine jK (fun bk => ?_) | refine jL (fun bk => ?_)) | (show WC _ _ _ _ _ _; first | refine jM ?_ | refine jN ?_ | refine jO ?_ | refine jP ?_ | refine jR ?_ | refine jS ?_ | refine jT ?_ | refine jU ?_) | (show WQ _ _ _ _; with_reducible first | refine jV ?_ | refine jW ?_ | refine jX ?_ | refine jY ?_ | refine jZ ?_ | refine kA ?_ | refine kB ?_ | refine kC ?_) | ((first | (refine jG (fun hc => ?_) (fun hc => ?_) <;> rw [hc]) | refine jQ (fun hc => ?_) (fun hc => ?_)) <;> (try simp only [nrB] at hc) <;> (try (exfalso; first | omega | exact hc trivial | exact hc rfl)))))
  refine OW_call rfl rfl rfl (Gv.holds ht2 (fun w h => h)) rfl (fun r L' hp => ?_)
  obtain ⟨rfl, rfl, hb2⟩ := hp
  by_cases h29b : 29 < z2
  · have h2 : s2.e = 0 := by
      by_cases h0 : s2.e = 0
      · exact h0
      · have := hte2 h0; omega
    rw [if_neg (show ¬ s2.e ≠ 0 by omega), if_pos h29b]
    have hf := wfail_n p q most 3 s2.e v (biC q fa d.length fc s2.t :: L)
    rw [if_pos h2] at hf
    (repeat' (first | (show WL _ _ _ _ _ _ _; first | refine jA ?_ | refine jB ?_ | refine jC ?_ | refine jD ?_ | refine jE ?_ | refine jF ?_) | (show OW _ _ _ _ _ _; first | refine OW_E ?_ | refine jI ?_ | refine jJ ?_ | refine jK (fun bk => ?_) | refine jL (fun bk => ?_)) | (show WC _ _ _ _ _ _; first | refine jM ?_ | refine jN ?_ | refine jO ?_ | refine jP ?_ | refine jR ?_ | refine jS ?_ | refine jT ?_ | refine jU ?_) | (show WQ _ _ _ _; with_reducible first | refine jV ?_ | refine jW ?_ | refine jX ?_ | refine jY ?_ | refine jZ ?_ | refine kA ?_ | refine kB ?_ | refine kC ?_) | ((first | (refine jG (fun hc => ?_) (fun hc => ?_) <;> rw [hc]) | refine jQ (fun hc => ?_) (fun hc => ?_)) <;> (try simp only [nrB] at hc) <;> (try (exfalso; first | omega | exact hc trivial | exact hc rfl)))))
    refine OW_call rfl rfl rfl hf rfl (fun r L' hp => ?_)
    obtain ⟨rfl, rfl⟩ := hp
    rw [hw1]
    (repeat' (first | (show WL _ _ _ _ _ _ _; first | refine jA ?_ | refine jB ?_ | refine jC ?_ | refine jD ?_ | refine jE ?_ | refine jF ?_) | (show OW _ _ _ _ _ _; first | refine OW_E ?_ | refine jI ?_ | refine jJ ?_ | refine jK (fun bk => ?_) | refine jL (fun bk => ?_)) | (show WC _ _ _ _ _ _; first | refine jM ?_ | refine jN ?_ | refine jO ?_ | refine jP ?_ | refine jR ?_ | refine jS ?_ | refine jT ?_ | refine jU ?_) | (show WQ _ _ _ _; with_reducible first | refine jV ?_ | refine jW ?_ | refine jX ?_ | refine jY ?_ | refine jZ ?_ | refine kA ?_ | refine kB ?_ | refine kC ?_) | ((first | (refine jG (fun hc => ?_) (fun hc => ?_) <;> rw [hc]) | refine jQ (fun hc => ?_) (fun hc => ?_)) <;> (try simp only [nrB] at hc) <;> (try (exfalso; first | omega | exact hc trivial | exact hc rfl)))))
    simp only [fl3 h2, fl_t]
    (first | refine WQ_retI rfl rfl ?_ | refine WQ_endI rfl rfl ?_)
    exact ⟨wkC p q v most 3 :: biC q fa d.length fc s2.t :: L, iD, hb2, .inl ⟨by decide, _, _, rfl, rfl⟩⟩
  by_cases h2 : s2.e ≠ 0
  · rw [if_pos h2, hw1]
    (repeat' (first | (show WL _ _ _ _ _ _ _; first | refine jA ?_ | refine jB ?_ | refine jC ?_ | refine jD ?_ | refine jE ?_ | refine jF ?_) | (show OW _ _ _ _ _ _; first | refine OW_E ?_ | refine jI ?_ | refine jJ ?_ | refine jK (fun bk => ?_) | refine jL (fun bk => ?_)) | (show WC _ _ _ _ _ _; first | refine jM ?_ | refine jN ?_ | refine jO ?_ | refine jP ?_ | refine jR ?_ | refine jS ?_ | refine jT ?_ | refine jU ?_) | (show WQ _ _ _ _; with_reducible first | refine jV ?_ | refine jW ?_ | refine jX ?_ | refine jY ?_ | refine jZ ?_ | refine kA ?_ | refine kB ?_ | refine kC ?_) | ((first | (refine jG (fun hc => ?_) (fun hc => ?_) <;> rw [hc]) | refine jQ (fun hc => ?_) (fun hc => ?_)) <;> (try simp only [nrB] at hc) <;> (try (exfalso; first | omega | exact hc trivial | exact hc rfl)))))
    (first | refine WQ_retI rfl rfl ?_ | refine WQ_endI rfl rfl ?_)
    exact ⟨wkC p q v most s2.e :: biC q fa d.length fc s2.t :: L, iD, hb2, .inl ⟨h2, _, _, rfl, rfl⟩⟩
  rw [if_neg h2, if_neg h29b, dyT_eq]
  have h2 : s2.e = 0 := by omega
  obtain ⟨n1, hn1⟩ : ∃ n1, n1 = 257 + z1 := ⟨_, rfl⟩
  obtain ⟨n2, hn2⟩ : ∃ n2, n2 = 1 + z2 := ⟨_, rfl⟩
  rw [← hn1, ← hn2]
  rw [hw1 v s2.e]
  (repeat' (first | (show WL _ _ _ _ _ _ _; first | refine jA ?_ | refine jB ?_ | refine jC ?_ | refine jD ?_ | refine jE ?_ | refine jF ?_) | (show OW _ _ _ _ _ _; first | refine OW_E ?_ | refine jI ?_ | refine jJ ?_ | refine jK (fun bk => ?_) | refine jL (fun bk => ?_)) | (show WC _ _ _ _ _ _; first | refine jM ?_ | refine jN ?_ | refine jO ?_ | refine jP ?_ | refine jR ?_ | refine jS ?_ | refine jT ?_ | refine jU ?_) | (show WQ _ _ _ _; with_reducible first | refine jV ?_ | refine jW ?_ | refine jX ?_ | refine jY ?_ | refine jZ ?_ | refine kA ?_ | refine kB ?_ | refine kC ?_) | ((first | (refine jG (fun hc => ?_) (fun hc => ?_) <;> rw [hc]) | refine jQ (fun hc => ?_) (fun hc => ?_)) <;> (try simp only [nrB] at hc) <;> (try (exfalso; first | omega | exact hc trivial | exact hc rfl)))))
  refine OW_buildSlice (cs := ivn ordL) rfl (by rfl) (by kernel_rfl) (by omega) rfl rfl (fun bo => ?_)
  (repeat' (first | (show WL _ _ _ _ _ _ _; first | refine jA ?_ | refine jB ?_ | refine jC ?_ | refine jD ?_ | refine jE ?_ | refine jF ?_) | (show OW _ _ _ _ _ _; first | refine OW_E ?_ | refine jI ?_ | refine jJ ?_ | refine jK (fun bk => ?_) | refine jL (fun bk => ?_)) | (show WC _ _ _ _ _ _; first | refine jM ?_ | refine jN ?_ | refine jO ?_ | refine jP ?_ | refine jR ?_ | refine jS ?_ | refine jT ?_ | refine jU ?_) | (show WQ _ _ _ _; with_reducible first | refine jV ?_ | refine jW ?_ | refine jX ?_ | refine jY ?_ | refine jZ ?_ | refine kA ?_ | refine kB ?_ | refine kC ?_) | ((first | (refine jG (fun hc => ?_) (fun hc => ?_) <;> rw [hc]) | refine jQ (fun hc => ?_) (fun hc => ?_)) <;> (try simp only [nrB] at hc) <;> (try (exfalso; first | omega | exact hc trivial | exact hc rfl)))))
  refine OW_makeSlice (m := 19) (c := 19) rfl rfl (by rfl) (by omega) (by omega) (by omega) rfl (fun b => ?_)
  rw [zeros_int]
  generalize hOL : ivn ordL = OL
  obtain ⟨o0, ho0⟩ : ∃ o0, o0 = List.replicate 19 0 := ⟨_, rfl⟩
  rw [← ho0]
  have ho0l : o0.length = 19 := by rw [ho0]; simp
  have ho07 : ∀ y ∈ o0, y ≤ 7 := by rw [ho0]; simp
  (repeat' (first | (show WL _ _ _ _ _ _ _; first | refine jA ?_ | refine jB ?_ | refine jC ?_ | refine jD ?_ | refine jE ?_ | refine jF ?_) | (show OW _ _ _ _ _ _; first | refine OW_E ?_ | refine jI ?_ | refine jJ ?_ | refine jK (fun bk => ?_) | refine jL (fun bk => ?_)) | (show WC _ _ _ _ _ _; first | refine jM ?_ | refine jN ?_ | refine jO ?_ | refine jP ?_ | refine jR ?_ | refine jS ?_ | refine jT ?_ | refine jU ?_) | (show WQ _ _ _ _; with_reducible first | refine jV ?_ | refine jW ?_ | refine jX ?_ | refine jY ?_ | refine jZ ?_ | refine kA ?_ | refine kB ?_ | refine kC ?_) | ((first | (refine jG (fun hc => ?_) (fun hc => ?_) <;> rw [hc]) | refine jQ (fun hc => ?_) (fun hc => ?_)) <;> (try simp only [nrB] at hc) <;> (try (exfalso; first | omega | exact hc trivial | exact hc rfl)))))
  have ht3 := wtake_n p q most 4 v fa fc d s2 ([(b, cl (ivn o0) 3)] :: [(bo, cl OL 3)] :: L) (sl_there (sl_there hv)) (by omega) hb2 (by omega)
  have htv3 := tv_lt d s2 4
  obtain ⟨LC, hLC⟩ : ∃ LC, LC = lcS d s2 := ⟨_, rfl⟩
  have hlg : lgS d (n1 + n2) s2 = if LC.1.e ≠ 0 then (LC.1, []) else lpS d LC.2 (n1 + n2) (n1 + n2) LC.1 [] := by rw [hLC]; rfl
  rw [hlg]
  clear hlg
  obtain ⟨LG, hLG⟩ : ∃ LG, LG = if LC.1.e ≠ 0 then (LC.1, []) else lpS d LC.2 (n1 + n2) (n1 + n2) LC.1 [] := ⟨_, rfl⟩
  rw [← hLG]
  obtain ⟨Y, hY⟩ : ∃ Y, Y = if LG.1.e ≠ 0 then (LG.1, [], 0) else dyK n1 LG := ⟨_, rfl⟩
  rw [← hY]
  unfold lcS at hLC
  rw [← ho0] at hLC
  clear ho0
  generalize tv d s2 4 = z at ht3 htv3 hLC
  generalize tk d s2 4 = s3 at ht3 hLC
  refine OW_call rfl rfl rfl (Gv.holds ht3 (fun w h => iH h)) rfl (fun r L' hp => ?_)
  obtain ⟨rfl, rfl, hb3⟩ := hp
  rw [hw1 v s3.e]
  (repeat' (first | (show WL _ _ _ _ _ _ _; first | refine jA ?_ | refine jB ?_ | refine jC ?_ | refine jD ?_ | refine jE ?_ | refine jF ?_) | (show OW _ _ _ _ _ _; first | refine OW_E ?_ | refine jI ?_ | refine jJ ?_ | refine jK (fun bk => ?_) | refine jL (fun bk => ?_)) | (show WC _ _ _ _ _ _; first | refine jM ?_ | refine jN ?_ | refine jO ?_ | refine jP ?_ | refine jR ?_ | refine jS ?_ | refine jT ?_ | refine jU ?_) | (show WQ _ _ _ _; with_reducible first | refine jV ?_ | refine jW ?_ | refine jX ?_ | refine jY ?_ | refine jZ ?_ | refine kA ?_ | refine kB ?_ | refine kC ?_) | ((first | (refine jG (fun hc => ?_) (fun hc => ?_) <;> rw [hc]) | refine jQ (fun hc => ?_) (fun hc => ?_)) <;> (try simp only [nrB] at hc) <;> (try (exfalso; first | omega | exact hc trivial | exact hc rfl)))))
  refine WC_loop (X := Nat × S6 × List Nat) (fun x => [(0, .pointer (some ⟨p, 0, none⟩)), (4, .int .i64 (n1 : Int)), (5, .int .i64 (n2 : Int)), (6, .slice (some ⟨bo, 0, none⟩) 19 19), (7, .slice (some ⟨b, 0, none⟩) 19 19), (8, .int .i64 ((4 + z : Nat) : Int)), (9, .int .i64 (x.1 : Int))])
    (fun x => wkC p q v most x.2.1.e :: biC q fa d.length fc x.2.1.t :: [(b, cl (ivn x.2.2) 3)] :: [(bo, cl OL 3)] :: L)
    (fun x => x.1 ≤ 4 + z ∧ x.2.1.t ≤ 8 * d.length ∧ x.2.2.length = 19 ∧ (∀ y ∈ x.2.2, y ≤ 7) ∧ (x.2.1.e = 0 → s3.e = 0 ∧ owS d (4 + z - x.1) x.1 x.2.1 x.2.2 = owS d (4 + z) 0 s3 o0) ∧ (x.2.1.e ≠ 0 → LC.1 = x.2.1)) (fun x => 4 + z - x.1) (0, s3, o0)
    ⟨Nat.zero_le _, hb3, ho0l, ho07, fun h => ⟨h, rfl⟩, fun h => by rw [hLC, if_pos h]⟩ (by repeat (first | exact Sub.nil | refine Sub.cons rfl ?_ | refine Sub.cons (lk_int rfl (by first | omega | (dsimp only; omega))) ?_)) (fun w h => iH h) ?_
  rintro ⟨i, s5, o⟩ ⟨hi, hb5, hol, ho7, hs5, he5⟩
  simp only at hi hb5 hol ho7 hs5 he5 ⊢
  rw [hw1 v s5.e]
  (repeat' (first | (show WL _ _ _ _ _ _ _; first | refine jA ?_ | refine jB ?_ | refine jC ?_ | refine jD ?_ | refine jE ?_ | refine jF ?_) | (show OW _ _ _ _ _ _; first | refine OW_E ?_ | refine jI ?_ | refine jJ ?_ | refine jK (fun bk => ?_) | refine jL (fun bk => ?_)) | (show WC _ _ _ _ _ _; first | refine jM ?_ | refine jN ?_ | refine jO ?_ | refine jP ?_ | refine jR ?_ | refine jS ?_ | refine jT ?_ | refine jU ?_) | (show WQ _ _ _ _; with_reducible first | refine jV ?_ | refine jW ?_ | refine jX ?_ | refine jY ?_ | refine jZ ?_ | refine kA ?_ | refine kB ?_ | refine kC ?_) | ((first | (refine jG (fun hc => ?_) (fun hc => ?_) <;> rw [hc]) | refine jQ (fun hc => ?_) (fun hc => ?_)) <;> (try simp only [nrB] at hc) <;> (try (exfalso; first | omega | exact hc trivial | exact hc rfl)))))
  · have h5 : s5.e = 0 := by omega
    obtain ⟨h3, hs5⟩ := hs5 h5
    obtain ⟨k2, hk2⟩ : ∃ k2, 4 + z - i = k2 + 1 := ⟨4 + z - i - 1, by omega⟩
    have hk3 : 4 + z - (i + 1) = k2 := by omega
    rw [hk2, owS] at hs5
    have ht6 := wtake_n p q most 3 v fa fc d s5 ([(b, cl (ivn o) 3)] :: [(bo, cl OL 3)] :: L) (sl_there (sl_there hv)) (by omega) hb5 (by omega)
    have htv6 := tv_lt d s5 3
    generalize tv d s5 3 = z6 at ht6 htv6 hs5
    generalize tk d s5 3 = s6 at ht6 hs5
    have ho19 : ordL.getD i 0 < 19 := by
      have : ∀ j, j < 19 → ordL.getD j 0 < 19 := by decide
      exact this i (by omega)
    have hcell : OL.toArray[i * 1]? = some (.int .i64 (ordL.getD i 0 : Int)) := by
      rw [Nat.mul_one, ← hOL]
      simpa using ivn_get (l := ordL) (i := i) (n := ordL.getD i 0) (by simp [List.getD, show i < ordL.length from by show i < 19; omega])
    generalize ordL.getD i 0 = oi at hs5 ho19 hcell
    refine WC_draw [[(bo, cl OL 3)]] [8] mixed ?_
    (refine WR_t 0 ?_; refine WR_t 1 ?_; refine WR_t 2 ?_)
    (refine WR_take 3 rfl rfl (by kernel_rfl) (by repeat (first | with_reducible exact PO.body | with_reducible exact RP_po | with_reducible refine PO.then ?_ | with_reducible refine PO.block ?_)) iC (EV_indexAddr0 (j := i) (len := 19) rfl rfl rfl (by omega)) (by rfl) ?_)
    (refine WR_take 4 rfl rfl (by kernel_rfl) (by repeat (first | with_reducible exact PO.body | with_reducible exact RP_po | with_reducible refine PO.then ?_ | with_reducible refine PO.block ?_)) iC (EV_load rfl (by exact Fnd.here) hcell) (by rfl) ?_)
    (refine WR_t 5 ?_)
    (refine WR_one 6 (by kernel_rfl) rfl rfl ?_)
    refine OW_call rfl rfl rfl (Gv.holds ht6 (fun w h => iH h)) rfl (fun r L' hp => ?_)
    obtain ⟨rfl, rfl, hb6⟩ := hp
    refine ⟨iC, ?_⟩
    (refine WR_take 7 rfl rfl (by kernel_rfl) (by repeat (first | with_reducible exact PO.body | with_reducible exact RP_po | with_reducible refine PO.then ?_ | with_reducible refine PO.block ?_)) iC (EV_indexAddr0 (j := oi) (len := 19) rfl rfl rfl (by omega)) (by rfl) ?_)
    (refine WR_last 8 (by kernel_rfl) rfl rfl rfl ?_)
    have hse : (ivn o).set (oi * 1) (.int .i64 (z6 : Int)) = ivn (o.set oi z6) := by simp [ivn, List.map_set]
    refine OW_storeTo (ivn (o.set oi z6)) rfl rfl rfl hse (by repeat (first | exact Upd.here | apply Upd.there)) (by rw [ivn_length]; omega) ?_
    (refine WR_done (by kernel_rfl) ?_)
    (repeat' (first | (show WL _ _ _ _ _ _ _; first | refine jA ?_ | refine jB ?_ | refine jC ?_ | refine jD ?_ | refine jE ?_ | refine jF ?_) | (show OW _ _ _ _ _ _; first | refine OW_E ?_ | refine jI ?_ | refine jJ ?_ | refine jK (fun bk => ?_) | refine jL (fun bk => ?_)) | (show WC _ _ _ _ _ _; first | refine jM ?_ | refine jN ?_ | refine jO ?_ | refine jP ?_ | refine jR ?_ | refine jS ?_ | refine jT ?_ | refine jU ?_) | (show WQ _ _ _ _; with_reducible first | refine jV ?_ | refine jW ?_ | refine jX ?_ | refine jY ?_ | refine jZ ?_ | refine kA ?_ | refine kB ?_ | refine kC ?_) | ((first | (refine jG (fun hc => ?_) (fun hc => ?_) <;> rw [hc]) | refine jQ (fun hc => ?_) (fun hc => ?_)) <;> (try simp only [nrB] at hc) <;> (try (exfalso; first | omega | exact hc trivial | exact hc rfl)))))
    refine WQ_round (X := Nat × S6 × List Nat) (μ := fun x => 4 + z - x.1) (x := (i, s5, o)) (i + 1, s6, o.set oi z6) (by simp only; omega) ⟨by simp only; omega, hb6, by simp only [List.length_set]; exact hol, fun y hy => ?_, fun h6 => ⟨h3, ?_⟩, fun h6 => ?_⟩ (by repeat (first | exact Sub.nil | refine Sub.cons rfl ?_ | refine Sub.cons (lk_int rfl (by first | omega | (dsimp only; omega))) ?_)) (fun w h => iH h)
    · rcases List.mem_or_eq_of_mem_set hy with h | rfl
      · exact ho7 y h
      · omega
    · simp only at h6 ⊢
      rw [hk3]
      rw [if_neg (show ¬ s6.e ≠ 0 from fun hh => hh h6)] at hs5
      exact hs5
    · simp only at h6 ⊢
      rw [if_pos h6] at hs5
      rw [hLC, if_neg (show ¬ s3.e ≠ 0 from fun hh => hh h3), ← hs5, if_pos (by exact h6)]
  · have h5 : s5.e ≠ 0 := by omega
    have hL := he5 h5
    rw [hL, if_pos h5] at hLG
    rw [hLG, if_pos (by exact h5)] at hY
    subst hY
    (first | refine WQ_retI rfl rfl ?_ | refine WQ_endI rfl rfl ?_)
    exact ⟨wkC p q v most s5.e :: biC q fa d.length fc s5.t :: L, iD, hb5, .inl ⟨h5, _, _, rfl, rfl⟩⟩
  · have h5 : s5.e ≠ 0 := by omega
    have hL := he5 h5
    rw [hL, if_pos h5] at hLG
    rw [hLG, if_pos (by exact h5)] at hY
    subst hY
    (first | refine WQ_retI rfl rfl ?_ | refine WQ_endI rfl rfl ?_)
    exact ⟨wkC p q v most s5.e :: biC q fa d.length fc s5.t :: L, iD, hb5, .inl ⟨h5, _, _, rfl, rfl⟩⟩
  have h5 : s5.e = 0 := by omega
  obtain ⟨h3, hs5⟩ := hs5 h5
  obtain rfl : i = 4 + z := by omega
  rw [show 4 + z - (4 + z) = 0 from by omega, owS] at hs5
  rw [if_neg (show ¬ s3.e ≠ 0 from fun hh => hh h3), ← hs5, if_neg (show ¬ (s5, o).1.e ≠ 0 from fun hh => hh h5)] at hLC
  simp only at hLC
  clear he5 hs5 ht3
  have ho15 : ∀ x ∈ o, x ≤ 15 := fun x hx => by have := ho7 x hx; omega
  have hcc := complete_n (some ⟨b, 0, none⟩) 19 (icn o) (wkC p q v most s5.e :: biC q fa d.length fc s5.t :: [(b, cl (ivn o) 3)] :: [(bo, cl OL 3)] :: L) (by rw [icn_length, hol, ivn_icn]; exact sl_there (sl_there (sl_cells (c := (ivn o).toArray) Fnd.here (by rw [ivn_length, hol]) (by simp)))) (by rw [icn_length]; omega)
  rw [icn_length, hol, wgt_icn ho15] at hcc
  have hBd : ((kS o : Int) == 32768) = decide (kS o = 32768) := by
    by_cases h : kS o = 32768
    · rw [h]; rfl
    · rw [decide_eq_false h]; simp; omega
  rw [hBd] at hcc
  by_cases hk : kS o = 32768
  · rw [if_pos hk] at hLC
    rw [decide_eq_true hk] at hcc
    refine OW_callP rfl rfl rfl hcc rfl ?_
    (repeat' (first | (show WL _ _ _ _ _ _ _; first | refine jA ?_ | refine jB ?_ | refine jC ?_ | refine jD ?_ | refine jE ?_ | refine jF ?_) | (show OW _ _ _ _ _ _; first | refine OW_E ?_ | refine jI ?_ | refine jJ ?_ | refine jK (fun bk => ?_) | refine jL (fun bk => ?_)) | (show WC _ _ _ _ _ _; first | refine jM ?_ | refine jN ?_ | refine jO ?_ | refine jP ?_ | refine jR ?_ | refine jS ?_ | refine jT ?_ | refine jU ?_) | (show WQ _ _ _ _; with_reducible first | refine jV ?_ | refine jW ?_ | refine jX ?_ | refine jY ?_ | refine jZ ?_ | refine kA ?_ | refine kB ?_ | refine kC ?_) | ((first | (refine jG (fun hc => ?_) (fun hc => ?_) <;> rw [hc]) | refine jQ (fun hc => ?_) (fun hc => ?_)) <;> (try simp only [nrB] at hc) <;> (try (exfalso; first | omega | exact hc trivial | exact hc rfl)))))
    obtain ⟨lp, hlp⟩ : ∃ lp, lp = bk := ⟨_, rfl⟩
    rw [← hlp]
    clear hlp
    rw [hLC, if_neg (show ¬ (s5, o).1.e ≠ 0 from fun hh => hh h5)] at hLG
    simp only at hLG
    have hcd := cdE_icn ho15 (by omega) (show kS o ≤ 32768 by omega)
    refine WC_loop (X := Nat × S6 × List Nat × Value × Chunk) (fun x => [(0, .pointer (some ⟨p, 0, none⟩)), (4, .int .i64 (n1 : Int)), (5, .int .i64 (n2 : Int)), (7, .slice (some ⟨b, 0, none⟩) 19 19), (10, .pointer (some ⟨lp, 0, none⟩))])
      (fun x => wkC p q v most x.2.1.e :: biC q fa d.length fc x.2.1.t :: lpC lp x.2.2.2.1 :: x.2.2.2.2 :: [(b, cl (ivn o) 3)] :: L)
      (fun x => x.2.1.t ≤ 8 * d.length ∧ x.2.2.1.length ≤ n1 + n2 ∧ Ow 3 1 x.2.2.2.1 x.2.2.1.length (ivn x.2.2.1) x.2.2.2.2 ∧ (x.2.1.e = 0 → n1 + n2 ≤ x.1 + x.2.2.1.length ∧ (∀ y ∈ x.2.2.1, y ≤ 15) ∧ lpS d o (n1 + n2) x.1 x.2.1 x.2.2.1 = LG) ∧ (x.2.1.e ≠ 0 → LG.1 = x.2.1)) (fun x => x.1) (n1 + n2, s5, [], .slice none 0 0, [])
      ⟨hb5, Nat.zero_le _, .inl ⟨rfl, rfl, rfl, rfl⟩, fun _ => ⟨by simp, by simp, hLG.symm⟩, fun h => absurd h5 h⟩ (by repeat (first | exact Sub.nil | refine Sub.cons rfl ?_ | refine Sub.cons (lk_int rfl (by first | omega | (dsimp only; omega))) ?_)) (fun w h => ?_) ?_
    · show Holds w ([(p, cl [.pointer (some ⟨q, 0, none⟩), v, .int .i64 (most : Int), .int .i64 (s5.e : Int)] 55)] :: biC q fa d.length fc s5.t :: [(lp, cl [.slice none 0 0] 57)] :: [] :: [(b, cl (ivn o) 3)] :: L)
      have h' : Holds w ([(p, cl [.pointer (some ⟨q, 0, none⟩), v, .int .i64 (most : Int), .int .i64 (s5.e : Int)] 55)] :: biC q fa d.length fc s5.t :: [(lp, cl [.slice none 0 0] 57)] :: [(b, cl (ivn o) 3)] :: L) := iH h
      simpa only [Holds, List.flatten_cons, List.nil_append] using h'
    clear h5 hb5 hcc hLC hLG
    rintro ⟨f, s7, l, lv, Cl⟩ ⟨hb7, hlm, hov, hs7, he7⟩
    simp only at hb7 hlm hov hs7 he7 ⊢
    obtain ⟨la, lc, rfl⟩ := ow_slc hov
    unfold lpC
    rw [hw1 v s7.e]
    (repeat' (first | (show WL _ _ _ _ _ _ _; first | refine jA ?_ | refine jB ?_ | refine jC ?_ | refine jD ?_ | refine jE ?_ | refine jF ?_) | (show OW _ _ _ _ _ _; first | refine OW_E ?_ | refine jI ?_ | refine jJ ?_ | refine jK (fun bk => ?_) | refine jL (fun bk => ?_)) | (show WC _ _ _ _ _ _; first | refine jM ?_ | refine jN ?_ | refine jO ?_ | refine jP ?_ | refine jR ?_ | refine jS ?_ | refine jT ?_ | refine jU ?_) | (show WQ _ _ _ _; with_reducible first | refine jV ?_ | refine jW ?_ | refine jX ?_ | refine jY ?_ | refine jZ ?_ | refine kA ?_ | refine kB ?_ | refine kC ?_) | ((first | (refine jG (fun hc => ?_) (fun hc => ?_) <;> rw [hc]) | refine jQ (fun hc => ?_) (fun hc => ?_)) <;> (try simp only [nrB] at hc) <;> (try (exfalso; first | omega | exact hc trivial | exact hc rfl)))))
    · have h7 : s7.e = 0 := by omega
      obtain ⟨hf7, h15, hlp7⟩ := hs7 h7
      obtain ⟨g, rfl⟩ : ∃ g, f = g + 1 := ⟨f - 1, by omega⟩
      rw [lpS, if_pos ⟨h7, by omega⟩] at hlp7
      have hr := wrepeat_n p q lp most (n1 + n2) v (.slice la l.length lc) (some ⟨b, 0, none⟩) 19 o l fa fc d s7 Cl ([(b, cl (ivn o) 3)] :: L) (by rw [hol, ivn_icn]; exact sl_cells (c := (ivn o).toArray) Fnd.here (by rw [ivn_length, hol]) (by simp)) hcd hol (sl_there hv) hl hb7 h7 hov hlm (by omega)
      rw [hol] at hr
      have hfa := rp_facts (d := d) (s := s7) (own := o) (m := n1 + n2) hol h15
      generalize rpS d o (n1 + n2) s7 l = s8 at hr hlp7 hfa
      generalize rpL d o s7 l = l8 at hr hlp7 hfa
      unfold lpC at hr
      rw [← Int.natCast_add]
      refine OW_call rfl rfl rfl (Gv.holds hr (fun w h => iH h)) rfl (fun r L' hp => ?_)
      obtain ⟨lv8, Cl8, rfl, ho8, rfl, hb8⟩ := hp
      (repeat' (first | (show WL _ _ _ _ _ _ _; first | refine jA ?_ | refine jB ?_ | refine jC ?_ | refine jD ?_ | refine jE ?_ | refine jF ?_) | (show OW _ _ _ _ _ _; first | refine OW_E ?_ | refine jI ?_ | refine jJ ?_ | refine jK (fun bk => ?_) | refine jL (fun bk => ?_)) | (show WC _ _ _ _ _ _; first | refine jM ?_ | refine jN ?_ | refine jO ?_ | refine jP ?_ | refine jR ?_ | refine jS ?_ | refine jT ?_ | refine jU ?_) | (show WQ _ _ _ _; with_reducible first | refine jV ?_ | refine jW ?_ | refine jX ?_ | refine jY ?_ | refine jZ ?_ | refine kA ?_ | refine kB ?_ | refine kC ?_) | ((first | (refine jG (fun hc => ?_) (fun hc => ?_) <;> rw [hc]) | refine jQ (fun hc => ?_) (fun hc => ?_)) <;> (try simp only [nrB] at hc) <;> (try (exfalso; first | omega | exact hc trivial | exact hc rfl)))))
      by_cases h8 : s8.e = 0
      · rw [if_pos h8] at hlp7 ho8
        obtain ⟨hx1, hx2, hx3⟩ := hfa h8
        refine WQ_round (X := Nat × S6 × List Nat × Value × Chunk) (μ := fun x => x.1) (x := (g + 1, s7, l, .slice la l.length lc, Cl)) (g, s8, l8, lv8, Cl8) (by simp only; omega) ⟨hb8, hx2, ho8, fun _ => ⟨by simp only; omega, hx3, hlp7⟩, fun hh => absurd h8 hh⟩ (by repeat (first | exact Sub.nil | refine Sub.cons rfl ?_ | refine Sub.cons (lk_int rfl (by first | omega | (dsimp only; omega))) ?_)) (fun w h => iH h)
      · rw [if_neg h8] at hlp7 ho8
        refine WQ_round (X := Nat × S6 × List Nat × Value × Chunk) (μ := fun x => x.1) (x := (g + 1, s7, l, .slice la l.length lc, Cl)) (g, s8, l, lv8, Cl8) (by simp only; omega) ⟨hb8, hlm, ho8, fun hh => absurd hh h8, fun _ => by rw [← hlp7]⟩ (by repeat (first | exact Sub.nil | refine Sub.cons rfl ?_ | refine Sub.cons (lk_int rfl (by first | omega | (dsimp only; omega))) ?_)) (fun w h => iH h)
    · have h7 : s7.e = 0 := by omega
      obtain ⟨hf7, h15, hlp7⟩ := hs7 h7
      have hlm : l.length = n1 + n2 := by omega
      have hq : lpS d o (n1 + n2) f s7 l = (s7, l) := by
        cases f with
        | zero => rfl
        | succ f => rw [lpS, if_neg (fun hh => by omega)]
      rw [hq] at hlp7
      rw [← hlp7, if_neg (show ¬ (s7, l).1.e ≠ 0 from fun hh => hh h7)] at hY
      unfold dyK at hY
      simp only at hY
      have hov2 := hov
      rcases hov2 with ⟨_, h0, _⟩ | ⟨b2, cap, rest, hve, rfl, hxl, hrl, hmc, hcm⟩
      · omega
      injection hve with q1 q2 q3
      subst q1 q3
      clear q2
      have hl4 : ∀ x ∈ l.take n1, x ≤ 15 := fun x hx => h15 x (List.mem_of_mem_take hx)
      have hd4 : ∀ x ∈ l.drop n1, x ≤ 15 := fun x hx => h15 x (List.mem_of_mem_drop hx)
      have hln : (l.take n1).length = n1 := by simp; omega
      have hdn : (l.drop n1).length = n2 := by simp; omega
      obtain ⟨x, hx⟩ : ∃ x, l[256]? = some x := ⟨l[256], List.getElem?_eq_getElem (by omega)⟩
      have hcell : (ivn l ++ rest).toArray[0 + 256 * 1]? = some (.int .i64 (x : Int)) := by
        have h5 := ivn_get hx
        have h6 := (List.getElem?_eq_some_iff.1 h5).1
        rw [List.getElem?_toArray, List.getElem?_append_left (by simpa using h6)]
        simpa using h5
      rw [show l.getD 256 0 = x from by simp [List.getD, hx]] at hY
      rw [hlm] at hmc
      rw [hlm]
      refine OW_EV (EV_sliceTo (h := n1) rfl rfl rfl (by omega)) rfl ?_
      (repeat' (first | (show WL _ _ _ _ _ _ _; first | refine jA ?_ | refine jB ?_ | refine jC ?_ | refine jD ?_ | refine jE ?_ | refine jF ?_) | (show OW _ _ _ _ _ _; first | refine OW_E ?_ | refine jI ?_ | refine jJ ?_ | refine jK (fun bk => ?_) | refine jL (fun bk => ?_)) | (show WC _ _ _ _ _ _; first | refine jM ?_ | refine jN ?_ | refine jO ?_ | refine jP ?_ | refine jR ?_ | refine jS ?_ | refine jT ?_ | refine jU ?_) | (show WQ _ _ _ _; with_reducible first | refine jV ?_ | refine jW ?_ | refine jX ?_ | refine jY ?_ | refine jZ ?_ | refine kA ?_ | refine kB ?_ | refine kC ?_) | ((first | (refine jG (fun hc => ?_) (fun hc => ?_) <;> rw [hc]) | refine jQ (fun hc => ?_) (fun hc => ?_)) <;> (try simp only [nrB] at hc) <;> (try (exfalso; first | omega | exact hc trivial | exact hc rfl)))))
      refine OW_EV (EV_sliceFrom0 (l := n1) (h := n1 + n2) rfl rfl rfl (by omega) (by omega) (by omega)) rfl ?_
      rw [show n1 + n2 - n1 = n2 from by omega]
      (repeat' (first | (show WL _ _ _ _ _ _ _; first | refine jA ?_ | refine jB ?_ | refine jC ?_ | refine jD ?_ | refine jE ?_ | refine jF ?_) | (show OW _ _ _ _ _ _; first | refine OW_E ?_ | refine jI ?_ | refine jJ ?_ | refine jK (fun bk => ?_) | refine jL (fun bk => ?_)) | (show WC _ _ _ _ _ _; first | refine jM ?_ | refine jN ?_ | refine jO ?_ | refine jP ?_ | refine jR ?_ | refine jS ?_ | refine jT ?_ | refine jU ?_) | (show WQ _ _ _ _; with_reducible first | refine jV ?_ | refine jW ?_ | refine jX ?_ | refine jY ?_ | refine jZ ?_ | refine kA ?_ | refine kB ?_ | refine kC ?_) | ((first | (refine jG (fun hc => ?_) (fun hc => ?_) <;> rw [hc]) | refine jQ (fun hc => ?_) (fun hc => ?_)) <;> (try simp only [nrB] at hc) <;> (try (exfalso; first | omega | exact hc trivial | exact hc rfl)))))
      obtain ⟨K, hK⟩ : ∃ K, K = [(p, cl [.pointer (some ⟨q, 0, none⟩), v, .int .i64 (most : Int), .int .i64 (s7.e : Int)] 55)] :: biC q fa d.length fc s7.t :: [(lp, cl [.slice (some ⟨b2, 0, none⟩) (n1 + n2) lc] 57)] :: [(b2, cl (ivn l ++ rest) 3)] :: [(b, cl (ivn o) 3)] :: L := ⟨_, rfl⟩
      have hS1 : ∀ L, Sl ([(b2, cl (ivn l ++ rest) 3)] :: L) 1 (.slice (some ⟨b2, 0, none⟩) (l.take n1).length lc) (l.take n1).length (intsN (icn (l.take n1))) := fun L => by
        rw [ivn_icn]
        exact .inr ⟨_, _, rfl, RdAt.cl' (l := ivn l ++ rest) Fnd.here (by
          rw [ivn_length]; unfold cut ivn
          rw [List.drop_zero, List.take_append_of_le_length (by simp; omega), List.map_take, List.length_take, Nat.min_eq_left (by omega)]), by rw [ivn_length]; simp⟩
      have hS2 : ∀ L, Sl ([(b2, cl (ivn l ++ rest) 3)] :: L) 1 (.slice (some ⟨b2, n1 * 1, none⟩) (l.drop n1).length (lc - n1)) (l.drop n1).length (intsN (icn (l.drop n1))) := fun L => by
        rw [ivn_icn]
        exact .inr ⟨_, _, rfl, RdAt.cl' (l := ivn l ++ rest) Fnd.here (by
          rw [ivn_length, hdn]; unfold cut ivn
          rw [List.drop_append_of_le_length (by simp; omega), List.take_append_of_le_length (by simp; omega), Nat.mul_one, ← List.map_drop, ← List.map_take, List.take_of_length_le (by omega)]), by rw [ivn_length]; simp⟩
      have hBd : ∀ o : List Nat, ((kS o : Int) == 32768) = decide (kS o = 32768) := fun o => by
        by_cases h : kS o = 32768
        · rw [h]; rfl
        · rw [decide_eq_false h]; simp; omega
      have hS1K : Sl K 1 (.slice (some ⟨b2, 0, none⟩) (l.take n1).length lc) (l.take n1).length (intsN (icn (l.take n1))) := by rw [hK]; exact sl_there (sl_there (sl_there (hS1 _)))
      have hS2K : Sl K 1 (.slice (some ⟨b2, n1 * 1, none⟩) (l.drop n1).length (lc - n1)) (l.drop n1).length (intsN (icn (l.drop n1))) := by rw [hK]; exact sl_there (sl_there (sl_there (hS2 _)))
      have hc1 := complete_n _ _ (icn (l.take n1)) K (by rw [icn_length]; exact hS1K) (by rw [icn_length]; omega)
      have hc2 := complete_n _ _ (icn (l.drop n1)) K (by rw [icn_length]; exact hS2K) (by rw [icn_length]; omega)
      have hsg := single_n _ _ (l.drop n1) K hS2K (by omega)
      rw [icn_length, wgt_icn hl4, hBd, hln] at hc1
      rw [icn_length, wgt_icn hd4, hBd, hdn] at hc2
      rw [hdn] at hsg
      have hf := wfail_n p q most 3 s7.e v (biC q fa d.length fc s7.t :: [(lp, cl [.slice (some ⟨b2, 0, none⟩) (n1 + n2) lc] 57)] :: [(b2, cl (ivn l ++ rest) 3)] :: [(b, cl (ivn o) 3)] :: L)
      rw [if_pos h7] at hf
      have hbad : ¬ (x ≠ 0 ∧ kS (l.take n1) = 32768 ∧ (kS (l.drop n1) = 32768 ∨ sgl (l.drop n1) = true)) → Y = (fl s7 3, [], 0) := fun h => by rw [hY, if_neg h]
      refine OW_EV (EV_indexAddr (j := 256) rfl rfl rfl (by omega)) rfl ?_
      (repeat' (first | (show WL _ _ _ _ _ _ _; first | refine jA ?_ | refine jB ?_ | refine jC ?_ | refine jD ?_ | refine jE ?_ | refine jF ?_) | (show OW _ _ _ _ _ _; first | refine OW_E ?_ | refine jI ?_ | refine jJ ?_ | refine jK (fun bk => ?_) | refine jL (fun bk => ?_)) | (show WC _ _ _ _ _ _; first | refine jM ?_ | refine jN ?_ | refine jO ?_ | refine jP ?_ | refine jR ?_ | refine jS ?_ | refine jT ?_ | refine jU ?_) | (show WQ _ _ _ _; with_reducible first | refine jV ?_ | refine jW ?_ | refine jX ?_ | refine jY ?_ | refine jZ ?_ | refine kA ?_ | refine kB ?_ | refine kC ?_) | ((first | (refine jG (fun hc => ?_) (fun hc => ?_) <;> rw [hc]) | refine jQ (fun hc => ?_) (fun hc => ?_)) <;> (try simp only [nrB] at hc) <;> (try (exfalso; first | omega | exact hc trivial | exact hc rfl)))))
      refine OW_EV (EV_load rfl (by exact Fnd.there (Fnd.there (Fnd.there Fnd.here))) hcell) rfl ?_
      rw [← hK]
      (repeat' (first | (show WL _ _ _ _ _ _ _; first | refine jA ?_ | refine jB ?_ | refine jC ?_ | refine jD ?_ | refine jE ?_ | refine jF ?_) | (show OW _ _ _ _ _ _; first | refine OW_E ?_ | refine jI ?_ | refine jJ ?_ | refine jK (fun bk => ?_) | refine jL (fun bk => ?_)) | (show WC _ _ _ _ _ _; first | refine jM ?_ | refine jN ?_ | refine jO ?_ | refine jP ?_ | refine jR ?_ | refine jS ?_ | refine jT ?_ | refine jU ?_) | (show WQ _ _ _ _; with_reducible first | refine jV ?_ | refine jW ?_ | refine jX ?_ | refine jY ?_ | refine jZ ?_ | refine kA ?_ | refine kB ?_ | refine kC ?_) | ((first | (refine jG (fun hc => ?_) (fun hc => ?_) <;> rw [hc]) | refine jQ (fun hc => ?_) (fun hc => ?_)) <;> (try simp only [nrB] at hc) <;> (try (exfalso; first | omega | exact hc trivial | exact hc rfl)))))
      · rw [hbad (fun hh => hh.1 (by omega))]
        simp only [fl3 h7, fl_t]
        rw [hK]
        refine OW_call rfl rfl rfl (Gv.holds hf (fun w h => iH h)) rfl (fun r L' hp => ?_)
        obtain ⟨rfl, rfl⟩ := hp
        (repeat' (first | (show WL _ _ _ _ _ _ _; first | refine jA ?_ | refine jB ?_ | refine jC ?_ | refine jD ?_ | refine jE ?_ | refine jF ?_) | (show OW _ _ _ _ _ _; first | refine OW_E ?_ | refine jI ?_ | refine jJ ?_ | refine jK (fun bk => ?_) | refine jL (fun bk => ?_)) | (show WC _ _ _ _ _ _; first | refine jM ?_ | refine jN ?_ | refine jO ?_ | refine jP ?_ | refine jR ?_ | refine jS ?_ | refine jT ?_ | refine jU ?_) | (show WQ _ _ _ _; with_reducible first | refine jV ?_ | refine jW ?_ | refine jX ?_ | refine jY ?_ | refine jZ ?_ | refine kA ?_ | refine kB ?_ | refine kC ?_) | ((first | (refine jG (fun hc => ?_) (fun hc => ?_) <;> rw [hc]) | refine jQ (fun hc => ?_) (fun hc => ?_)) <;> (try simp only [nrB] at hc) <;> (try (exfalso; first | omega | exact hc trivial | exact hc rfl)))))
        (first | refine WQ_retI rfl rfl ?_ | refine WQ_endI rfl rfl ?_)
        exact ⟨wkC p q v most 3 :: biC q fa d.length fc s7.t :: L, iD, hb7, .inl ⟨by decide, _, _, rfl, rfl⟩⟩
      by_cases hk1 : kS (l.take n1) = 32768
      · rw [decide_eq_true hk1] at hc1
        refine OW_callP rfl rfl rfl hc1 rfl ?_
        (repeat' (first | (show WL _ _ _ _ _ _ _; first | refine jA ?_ | refine jB ?_ | refine jC ?_ | refine jD ?_ | refine jE ?_ | refine jF ?_) | (show OW _ _ _ _ _ _; first | refine OW_E ?_ | refine jI ?_ | refine jJ ?_ | refine jK (fun bk => ?_) | refine jL (fun bk => ?_)) | (show WC _ _ _ _ _ _; first | refine jM ?_ | refine jN ?_ | refine jO ?_ | refine jP ?_ | refine jR ?_ | refine jS ?_ | refine jT ?_ | refine jU ?_) | (show WQ _ _ _ _; with_reducible first | refine jV ?_ | refine jW ?_ | refine jX ?_ | refine jY ?_ | refine jZ ?_ | refine kA ?_ | refine kB ?_ | refine kC ?_) | ((first | (refine jG (fun hc => ?_) (fun hc => ?_) <;> rw [hc]) | refine jQ (fun hc => ?_) (fun hc => ?_)) <;> (try simp only [nrB] at hc) <;> (try (exfalso; first | omega | exact hc trivial | exact hc rfl)))))
        by_cases hk2 : kS (l.drop n1) = 32768
        · rw [decide_eq_true hk2] at hc2
          refine OW_callP rfl rfl rfl hc2 rfl ?_
          (repeat' (first | (show WL _ _ _ _ _ _ _; first | refine jA ?_ | refine jB ?_ | refine jC ?_ | refine jD ?_ | refine jE ?_ | refine jF ?_) | (show OW _ _ _ _ _ _; first | refine OW_E ?_ | refine jI ?_ | refine jJ ?_ | refine jK (fun bk => ?_) | refine jL (fun bk => ?_)) | (show WC _ _ _ _ _ _; first | refine jM ?_ | refine jN ?_ | refine jO ?_ | refine jP ?_ | refine jR ?_ | refine jS ?_ | refine jT ?_ | refine jU ?_) | (show WQ _ _ _ _; with_reducible first | refine jV ?_ | refine jW ?_ | refine jX ?_ | refine jY ?_ | refine jZ ?_ | refine kA ?_ | refine kB ?_ | refine kC ?_) | ((first | (refine jG (fun hc => ?_) (fun hc => ?_) <;> rw [hc]) | refine jQ (fun hc => ?_) (fun hc => ?_)) <;> (try simp only [nrB] at hc) <;> (try (exfalso; first | omega | exact hc trivial | exact hc rfl)))))
          have hYo : Y = (s7, l, n1) := by rw [hY, if_pos ⟨show x ≠ 0 by omega, hk1, .inl hk2⟩]
          rw [hYo, hK]
          have hks := kS_sum (l.drop n1)
          have hkd : kS (l.drop n1) ≤ 32768 := by
            rcases (.inl hk2 : kS (l.drop n1) = 32768 ∨ sgl (l.drop n1) = true) with h | h
            · omega
            · rw [sgl_sum] at h
              have := of_decide_eq_true h
              omega
          (first | refine WQ_retI rfl rfl ?_ | refine WQ_endI rfl rfl ?_)
          exact ⟨wkC p q v most s7.e :: biC q fa d.length fc s7.t :: [(b2, cl (ivn l ++ rest) 3)] :: L, iD, hb7, .inr ⟨h7, some ⟨b2, 0, none⟩, lc, some ⟨b2, n1 * 1, none⟩, lc - n1, l.take n1, l.drop n1, _, by rw [hln, hdn]; rfl, rfl, rfl, ⟨hS1⟩, ⟨hS2⟩, cdE_icn hl4 (by omega) (by omega), cdE_icn hd4 (by omega) hkd, by omega, rfl⟩⟩
        · rw [decide_eq_false hk2] at hc2
          refine OW_callP rfl rfl rfl hc2 rfl ?_
          (repeat' (first | (show WL _ _ _ _ _ _ _; first | refine jA ?_ | refine jB ?_ | refine jC ?_ | refine jD ?_ | refine jE ?_ | refine jF ?_) | (show OW _ _ _ _ _ _; first | refine OW_E ?_ | refine jI ?_ | refine jJ ?_ | refine jK (fun bk => ?_) | refine jL (fun bk => ?_)) | (show WC _ _ _ _ _ _; first | refine jM ?_ | refine jN ?_ | refine jO ?_ | refine jP ?_ | refine jR ?_ | refine jS ?_ | refine jT ?_ | refine jU ?_) | (show WQ _ _ _ _; with_reducible first | refine jV ?_ | refine jW ?_ | refine jX ?_ | refine jY ?_ | refine jZ ?_ | refine kA ?_ | refine kB ?_ | refine kC ?_) | ((first | (refine jG (fun hc => ?_) (fun hc => ?_) <;> rw [hc]) | refine jQ (fun hc => ?_) (fun hc => ?_)) <;> (try simp only [nrB] at hc) <;> (try (exfalso; first | omega | exact hc trivial | exact hc rfl)))))
          cases hsb : sgl (l.drop n1) with
          | false =>
            rw [hsb] at hsg
            refine OW_callP rfl rfl rfl hsg rfl ?_
            (repeat' (first | (show WL _ _ _ _ _ _ _; first | refine jA ?_ | refine jB ?_ | refine jC ?_ | refine jD ?_ | refine jE ?_ | refine jF ?_) | (show OW _ _ _ _ _ _; first | refine OW_E ?_ | refine jI ?_ | refine jJ ?_ | refine jK (fun bk => ?_) | refine jL (fun bk => ?_)) | (show WC _ _ _ _ _ _; first | refine jM ?_ | refine jN ?_ | refine jO ?_ | refine jP ?_ | refine jR ?_ | refine jS ?_ | refine jT ?_ | refine jU ?_) | (show WQ _ _ _ _; with_reducible first | refine jV ?_ | refine jW ?_ | refine jX ?_ | refine jY ?_ | refine jZ ?_ | refine kA ?_ | refine kB ?_ | refine kC ?_) | ((first | (refine jG (fun hc => ?_) (fun hc => ?_) <;> rw [hc]) | refine jQ (fun hc => ?_) (fun hc => ?_)) <;> (try simp only [nrB] at hc) <;> (try (exfalso; first | omega | exact hc trivial | exact hc rfl)))))
            rw [hbad (fun hh => by rcases hh.2.2 with h | h; exact hk2 h; rw [hsb] at h; cases h)]
            simp only [fl3 h7, fl_t]
            rw [hK]
            refine OW_call rfl rfl rfl (Gv.holds hf (fun w h => iH h)) rfl (fun r L' hp => ?_)
            obtain ⟨rfl, rfl⟩ := hp
            (repeat' (first | (show WL _ _ _ _ _ _ _; first | refine jA ?_ | refine jB ?_ | refine jC ?_ | refine jD ?_ | refine jE ?_ | refine jF ?_) | (show OW _ _ _ _ _ _; first | refine OW_E ?_ | refine jI ?_ | refine jJ ?_ | refine jK (fun bk => ?_) | refine jL (fun bk => ?_)) | (show WC _ _ _ _ _ _; first | refine jM ?_ | refine jN ?_ | refine jO ?_ | refine jP ?_ | refine jR ?_ | refine jS ?_ | refine jT ?_ | refine jU ?_) | (show WQ _ _ _ _; with_reducible first | refine jV ?_ | refine jW ?_ | refine jX ?_ | refine jY ?_ | refine jZ ?_ | refine kA ?_ | refine kB ?_ | refine kC ?_) | ((first | (refine jG (fun hc => ?_) (fun hc => ?_) <;> rw [hc]) | refine jQ (fun hc => ?_) (fun hc => ?_)) <;> (try simp only [nrB] at hc) <;> (try (exfalso; first | omega | exact hc trivial | exact hc rfl)))))
            (first | refine WQ_retI rfl rfl ?_ | refine WQ_endI rfl rfl ?_)
            exact ⟨wkC p q v most 3 :: biC q fa d.length fc s7.t :: L, iD, hb7, .inl ⟨by decide, _, _, rfl, rfl⟩⟩
          | true =>
            rw [hsb] at hsg
            refine OW_callP rfl rfl rfl hsg rfl ?_
            (repeat' (first | (show WL _ _ _ _ _ _ _; first | refine jA ?_ | refine jB ?_ | refine jC ?_ | refine jD ?_ | refine jE ?_ | refine jF ?_) | (show OW _ _ _ _ _ _; first | refine OW_E ?_ | refine jI ?_ | refine jJ ?_ | refine jK (fun bk => ?_) | refine jL (fun bk => ?_)) | (show WC _ _ _ _ _ _; first | refine jM ?_ | refine jN ?_ | refine jO ?_ | refine jP ?_ | refine jR ?_ | refine jS ?_ | refine jT ?_ | refine jU ?_) | (show WQ _ _ _ _; with_reducible first | refine jV ?_ | refine jW ?_ | refine jX ?_ | refine jY ?_ | refine jZ ?_ | refine kA ?_ | refine kB ?_ | refine kC ?_) | ((first | (refine jG (fun hc => ?_) (fun hc => ?_) <;> rw [hc]) | refine jQ (fun hc => ?_) (fun hc => ?_)) <;> (try simp only [nrB] at hc) <;> (try (exfalso; first | omega | exact hc trivial | exact hc rfl)))))
            have hYo : Y = (s7, l, n1) := by rw [hY, if_pos ⟨show x ≠ 0 by omega, hk1, .inr hsb⟩]
            rw [hYo, hK]
            have hks := kS_sum (l.drop n1)
            have hkd : kS (l.drop n1) ≤ 32768 := by
              rcases (.inr hsb : kS (l.drop n1) = 32768 ∨ sgl (l.drop n1) = true) with h | h
              · omega
              · rw [sgl_sum] at h
                have := of_decide_eq_true h
                omega
            (first | refine WQ_retI rfl rfl ?_ | refine WQ_endI rfl rfl ?_)
            exact ⟨wkC p q v most s7.e :: biC q fa d.length fc s7.t :: [(b2, cl (ivn l ++ rest) 3)] :: L, iD, hb7, .inr ⟨h7, some ⟨b2, 0, none⟩, lc, some ⟨b2, n1 * 1, none⟩, lc - n1, l.take n1, l.drop n1, _, by rw [hln, hdn]; rfl, rfl, rfl, ⟨hS1⟩, ⟨hS2⟩, cdE_icn hl4 (by omega) (by omega), cdE_icn hd4 (by omega) hkd, by omega, rfl⟩⟩
      · rw [decide_eq_false hk1] at hc1
        refine OW_callP rfl rfl rfl hc1 rfl ?_
        (repeat' (first | (show WL _ _ _ _ _ _ _; first | refine jA ?_ | refine jB ?_ | refine jC ?_ | refine jD ?_ | refine jE ?_ | refine jF ?_) | (show OW _ _ _ _ _ _; first | refine OW_E ?_ | refine jI ?_ | refine jJ ?_ | refine jK (fun bk => ?_) | refine jL (fun bk => ?_)) | (show WC _ _ _ _ _ _; first | refine jM ?_ | refine jN ?_ | refine jO ?_ | refine jP ?_ | refine jR ?_ | refine jS ?_ | refine jT ?_ | refine jU ?_) | (show WQ _ _ _ _; with_reducible first | refine jV ?_ | refine jW ?_ | refine jX ?_ | refine jY ?_ | refine jZ ?_ | refine kA ?_ | refine kB ?_ | refine kC ?_) | ((first | (refine jG (fun hc => ?_) (fun hc => ?_) <;> rw [hc]) | refine jQ (fun hc => ?_) (fun hc => ?_)) <;> (try simp only [nrB] at hc) <;> (try (exfalso; first | omega | exact hc trivial | exact hc rfl)))))
        rw [hbad (fun hh => hk1 hh.2.1)]
        simp only [fl3 h7, fl_t]
        rw [hK]
        refine OW_call rfl rfl rfl (Gv.holds hf (fun w h => iH h)) rfl (fun r L' hp => ?_)
        obtain ⟨rfl, rfl⟩ := hp
        (repeat' (first | (show WL _ _ _ _ _ _ _; first | refine jA ?_ | refine jB ?_ | refine jC ?_ | refine jD ?_ | refine jE ?_ | refine jF ?_) | (show OW _ _ _ _ _ _; first | refine OW_E ?_ | refine jI ?_ | refine jJ ?_ | refine jK (fun bk => ?_) | refine jL (fun bk => ?_)) | (show WC _ _ _ _ _ _; first | refine jM ?_ | refine jN ?_ | refine jO ?_ | refine jP ?_ | refine jR ?_ | refine jS ?_ | refine jT ?_ | refine jU ?_) | (show WQ _ _ _ _; with_reducible first | refine jV ?_ | refine jW ?_ | refine jX ?_ | refine jY ?_ | refine jZ ?_ | refine kA ?_ | refine kB ?_ | refine kC ?_) | ((first | (refine jG (fun hc => ?_) (fun hc => ?_) <;> rw [hc]) | refine jQ (fun hc => ?_) (fun hc => ?_)) <;> (try simp only [nrB] at hc) <;> (try (exfalso; first | omega | exact hc trivial | exact hc rfl)))))
        (first | refine WQ_retI rfl rfl ?_ | refine WQ_endI rfl rfl ?_)
        exact ⟨wkC p q v most 3 :: biC q fa d.length fc s7.t :: L, iD, hb7, .inl ⟨by decide, _, _, rfl, rfl⟩⟩
    · have h7 : s7.e ≠ 0 := by omega
      have hL := he7 h7
      rw [hL, if_pos h7] at hY
      subst hY
      (first | refine WQ_retI rfl rfl ?_ | refine WQ_endI rfl rfl ?_)
      exact ⟨wkC p q v most s7.e :: biC q fa d.length fc s7.t :: L, iD, hb7, .inl ⟨h7, _, _, rfl, rfl⟩⟩
  · rw [if_neg hk] at hLC
    rw [decide_eq_false hk] at hcc
    refine OW_callP rfl rfl rfl hcc rfl ?_
    have hf := wfail_n p q most 3 s5.e v (biC q fa d.length fc s5.t :: [(b, cl (ivn o) 3)] :: [(bo, cl OL 3)] :: L)
    rw [if_pos h5] at hf
    rw [hLC, if_pos (by rw [fl3 h5]; decide)] at hLG
    rw [hLG, if_pos (by rw [fl3 h5]; decide)] at hY
    subst hY
    simp only [fl3 h5, fl_t]
    (repeat' (first | (show WL _ _ _ _ _ _ _; first | refine jA ?_ | refine jB ?_ | refine jC ?_ | refine jD ?_ | refine jE ?_ | refine jF ?_) | (show OW _ _ _ _ _ _; first | refine OW_E ?_ | refine jI ?_ | refine jJ ?_ | refine jK (fun bk => ?_) | refine jL (fun bk => ?_)) | (show WC _ _ _ _ _ _; first | refine jM ?_ | refine jN ?_ | refine jO ?_ | refine jP ?_ | refine jR ?_ | refine jS ?_ | refine jT ?_ | refine jU ?_) | (show WQ _ _ _ _; with_reducible first | refine jV ?_ | refine jW ?_ | refine jX ?_ | refine jY ?_ | refine jZ ?_ | refine kA ?_ | refine kB ?_ | refine kC ?_) | ((first | (refine jG (fun hc => ?_) (fun hc => ?_) <;> rw [hc]) | refine jQ (fun hc => ?_) (fun hc => ?_)) <;> (try simp only [nrB] at hc) <;> (try (exfalso; first | omega | exact hc trivial | exact hc rfl)))))
    refine OW_call rfl rfl rfl hf rfl (fun r L' hp => ?_)
    obtain ⟨rfl, rfl⟩ := hp
    rw [hw1 v 3]
    (repeat' (first | (show WL _ _ _ _ _ _ _; first | refine jA ?_ | refine jB ?_ | refine jC ?_ | refine jD ?_ | refine jE ?_ | refine jF ?_) | (show OW _ _ _ _ _ _; first | refine OW_E ?_ | refine jI ?_ | refine jJ ?_ | refine jK (fun bk => ?_) | refine jL (fun bk => ?_)) | (show WC _ _ _ _ _ _; first | refine jM ?_ | refine jN ?_ | refine jO ?_ | refine jP ?_ | refine jR ?_ | refine jS ?_ | refine jT ?_ | refine jU ?_) | (show WQ _ _ _ _; with_reducible first | refine jV ?_ | refine jW ?_ | refine jX ?_ | refine jY ?_ | refine jZ ?_ | refine kA ?_ | refine kB ?_ | refine kC ?_) | ((first | (refine jG (fun hc => ?_) (fun hc => ?_) <;> rw [hc]) | refine jQ (fun hc => ?_) (fun hc => ?_)) <;> (try simp only [nrB] at hc) <;> (try (exfalso; first | omega | exact hc trivial | exact hc rfl)))))
    refine WC_loop (X := Unit) (fun _ => [(0, .pointer (some ⟨p, 0, none⟩))]) (fun _ => wkC p q v most 3 :: biC q fa d.length fc s5.t :: L) (fun _ => True) (fun _ => 0) () trivial (by repeat (first | exact Sub.nil | refine Sub.cons rfl ?_ | refine Sub.cons (lk_int rfl (by first | omega | (dsimp only; omega))) ?_)) (fun w h => iH h) ?_
    intro _ _
    rw [hw1 v 3]
    (repeat' (first | (show WL _ _ _ _ _ _ _; first | refine jA ?_ | refine jB ?_ | refine jC ?_ | refine jD ?_ | refine jE ?_ | refine jF ?_) | (show OW _ _ _ _ _ _; first | refine OW_E ?_ | refine jI ?_ | refine jJ ?_ | refine jK (fun bk => ?_) | refine jL (fun bk => ?_)) | (show WC _ _ _ _ _ _; first | refine jM ?_ | refine jN ?_ | refine jO ?_ | refine jP ?_ | refine jR ?_ | refine jS ?_ | refine jT ?_ | refine jU ?_) | (show WQ _ _ _ _; with_reducible first | refine jV ?_ | refine jW ?_ | refine jX ?_ | refine jY ?_ | refine jZ ?_ | refine kA ?_ | refine kB ?_ | refine kC ?_) | ((first | (refine jG (fun hc => ?_) (fun hc => ?_) <;> rw [hc]) | refine jQ (fun hc => ?_) (fun hc => ?_)) <;> (try simp only [nrB] at hc) <;> (try (exfalso; first | omega | exact hc trivial | exact hc rfl)))))
    (first | refine WQ_retI rfl rfl ?_ | refine WQ_endI rfl rfl ?_)
    exact ⟨wkC p q v most 3 :: biC q fa d.length fc s5.t :: L, iD, hb5, .inl ⟨by decide, _, _, rfl, rfl⟩⟩
end Go.Proofs.YtkiaegkojlhaeaaDoor
