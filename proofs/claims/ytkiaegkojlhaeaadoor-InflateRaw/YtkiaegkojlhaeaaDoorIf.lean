/- The document's own answer for layer 6: a block of codes. It proves no statement by itself. No conditions. -/
import Derived.Test.YtkiaegkojlhaeaaDoorIe
import Derived.Test.YtkiaegkojlhaeaaDoorYj
namespace Go.Proofs.YtkiaegkojlhaeaaDoor
open Go Go.Vx Go.Hf Go.If
variable [W0]
set_option maxRecDepth 4000
set_option linter.all false

set_option maxHeartbeats 16000000 in
theorem wcoded_n (p q most : Nat) (v : Value) (a a2 : Option Addr) (c c2 : Nat) (l dl : List Nat) (fa : Option Addr) (fc : Nat) (d : List UInt8) (s : S6) (C : Chunk) (L : List Chunk) (hls : Sl L 1 (.slice a l.length c) l.length (intsN (icn l))) (hokl : cdE (icn l) = 0) (hll : l.length ≤ 400)
    (hd : Sl L 1 (.slice a2 dl.length c2) dl.length (intsN (icn dl))) (hok : cdE (icn dl) = 0) (hv : Sl L 1 (.slice fa d.length fc) d.length (bsv d)) (hl : d.length ≤ 1000000) (ht : s.t ≤ 8 * d.length) (hm : most ≤ 1000000) (ho : Ow 5 1 v s.out.length (bsv s.out) C) :
    Gv Tryd.prog 23 [.pointer (some ⟨p, 0, none⟩), .slice a l.length c, .slice a2 dl.length c2].toArray (wkC p q v most s.e :: biC q fa d.length fc s.t :: C :: L) (fun r L' =>
      ∃ v' C', r = .tuple #[] ∧ Ow 5 1 v' (cdC d most l dl (8 * d.length + 1) s).out.length (bsv (cdC d most l dl (8 * d.length + 1) s).out) C' ∧ L' = wkC p q v' most (cdC d most l dl (8 * d.length + 1) s).e :: biC q fa d.length fc (cdC d most l dl (8 * d.length + 1) s).t :: C' :: L ∧ (cdC d most l dl (8 * d.length + 1) s).t ≤ 8 * d.length) := by
  refine Gv.of_body Tryd.func23 rfl rfl ?_
  have hil : (icn l).length = l.length := icn_length l
  have hw1 : ∀ v e (L : List Chunk), wkC p q v most e :: L = [(p, cl [.pointer (some ⟨q, 0, none⟩), v, .int .i64 (most : Int), .int .i64 (e : Int)] 55)] :: L := fun _ _ _ => rfl
  generalize hR : cdC d most l dl (8 * d.length + 1) s = R
  (repeat' (first | (show WL _ _ _ _ _ _ _; first | refine jA ?_ | refine jB ?_ | refine jC ?_ | refine jD ?_ | refine jE ?_ | refine jF ?_) | (show OW _ _ _ _ _ _; first | refine OW_E ?_ | refine jI ?_ | refine jJ ?_ | refine jK (fun bk => ?_) | refine jL (fun bk => ?_)) | (show WC _ _ _ _ _ _; first | refine jM ?_ | refine jN ?_ | refine jO ?_ | refine jP ?_ | refine jR ?_ | refine jS ?_ | refine jT ?_ | refine jU ?_) | (show WQ _ _ _ _; with_reducible first | refine jV ?_ | refine jW ?_ | refine jX ?_ | refine jY ?_ | refine jZ ?_ | refine kA ?_ | refine kB ?_ | refine kC ?_) | ((first | (refine jG (fun hc => ?_) (fun hc => ?_) <;> rw [hc]) | refine jQ (fun hc => ?_) (fun hc => ?_)) <;> (try simp only [nrB] at hc) <;> (try (exfalso; first | omega | exact hc trivial | exact hc rfl)))))
  refine WC_loop (X := Nat × S6 × Value × Chunk) (fun x => [(0, .pointer (some ⟨p, 0, none⟩)), (1, .slice a l.length c), (2, .slice a2 dl.length c2)]) (fun x => wkC p q x.2.2.1 most x.2.1.e :: biC q fa d.length fc x.2.1.t :: x.2.2.2 :: L)
    (fun x => x.2.1.t ≤ 8 * d.length ∧ (x.2.1.e = 0 → 8 * d.length < x.1 + x.2.1.t) ∧ Ow 5 1 x.2.2.1 x.2.1.out.length (bsv x.2.1.out) x.2.2.2 ∧ cdC d most l dl x.1 x.2.1 = R) (fun x => x.1) (8 * d.length + 1, s, v, C) ⟨ht, fun _ => by simp only; omega, ho, hR⟩ (by repeat (first | exact Sub.nil | refine Sub.cons rfl ?_ | refine Sub.cons (lk_int rfl (by first | omega | (dsimp only; omega))) ?_)) (fun w h => h) ?_
  rintro ⟨f, s1, v1, C1⟩ ⟨hst, hf, hov, hsl⟩
  simp only at hst hf hov hsl ⊢
  rw [hw1]
  (repeat' (first | (show WL _ _ _ _ _ _ _; first | refine jA ?_ | refine jB ?_ | refine jC ?_ | refine jD ?_ | refine jE ?_ | refine jF ?_) | (show OW _ _ _ _ _ _; first | refine OW_E ?_ | refine jI ?_ | refine jJ ?_ | refine jK (fun bk => ?_) | refine jL (fun bk => ?_)) | (show WC _ _ _ _ _ _; first | refine jM ?_ | refine jN ?_ | refine jO ?_ | refine jP ?_ | refine jR ?_ | refine jS ?_ | refine jT ?_ | refine jU ?_) | (show WQ _ _ _ _; with_reducible first | refine jV ?_ | refine jW ?_ | refine jX ?_ | refine jY ?_ | refine jZ ?_ | refine kA ?_ | refine kB ?_ | refine kC ?_) | ((first | (refine jG (fun hc => ?_) (fun hc => ?_) <;> rw [hc]) | refine jQ (fun hc => ?_) (fun hc => ?_)) <;> (try simp only [nrB] at hc) <;> (try (exfalso; first | omega | exact hc trivial | exact hc rfl)))))
  · have he0 : s1.e = 0 := by omega
    have hf := hf he0
    obtain ⟨f, rfl⟩ : ∃ g, f = g + 1 := ⟨f - 1, by omega⟩
    have hs1 := wsym_n p q most v1 a c (icn l) fa fc d s1 (C1 :: L) (by rw [hil]; exact sl_there hls) hokl (sl_there hv) (by omega) hst
    rw [hil, nl_icn] at hs1
    rw [cdC, if_neg (show ¬ s1.e ≠ 0 by omega)] at hsl
    have hgo := fun h => sy_go (d := d) (l := l) he0 h
    have hsv := sv_le d s1 l
    have hso := sy_out d s1 l
    have hpt := fun c => pt_t most (sy d s1 l) c
    have hmt := fun k => mtS_t d most k dl (sy d s1 l)
    rw [← hso] at hov
    generalize sv d s1 l = k at hs1 hsl hsv
    generalize sy d s1 l = s2 at hs1 hsl hgo hso hpt hmt hov
    refine OW_call rfl rfl rfl hs1 rfl (fun r L' hp => ?_)
    obtain ⟨rfl, rfl, hb2⟩ := hp
    rw [hw1]
    (repeat' (first | (show WL _ _ _ _ _ _ _; first | refine jA ?_ | refine jB ?_ | refine jC ?_ | refine jD ?_ | refine jE ?_ | refine jF ?_) | (show OW _ _ _ _ _ _; first | refine OW_E ?_ | refine jI ?_ | refine jJ ?_ | refine jK (fun bk => ?_) | refine jL (fun bk => ?_)) | (show WC _ _ _ _ _ _; first | refine jM ?_ | refine jN ?_ | refine jO ?_ | refine jP ?_ | refine jR ?_ | refine jS ?_ | refine jT ?_ | refine jU ?_) | (show WQ _ _ _ _; with_reducible first | refine jV ?_ | refine jW ?_ | refine jX ?_ | refine jY ?_ | refine jZ ?_ | refine kA ?_ | refine kB ?_ | refine kC ?_) | ((first | (refine jG (fun hc => ?_) (fun hc => ?_) <;> rw [hc]) | refine jQ (fun hc => ?_) (fun hc => ?_)) <;> (try simp only [nrB] at hc) <;> (try (exfalso; first | omega | exact hc trivial | exact hc rfl)))))
    · rw [if_pos (show s2.e ≠ 0 by omega)] at hsl
      have he2 : s2.e ≠ 0 := by omega
      refine WQ_round (X := Nat × S6 × Value × Chunk) (μ := fun x => x.1) (x := (f + 1, s1, v1, C1)) (f, s2, v1, C1) (by simp only; omega) ⟨hb2, fun h => absurd h he2, hov, by simp only; rw [cdC_err he2]; exact hsl⟩ (by repeat (first | exact Sub.nil | refine Sub.cons rfl ?_ | refine Sub.cons (lk_int rfl (by first | omega | (dsimp only; omega))) ?_)) (fun w h => h)
    · have hgo := hgo (by omega)
      rw [if_neg (show ¬ s2.e ≠ 0 by omega), if_pos (show k < 256 by omega)] at hsl
      try rw [wrap_byte]
      have hput := wput_n p q most (UInt8.ofNat k) v1 s2 C1 (biC q fa d.length fc s2.t :: L) hov hm
      have hpt := hpt (UInt8.ofNat k)
      unfold wkC at hput
      refine OW_call rfl rfl rfl (Gv.holds hput (fun w h => iH h)) rfl (fun r L' hp => ?_)
      obtain ⟨v2, C2, rfl, ho3, rfl⟩ := hp
      (repeat' (first | (show WL _ _ _ _ _ _ _; first | refine jA ?_ | refine jB ?_ | refine jC ?_ | refine jD ?_ | refine jE ?_ | refine jF ?_) | (show OW _ _ _ _ _ _; first | refine OW_E ?_ | refine jI ?_ | refine jJ ?_ | refine jK (fun bk => ?_) | refine jL (fun bk => ?_)) | (show WC _ _ _ _ _ _; first | refine jM ?_ | refine jN ?_ | refine jO ?_ | refine jP ?_ | refine jR ?_ | refine jS ?_ | refine jT ?_ | refine jU ?_) | (show WQ _ _ _ _; with_reducible first | refine jV ?_ | refine jW ?_ | refine jX ?_ | refine jY ?_ | refine jZ ?_ | refine kA ?_ | refine kB ?_ | refine kC ?_) | ((first | (refine jG (fun hc => ?_) (fun hc => ?_) <;> rw [hc]) | refine jQ (fun hc => ?_) (fun hc => ?_)) <;> (try simp only [nrB] at hc) <;> (try (exfalso; first | omega | exact hc trivial | exact hc rfl)))))
      generalize pt most s2 (UInt8.ofNat k) = s3 at hsl hpt ho3
      refine WQ_round (X := Nat × S6 × Value × Chunk) (μ := fun x => x.1) (x := (f + 1, s1, v1, C1)) (f, s3, v2, C2) (by simp only; omega) ⟨by simp only; omega, fun _ => by simp only; omega, ho3, hsl⟩ (by repeat (first | exact Sub.nil | refine Sub.cons rfl ?_ | refine Sub.cons (lk_int rfl (by first | omega | (dsimp only; omega))) ?_)) (fun w h => ?_)
      simp only [hpt]
      unfold wkC
      exact iH h
    · rw [if_neg (show ¬ s2.e ≠ 0 by omega), if_neg (show ¬ k < 256 by omega), if_pos (show k = 256 by omega)] at hsl
      rw [← hsl]
      (first | refine WQ_retI rfl rfl ?_ | refine WQ_endI rfl rfl ?_)
      exact ⟨_, iC, v1, C1, rfl, hov, rfl, hb2⟩
    · have hgo := hgo (by omega)
      rw [if_neg (show ¬ s2.e ≠ 0 by omega), if_neg (show ¬ k < 256 by omega), if_neg (show ¬ k = 256 by omega)] at hsl
      have hmt := hmt k
      have hma := wmatch_n p q most k v1 a2 c2 dl fa fc d s2 C1 L hd hok hv hl hb2 hm hov (by omega) (by omega)
      refine OW_call rfl rfl rfl hma rfl (fun r L' hp => ?_)
      obtain ⟨v2, C2, rfl, ho3, rfl, hb3⟩ := hp
      (repeat' (first | (show WL _ _ _ _ _ _ _; first | refine jA ?_ | refine jB ?_ | refine jC ?_ | refine jD ?_ | refine jE ?_ | refine jF ?_) | (show OW _ _ _ _ _ _; first | refine OW_E ?_ | refine jI ?_ | refine jJ ?_ | refine jK (fun bk => ?_) | refine jL (fun bk => ?_)) | (show WC _ _ _ _ _ _; first | refine jM ?_ | refine jN ?_ | refine jO ?_ | refine jP ?_ | refine jR ?_ | refine jS ?_ | refine jT ?_ | refine jU ?_) | (show WQ _ _ _ _; with_reducible first | refine jV ?_ | refine jW ?_ | refine jX ?_ | refine jY ?_ | refine jZ ?_ | refine kA ?_ | refine kB ?_ | refine kC ?_) | ((first | (refine jG (fun hc => ?_) (fun hc => ?_) <;> rw [hc]) | refine jQ (fun hc => ?_) (fun hc => ?_)) <;> (try simp only [nrB] at hc) <;> (try (exfalso; first | omega | exact hc trivial | exact hc rfl)))))
      generalize mtS d most k dl s2 = s3 at hsl hmt ho3 hb3
      refine WQ_round (X := Nat × S6 × Value × Chunk) (μ := fun x => x.1) (x := (f + 1, s1, v1, C1)) (f, s3, v2, C2) (by simp only; omega) ⟨hb3, fun _ => by simp only; omega, ho3, hsl⟩ (by repeat (first | exact Sub.nil | refine Sub.cons rfl ?_ | refine Sub.cons (lk_int rfl (by first | omega | (dsimp only; omega))) ?_)) (fun w h => h)
  · rw [cdC_err (show s1.e ≠ 0 by omega)] at hsl
    rw [← hsl]
    (first | refine WQ_retI rfl rfl ?_ | refine WQ_endI rfl rfl ?_)
    exact ⟨_, iC, v1, C1, rfl, hov, rfl, hst⟩
end Go.Proofs.YtkiaegkojlhaeaaDoor
