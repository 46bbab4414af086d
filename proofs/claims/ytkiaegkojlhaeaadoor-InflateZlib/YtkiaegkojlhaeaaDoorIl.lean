/- The document's own answer for layer 6: blocks one behind the other. It proves no statement by itself. No conditions. -/
import Derived.Test.YtkiaegkojlhaeaaDoorIj
namespace Go.If
open Go.Vx Go.Hf
set_option linter.all false
theorem rpS_out [W0] (d : List UInt8) (own : List Nat) (m : Nat) (s : S6) (l : List Nat) : (rpS d own m s l).out = s.out := by
  unfold rpS
  repeat' split
  all_goals simp only [fl_out, tk_out, sy_o]
theorem lpS_out [W0] (d : List UInt8) (own : List Nat) (m : Nat) : ∀ f s l, (lpS d own m f s l).1.out = s.out
  | 0, s, l => rfl
  | f + 1, s, l => by
    rw [lpS]
    split
    · split
      · rw [lpS_out d own m f, rpS_out]
      · exact rpS_out _ _ _ _ _
    · rfl
theorem owS_out [W0] (d : List UInt8) : ∀ k i s o, (owS d k i s o).1.out = s.out
  | 0, i, s, o => rfl
  | k + 1, i, s, o => by
    rw [owS]
    split
    · exact tk_out _ _ _
    · rw [owS_out d k, tk_out]
theorem lcS_out [W0] (d : List UInt8) (s : S6) : (lcS d s).1.out = s.out := by
  unfold lcS
  repeat' split
  all_goals simp only [fl_out, tk_out, owS_out]
theorem lgS_out [W0] (d : List UInt8) (m : Nat) (s : S6) : (lgS d m s).1.out = s.out := by
  unfold lgS
  repeat' split
  all_goals simp only [lpS_out, lcS_out]
theorem dyT_out [W0] (d : List UInt8) (n1 n2 : Nat) (s : S6) : (dyT d n1 n2 s).1.out = s.out := by
  rw [dyT_eq]
  unfold dyK
  repeat' split
  all_goals simp only [fl_out, lgS_out]
theorem dyS_out [W0] (d : List UInt8) (s : S6) : (dyS d s).1.out = s.out := by
  unfold dyS
  repeat' split
  all_goals simp only [fl_out, tk_out, dyT_out]
end Go.If
namespace Go.Proofs.YtkiaegkojlhaeaaDoor
open Go Go.Vx Go.Hf Go.If
variable [W0]
set_option maxRecDepth 4000
set_option linter.all false
theorem fxL_length : fxL.length = 288 := by simp [fxL]
theorem fxD_length : fxD.length = 32 := by simp [fxD]

set_option maxHeartbeats 16000000 in
theorem wraw_n (a : Option Addr) (c : Nat) (d : List UInt8) (mo : Int) (most : Nat) (L : List Chunk) (hv : Sl L 1 (.slice a d.length c) d.length (bsv d)) (hl : d.length ≤ 1000000) (hm1 : max mo 0 = (most : Int)) (hm : most ≤ 1000000) :
    Gv Tryd.prog 13 [.slice a d.length c, .int .i64 mo].toArray L (fun r L' =>
      ((rawS d most).e ≠ 0 ∧ r = .agg #[.slice none 0 0, .int .i64 0, .int .i64 ((rawS d most).e : Int)] ∧ L' = L) ∨
      ((rawS d most).e = 0 ∧ ∃ v C, r = .agg #[v, .int .i64 (((rawS d most).t + 7) / 8 : Nat), .int .i64 0] ∧ Ow 5 1 v (rawS d most).out.length (bsv (rawS d most).out) C ∧ (rawS d most).t ≤ 8 * d.length ∧ L' = C :: L)) := by
  refine Gv.of_body Tryd.func13 rfl rfl ?_
  unfold rawS
  generalize hR : rwS d most (8 * d.length + 1) ⟨0, [], 0⟩ = R
  (repeat' (first | (show WL _ _ _ _ _ _ _; first | refine jA ?_ | refine jB ?_ | refine jC ?_ | refine jD ?_ | refine jE ?_ | refine jF ?_) | (show OW _ _ _ _ _ _; first | refine OW_E ?_ | refine jI ?_ | refine jJ ?_ | refine jK (fun bk => ?_) | refine jL (fun bk => ?_)) | (show WC _ _ _ _ _ _; first | refine jM ?_ | refine jN ?_ | refine jO ?_ | refine jP ?_ | refine jR ?_ | refine jS ?_ | refine jT ?_ | refine jU ?_) | (show WQ _ _ _ _; with_reducible first | refine jV ?_ | refine jW ?_ | refine jX ?_ | refine jY ?_ | refine jZ ?_ | refine kA ?_ | refine kB ?_ | refine kC ?_) | ((first | (refine jG (fun hc => ?_) (fun hc => ?_) <;> rw [hc]) | refine jQ (fun hc => ?_) (fun hc => ?_)) <;> (try simp only [nrB] at hc) <;> (try (exfalso; first | omega | exact hc trivial | exact hc rfl)))))
  rename_i g q
  obtain ⟨p, hp⟩ : ∃ p, p = bk := ⟨_, rfl⟩
  rw [← hp, hm1]
  clear hp
  have hw1 : ∀ v e (L : List Chunk), wkC p q v most e :: L = [(p, cl [.pointer (some ⟨q, 0, none⟩), v, .int .i64 (most : Int), .int .i64 (e : Int)] 55)] :: L := fun _ _ _ => rfl
  refine WC_loop (X := Nat × S6 × Nat × Value × Chunk) (fun x => [(4, .pointer (some ⟨g, 0, none⟩)), (5, .pointer (some ⟨p, 0, none⟩)), (6, .int .i64 (x.2.2.1 : Int))])
    (fun x => wkC p q x.2.2.2.1 most x.2.1.e :: biC q a d.length c x.2.1.t :: x.2.2.2.2 :: [(g, cl [.slice none 0 0, .int .i64 0, .int .i64 0] 38)] :: L)
    (fun x => x.2.1.t ≤ 8 * d.length ∧ Ow 5 1 x.2.2.2.1 x.2.1.out.length (bsv x.2.1.out) x.2.2.2.2 ∧ (x.2.1.e = 0 → x.2.2.1 = 0 → 8 * d.length < x.1 + x.2.1.t ∧ rwS d most x.1 x.2.1 = R) ∧ ((x.2.1.e ≠ 0 ∨ x.2.2.1 ≠ 0) → x.2.1 = R)) (fun x => x.1)
    (8 * d.length + 1, ⟨0, [], 0⟩, 0, .slice none 0 0, []) ⟨Nat.zero_le _, .inl ⟨rfl, rfl, rfl, rfl⟩, fun _ _ => ⟨by simp, hR⟩, fun h => by simp at h⟩ (by repeat (first | exact Sub.nil | refine Sub.cons rfl ?_ | refine Sub.cons (lk_int rfl (by first | omega | (dsimp only; omega))) ?_)) (fun w h => ?_) ?_
  · show Holds w ([(p, cl [.pointer (some ⟨q, 0, none⟩), .slice none 0 0, .int .i64 (most : Int), .int .i64 (0 : Int)] 55)] :: [(q, cl [.slice a d.length c, .int .i64 (0 : Int)] 53)] :: [] :: [(g, cl [.slice none 0 0, .int .i64 0, .int .i64 0] 38)] :: L)
    have h' : Holds w ([(p, cl [.pointer (some ⟨q, 0, none⟩), .slice none 0 0, .int .i64 (most : Int), .int .i64 (0 : Int)] 55)] :: [(q, cl [.slice a d.length c, .int .i64 (0 : Int)] 53)] :: [(g, cl [.slice none 0 0, .int .i64 0, .int .i64 0] 38)] :: L) := h
    simpa only [Holds, List.flatten_cons, List.nil_append] using h'
  clear hR
  rintro ⟨f, s1, la, v1, C1⟩ ⟨hb1, ho1, hf1, hf2⟩
  simp only at hb1 ho1 hf1 hf2 ⊢
  rw [hw1 v1 s1.e]
  (repeat' (first | (show WL _ _ _ _ _ _ _; first | refine jA ?_ | refine jB ?_ | refine jC ?_ | refine jD ?_ | refine jE ?_ | refine jF ?_) | (show OW _ _ _ _ _ _; first | refine OW_E ?_ | refine jI ?_ | refine jJ ?_ | refine jK (fun bk => ?_) | refine jL (fun bk => ?_)) | (show WC _ _ _ _ _ _; first | refine jM ?_ | refine jN ?_ | refine jO ?_ | refine jP ?_ | refine jR ?_ | refine jS ?_ | refine jT ?_ | refine jU ?_) | (show WQ _ _ _ _; with_reducible first | refine jV ?_ | refine jW ?_ | refine jX ?_ | refine jY ?_ | refine jZ ?_ | refine kA ?_ | refine kB ?_ | refine kC ?_) | ((first | (refine jG (fun hc => ?_) (fun hc => ?_) <;> rw [hc]) | refine jQ (fun hc => ?_) (fun hc => ?_)) <;> (try simp only [nrB] at hc) <;> (try (exfalso; first | omega | exact hc trivial | exact hc rfl)))))
  · have h1 : s1.e = 0 := by omega
    obtain ⟨hf3, hsl⟩ := hf1 h1 (by omega)
    clear hf1 hf2
    obtain ⟨f, rfl⟩ : ∃ g, f = g + 1 := ⟨f - 1, by omega⟩
    rw [rwS] at hsl
    have htk := wtake_n p q most 3 v1 a c d s1 (C1 :: [(g, cl [.slice none 0 0, .int .i64 0, .int .i64 0] 38)] :: L) (sl_there (sl_there hv)) (by omega) hb1 (by decide)
    have htv := tv_lt d s1 3
    have hto := tk_out d s1 3
    have htt : (tk d s1 3).e = 0 → (tk d s1 3).t = s1.t + 3 := fun h0 => by
      by_cases hc : s1.t + 3 ≤ 8 * d.length
      · rw [tk_ok hc]
      · rw [Go.If.tk_no hc h1] at h0; cases h0
    generalize tv d s1 3 = z at htk htv hsl
    generalize tk d s1 3 = s2 at htk hto htt hsl
    rw [← hto] at ho1
    refine OW_call rfl rfl rfl (Gv.holds htk (fun w h => h)) rfl (fun r L' hp => ?_)
    obtain ⟨rfl, rfl, hb2⟩ := hp
    rw [hw1 v1 s2.e]
    have hround : ∀ s3, s3 = bkS d most (z / 2) s2 → z ≤ 5 → s2.e = 0 → (s3.e = 0 → z % 2 = 0 → 8 * d.length < f + s3.t ∧ rwS d most f s3 = R) ∧ ((s3.e ≠ 0 ∨ z % 2 ≠ 0) → s3 = R) := by
      intro s3 h3 hz h2
      have hle := bkS_le d most (z / 2) s2
      rw [← h3] at hle hsl
      have hlt := hle.t
      have htt := htt h2
      rw [if_neg (show ¬ s2.e ≠ 0 from fun hh => hh h2), if_neg (show ¬ 5 < z by omega)] at hsl
      refine ⟨fun h0 h1 => ⟨by omega, ?_⟩, fun h0 => ?_⟩
      · rw [if_neg (show ¬ s3.e ≠ 0 from fun hh => hh h0), if_neg (show ¬ z % 2 = 1 by omega)] at hsl
        exact hsl
      · by_cases h4 : s3.e ≠ 0
        · rw [if_pos h4] at hsl; exact hsl
        · rw [if_neg h4, if_pos (by rcases h0 with h | h; exact absurd h h4; omega)] at hsl; exact hsl
    (repeat' (first | (show WL _ _ _ _ _ _ _; first | refine jA ?_ | refine jB ?_ | refine jC ?_ | refine jD ?_ | refine jE ?_ | refine jF ?_) | (show OW _ _ _ _ _ _; first | refine OW_E ?_ | refine jI ?_ | refine jJ ?_ | refine jK (fun bk => ?_) | refine jL (fun bk => ?_)) | (show WC _ _ _ _ _ _; first | refine jM ?_ | refine jN ?_ | refine jO ?_ | refine jP ?_ | refine jR ?_ | refine jS ?_ | refine jT ?_ | refine jU ?_) | (show WQ _ _ _ _; with_reducible first | refine jV ?_ | refine jW ?_ | refine jX ?_ | refine jY ?_ | refine jZ ?_ | refine kA ?_ | refine kB ?_ | refine kC ?_) | ((first | (refine jG (fun hc => ?_) (fun hc => ?_) <;> rw [hc]) | refine jQ (fun hc => ?_) (fun hc => ?_)) <;> (try simp only [nrB] at hc) <;> (try (exfalso; first | omega | exact hc trivial | exact hc rfl)))))
    refine OW_EV (EV_bit rfl rfl (bit_and16 (a := z) (b := 1) (by omega) (by decide))) rfl ?_
    rw [Nat.and_one_is_mod]
    (repeat' (first | (show WL _ _ _ _ _ _ _; first | refine jA ?_ | refine jB ?_ | refine jC ?_ | refine jD ?_ | refine jE ?_ | refine jF ?_) | (show OW _ _ _ _ _ _; first | refine OW_E ?_ | refine jI ?_ | refine jJ ?_ | refine jK (fun bk => ?_) | refine jL (fun bk => ?_)) | (show WC _ _ _ _ _ _; first | refine jM ?_ | refine jN ?_ | refine jO ?_ | refine jP ?_ | refine jR ?_ | refine jS ?_ | refine jT ?_ | refine jU ?_) | (show WQ _ _ _ _; with_reducible first | refine jV ?_ | refine jW ?_ | refine jX ?_ | refine jY ?_ | refine jZ ?_ | refine kA ?_ | refine kB ?_ | refine kC ?_) | ((first | (refine jG (fun hc => ?_) (fun hc => ?_) <;> rw [hc]) | refine jQ (fun hc => ?_) (fun hc => ?_)) <;> (try simp only [nrB] at hc) <;> (try (exfalso; first | omega | exact hc trivial | exact hc rfl)))))
    · have h2 : s2.e ≠ 0 := by omega
      rw [if_pos h2] at hsl
      refine WQ_round (X := Nat × S6 × Nat × Value × Chunk) (μ := fun x => x.1) (x := (f + 1, s1, la, v1, C1)) (f, s2, z % 2, v1, C1) (by simp only; omega) ⟨hb2, ho1, fun hh => absurd hh h2, fun _ => hsl⟩ (by repeat (first | exact Sub.nil | refine Sub.cons rfl ?_ | refine Sub.cons (lk_int rfl (by first | omega | (dsimp only; omega))) ?_)) (fun w h => iH h)
    · have h2 : s2.e = 0 := by omega
      have hJ := hround (stS d most s2) (by unfold bkS; rw [if_pos (by omega)]) (by omega) h2
      have hst := wstored_n p q most v1 a c d s2 C1 ([(g, cl [.slice none 0 0, .int .i64 0, .int .i64 0] 38)] :: L) (sl_there hv) hl hb2 hm ho1
      generalize stS d most s2 = s3 at hst hJ
      refine OW_call rfl rfl rfl (Gv.holds hst (fun w h => h)) rfl (fun r L' hp => ?_)
      obtain ⟨v3, C3, rfl, ho3, rfl, hb3⟩ := hp
      (repeat' (first | (show WL _ _ _ _ _ _ _; first | refine jA ?_ | refine jB ?_ | refine jC ?_ | refine jD ?_ | refine jE ?_ | refine jF ?_) | (show OW _ _ _ _ _ _; first | refine OW_E ?_ | refine jI ?_ | refine jJ ?_ | refine jK (fun bk => ?_) | refine jL (fun bk => ?_)) | (show WC _ _ _ _ _ _; first | refine jM ?_ | refine jN ?_ | refine jO ?_ | refine jP ?_ | refine jR ?_ | refine jS ?_ | refine jT ?_ | refine jU ?_) | (show WQ _ _ _ _; with_reducible first | refine jV ?_ | refine jW ?_ | refine jX ?_ | refine jY ?_ | refine jZ ?_ | refine kA ?_ | refine kB ?_ | refine kC ?_) | ((first | (refine jG (fun hc => ?_) (fun hc => ?_) <;> rw [hc]) | refine jQ (fun hc => ?_) (fun hc => ?_)) <;> (try simp only [nrB] at hc) <;> (try (exfalso; first | omega | exact hc trivial | exact hc rfl)))))
      refine WQ_round (X := Nat × S6 × Nat × Value × Chunk) (μ := fun x => x.1) (x := (f + 1, s1, la, v1, C1)) (f, s3, z % 2, v3, C3) (by simp only; omega) ⟨hb3, ho3, hJ.1, hJ.2⟩ (by repeat (first | exact Sub.nil | refine Sub.cons rfl ?_ | refine Sub.cons (lk_int rfl (by first | omega | (dsimp only; omega))) ?_)) (fun w h => iH h)
    · have h2 : s2.e = 0 := by omega
      have hJ := hround (cdC d most fxL fxD (8 * d.length + 1) s2) (by unfold bkS; rw [if_neg (by omega), if_pos (by omega)]) (by omega) h2
      have hfx := fixed_n ([(p, cl [.pointer (some ⟨q, 0, none⟩), v1, .int .i64 (most : Int), .int .i64 (s2.e : Int)] 55)] :: biC q a d.length c s2.t :: C1 :: [(g, cl [.slice none 0 0, .int .i64 0, .int .i64 0] 38)] :: L)
      refine OW_call rfl rfl rfl hfx rfl (fun r L' hp => ?_)
      obtain ⟨u, w2, Cf, Df, rfl, rfl, hof, hod⟩ := hp
      obtain ⟨ua, uc, rfl⟩ := ow_slc hof
      obtain ⟨wa, wc, rfl⟩ := ow_slc hod
      (repeat' (first | (show WL _ _ _ _ _ _ _; first | refine jA ?_ | refine jB ?_ | refine jC ?_ | refine jD ?_ | refine jE ?_ | refine jF ?_) | (show OW _ _ _ _ _ _; first | refine OW_E ?_ | refine jI ?_ | refine jJ ?_ | refine jK (fun bk => ?_) | refine jL (fun bk => ?_)) | (show WC _ _ _ _ _ _; first | refine jM ?_ | refine jN ?_ | refine jO ?_ | refine jP ?_ | refine jR ?_ | refine jS ?_ | refine jT ?_ | refine jU ?_) | (show WQ _ _ _ _; with_reducible first | refine jV ?_ | refine jW ?_ | refine jX ?_ | refine jY ?_ | refine jZ ?_ | refine kA ?_ | refine kB ?_ | refine kC ?_) | ((first | (refine jG (fun hc => ?_) (fun hc => ?_) <;> rw [hc]) | refine jQ (fun hc => ?_) (fun hc => ?_)) <;> (try simp only [nrB] at hc) <;> (try (exfalso; first | omega | exact hc trivial | exact hc rfl)))))
      have hco := wcoded_n p q most v1 ua wa uc wc fxL fxD a c d s2 C1 (Df :: Cf :: [(g, cl [.slice none 0 0, .int .i64 0, .int .i64 0] 38)] :: L) (by rw [fxL_length]; exact sl_there (ow_sl hof)) (by decide +kernel) (by rw [fxL_length]; omega) (by rw [fxD_length]; exact ow_sl hod) (by decide +kernel) (sl_there (sl_there (sl_there hv))) hl hb2 hm ho1
      rw [fxL_length, fxD_length] at hco
      generalize cdC d most fxL fxD (8 * d.length + 1) s2 = s3 at hco hJ
      refine OW_call rfl rfl rfl (Gv.holds hco (fun w h => iH h)) rfl (fun r L' hp => ?_)
      obtain ⟨v3, C3, rfl, ho3, rfl, hb3⟩ := hp
      (repeat' (first | (show WL _ _ _ _ _ _ _; first | refine jA ?_ | refine jB ?_ | refine jC ?_ | refine jD ?_ | refine jE ?_ | refine jF ?_) | (show OW _ _ _ _ _ _; first | refine OW_E ?_ | refine jI ?_ | refine jJ ?_ | refine jK (fun bk => ?_) | refine jL (fun bk => ?_)) | (show WC _ _ _ _ _ _; first | refine jM ?_ | refine jN ?_ | refine jO ?_ | refine jP ?_ | refine jR ?_ | refine jS ?_ | refine jT ?_ | refine jU ?_) | (show WQ _ _ _ _; with_reducible first | refine jV ?_ | refine jW ?_ | refine jX ?_ | refine jY ?_ | refine jZ ?_ | refine kA ?_ | refine kB ?_ | refine kC ?_) | ((first | (refine jG (fun hc => ?_) (fun hc => ?_) <;> rw [hc]) | refine jQ (fun hc => ?_) (fun hc => ?_)) <;> (try simp only [nrB] at hc) <;> (try (exfalso; first | omega | exact hc trivial | exact hc rfl)))))
      refine WQ_round (X := Nat × S6 × Nat × Value × Chunk) (μ := fun x => x.1) (x := (f + 1, s1, la, v1, C1)) (f, s3, z % 2, v3, C3) (by simp only; omega) ⟨hb3, ho3, hJ.1, hJ.2⟩ (by repeat (first | exact Sub.nil | refine Sub.cons rfl ?_ | refine Sub.cons (lk_int rfl (by first | omega | (dsimp only; omega))) ?_)) (fun w h => iH h)
    · have h2 : s2.e = 0 := by omega
      have hJ := hround (dbS d most s2) (by unfold bkS; rw [if_neg (by omega), if_neg (by omega)]) (by omega) h2
      have hle := wlengths_n p q most v1 a c d s2 (C1 :: [(g, cl [.slice none 0 0, .int .i64 0, .int .i64 0] 38)] :: L) (sl_there (sl_there hv)) hl hb2 h2
      have hdo := dyS_out d s2
      unfold dbS at hJ
      generalize dyS d s2 = Y at hle hJ hdo
      obtain ⟨s4, ly, ny⟩ := Y
      simp only at hle hJ hdo
      refine OW_call rfl rfl rfl (Gv.holds hle (fun w h => h)) rfl (fun r L' hp => ?_)
      obtain ⟨hb4, ⟨h4, x, y, rfl, rfl⟩ | ⟨h4, a1, c1, a2, c2, l, dl, Cl, rfl, rfl, rfl, hS1, hS2, hd1, hd2, hll, rfl⟩⟩ := hp
      · rw [if_pos h4] at hJ
        rw [hw1 v1 s4.e]
        (repeat' (first | (show WL _ _ _ _ _ _ _; first | refine jA ?_ | refine jB ?_ | refine jC ?_ | refine jD ?_ | refine jE ?_ | refine jF ?_) | (show OW _ _ _ _ _ _; first | refine OW_E ?_ | refine jI ?_ | refine jJ ?_ | refine jK (fun bk => ?_) | refine jL (fun bk => ?_)) | (show WC _ _ _ _ _ _; first | refine jM ?_ | refine jN ?_ | refine jO ?_ | refine jP ?_ | refine jR ?_ | refine jS ?_ | refine jT ?_ | refine jU ?_) | (show WQ _ _ _ _; with_reducible first | refine jV ?_ | refine jW ?_ | refine jX ?_ | refine jY ?_ | refine jZ ?_ | refine kA ?_ | refine kB ?_ | refine kC ?_) | ((first | (refine jG (fun hc => ?_) (fun hc => ?_) <;> rw [hc]) | refine jQ (fun hc => ?_) (fun hc => ?_)) <;> (try simp only [nrB] at hc) <;> (try (exfalso; first | omega | exact hc trivial | exact hc rfl)))))
        rw [← hdo] at ho1
        refine WQ_round (X := Nat × S6 × Nat × Value × Chunk) (μ := fun x => x.1) (x := (f + 1, s1, la, v1, C1)) (f, s4, z % 2, v1, C1) (by simp only; omega) ⟨hb4, ho1, hJ.1, hJ.2⟩ (by repeat (first | exact Sub.nil | refine Sub.cons rfl ?_ | refine Sub.cons (lk_int rfl (by first | omega | (dsimp only; omega))) ?_)) (fun w h => iH h)
      · rw [if_neg (show ¬ s4.e ≠ 0 by omega)] at hJ
        rw [hw1 v1 s4.e]
        (repeat' (first | (show WL _ _ _ _ _ _ _; first | refine jA ?_ | refine jB ?_ | refine jC ?_ | refine jD ?_ | refine jE ?_ | refine jF ?_) | (show OW _ _ _ _ _ _; first | refine OW_E ?_ | refine jI ?_ | refine jJ ?_ | refine jK (fun bk => ?_) | refine jL (fun bk => ?_)) | (show WC _ _ _ _ _ _; first | refine jM ?_ | refine jN ?_ | refine jO ?_ | refine jP ?_ | refine jR ?_ | refine jS ?_ | refine jT ?_ | refine jU ?_) | (show WQ _ _ _ _; with_reducible first | refine jV ?_ | refine jW ?_ | refine jX ?_ | refine jY ?_ | refine jZ ?_ | refine kA ?_ | refine kB ?_ | refine kC ?_) | ((first | (refine jG (fun hc => ?_) (fun hc => ?_) <;> rw [hc]) | refine jQ (fun hc => ?_) (fun hc => ?_)) <;> (try simp only [nrB] at hc) <;> (try (exfalso; first | omega | exact hc trivial | exact hc rfl)))))
        rw [← hdo] at ho1
        have hco := wcoded_n p q most v1 a1 a2 c1 c2 (ly.take ny) (ly.drop ny) a c d s4 C1 (Cl :: [(g, cl [.slice none 0 0, .int .i64 0, .int .i64 0] 38)] :: L) (hS1.all _) hd1 hll (hS2.all _) hd2 (sl_there (sl_there hv)) hl hb4 hm ho1
        generalize cdC d most (ly.take ny) (ly.drop ny) (8 * d.length + 1) s4 = s3 at hco hJ
        refine OW_call rfl rfl rfl (Gv.holds hco (fun w h => iH h)) rfl (fun r L' hp => ?_)
        obtain ⟨v3, C3, rfl, ho3, rfl, hb3⟩ := hp
        (repeat' (first | (show WL _ _ _ _ _ _ _; first | refine jA ?_ | refine jB ?_ | refine jC ?_ | refine jD ?_ | refine jE ?_ | refine jF ?_) | (show OW _ _ _ _ _ _; first | refine OW_E ?_ | refine jI ?_ | refine jJ ?_ | refine jK (fun bk => ?_) | refine jL (fun bk => ?_)) | (show WC _ _ _ _ _ _; first | refine jM ?_ | refine jN ?_ | refine jO ?_ | refine jP ?_ | refine jR ?_ | refine jS ?_ | refine jT ?_ | refine jU ?_) | (show WQ _ _ _ _; with_reducible first | refine jV ?_ | refine jW ?_ | refine jX ?_ | refine jY ?_ | refine jZ ?_ | refine kA ?_ | refine kB ?_ | refine kC ?_) | ((first | (refine jG (fun hc => ?_) (fun hc => ?_) <;> rw [hc]) | refine jQ (fun hc => ?_) (fun hc => ?_)) <;> (try simp only [nrB] at hc) <;> (try (exfalso; first | omega | exact hc trivial | exact hc rfl)))))
        refine WQ_round (X := Nat × S6 × Nat × Value × Chunk) (μ := fun x => x.1) (x := (f + 1, s1, la, v1, C1)) (f, s3, z % 2, v3, C3) (by simp only; omega) ⟨hb3, ho3, hJ.1, hJ.2⟩ (by repeat (first | exact Sub.nil | refine Sub.cons rfl ?_ | refine Sub.cons (lk_int rfl (by first | omega | (dsimp only; omega))) ?_)) (fun w h => iH h)
    · have h2 : s2.e = 0 := by omega
      rw [if_neg (show ¬ s2.e ≠ 0 by omega), if_pos (show 5 < z by omega)] at hsl
      have hf := wfail_n p q most 3 s2.e v1 (biC q a d.length c s2.t :: C1 :: [(g, cl [.slice none 0 0, .int .i64 0, .int .i64 0] 38)] :: L)
      rw [if_pos h2] at hf
      refine OW_call rfl rfl rfl hf rfl (fun r L' hp => ?_)
      obtain ⟨rfl, rfl⟩ := hp
      (repeat' (first | (show WL _ _ _ _ _ _ _; first | refine jA ?_ | refine jB ?_ | refine jC ?_ | refine jD ?_ | refine jE ?_ | refine jF ?_) | (show OW _ _ _ _ _ _; first | refine OW_E ?_ | refine jI ?_ | refine jJ ?_ | refine jK (fun bk => ?_) | refine jL (fun bk => ?_)) | (show WC _ _ _ _ _ _; first | refine jM ?_ | refine jN ?_ | refine jO ?_ | refine jP ?_ | refine jR ?_ | refine jS ?_ | refine jT ?_ | refine jU ?_) | (show WQ _ _ _ _; with_reducible first | refine jV ?_ | refine jW ?_ | refine jX ?_ | refine jY ?_ | refine jZ ?_ | refine kA ?_ | refine kB ?_ | refine kC ?_) | ((first | (refine jG (fun hc => ?_) (fun hc => ?_) <;> rw [hc]) | refine jQ (fun hc => ?_) (fun hc => ?_)) <;> (try simp only [nrB] at hc) <;> (try (exfalso; first | omega | exact hc trivial | exact hc rfl)))))
      refine WQ_round (X := Nat × S6 × Nat × Value × Chunk) (μ := fun x => x.1) (x := (f + 1, s1, la, v1, C1)) (f, fl s2 3, z % 2, v1, C1) (by simp only; omega) ⟨by simp only [fl_t]; exact hb2, by simp only [fl_out]; exact ho1, fun hh => absurd hh (by show ¬ (fl s2 3).e = 0; rw [fl3 h2]; decide), fun _ => hsl⟩ (by repeat (first | exact Sub.nil | refine Sub.cons rfl ?_ | refine Sub.cons (lk_int rfl (by first | omega | (dsimp only; omega))) ?_)) (fun w h => ?_)
      simp only [fl_t, fl3 h2]
      exact iH h
  · have h1 : s1.e ≠ 0 := by omega
    obtain rfl : s1 = R := hf2 (.inl h1)
    first
      | (refine WQ_retC (vs := [.agg #[.slice none 0 0, .int .i64 0, .int .i64 (s1.e : Int)]]) rfl (.agg ⟨by kernel_rfl, by kernel_rfl⟩ rfl (RdAt.cl' (vs := [.slice none 0 0, .int .i64 0, .int .i64 (s1.e : Int)]) (by repeat (first | assumption | exact Fnd.here | refine Fnd.there ?_)) rfl) rfl .nil) ?_
         exact ⟨L, fun w h => iH h, .inl ⟨h1, rfl, rfl⟩⟩)
      | (refine WQ_endC (vs := [.agg #[.slice none 0 0, .int .i64 0, .int .i64 (s1.e : Int)]]) rfl (.agg ⟨by kernel_rfl, by kernel_rfl⟩ rfl (RdAt.cl' (vs := [.slice none 0 0, .int .i64 0, .int .i64 (s1.e : Int)]) (by repeat (first | assumption | exact Fnd.here | refine Fnd.there ?_)) rfl) rfl .nil) ?_
         exact ⟨L, fun w h => iH h, .inl ⟨h1, rfl, rfl⟩⟩)
  · have h1 : s1.e ≠ 0 := by omega
    obtain rfl : s1 = R := hf2 (.inl h1)
    first
      | (refine WQ_retC (vs := [.agg #[.slice none 0 0, .int .i64 0, .int .i64 (s1.e : Int)]]) rfl (.agg ⟨by kernel_rfl, by kernel_rfl⟩ rfl (RdAt.cl' (vs := [.slice none 0 0, .int .i64 0, .int .i64 (s1.e : Int)]) (by repeat (first | assumption | exact Fnd.here | refine Fnd.there ?_)) rfl) rfl .nil) ?_
         exact ⟨L, fun w h => iH h, .inl ⟨h1, rfl, rfl⟩⟩)
      | (refine WQ_endC (vs := [.agg #[.slice none 0 0, .int .i64 0, .int .i64 (s1.e : Int)]]) rfl (.agg ⟨by kernel_rfl, by kernel_rfl⟩ rfl (RdAt.cl' (vs := [.slice none 0 0, .int .i64 0, .int .i64 (s1.e : Int)]) (by repeat (first | assumption | exact Fnd.here | refine Fnd.there ?_)) rfl) rfl .nil) ?_
         exact ⟨L, fun w h => iH h, .inl ⟨h1, rfl, rfl⟩⟩)
  · have h1 : s1.e = 0 := by omega
    obtain rfl : s1 = R := hf2 (.inr (by omega))
    have hus := bused_n q s1.t (.slice a d.length c) 53 ([(p, cl [.pointer (some ⟨q, 0, none⟩), v1, .int .i64 (most : Int), .int .i64 (s1.e : Int)] 55)] :: biC q a d.length c s1.t :: C1 :: [(g, cl [.slice none 0 0, .int .i64 0, .int .i64 0] 38)] :: L) (by exact Fnd.there Fnd.here) (by omega)
    generalize hn : (s1.t + 7) / 8 = n at hus ⊢
    obtain ⟨va, vc, rfl⟩ := ow_slc ho1
    refine WC_draw [[(p, cl [.pointer (some ⟨q, 0, none⟩), .slice va s1.out.length vc, .int .i64 (most : Int), .int .i64 (s1.e : Int)] 55)]] [10] mixed ?_
    (refine WR_t 0 ?_; refine WR_t 1 ?_; refine WR_t 2 ?_; refine WR_t 3 ?_; refine WR_t 4 ?_; refine WR_t 5 ?_; refine WR_t 6 ?_; refine WR_t 7 ?_)
    (refine WR_one 8 (by kernel_rfl) rfl rfl ?_)
    refine OW_callP rfl rfl rfl hus rfl ?_
    refine ⟨iC, ?_⟩
    (refine WR_t 9 ?_)
    (refine WR_last 10 (by kernel_rfl) rfl rfl rfl ?_)
    refine OW_storeAggTo (l := [.slice none 0 0, .int .i64 0, .int .i64 0]) (vs := [.slice va s1.out.length vc, .int .i64 (n : Int), .int .i64 0]) [.slice va s1.out.length vc, .int .i64 (n : Int), .int .i64 0] rfl rfl (by rfl) (by rfl) (by rfl) (by repeat (first | exact Upd.here | apply Upd.there)) (by simp) ?_
    (refine WR_done (by kernel_rfl) ?_)
    (repeat' (first | (show WL _ _ _ _ _ _ _; first | refine jA ?_ | refine jB ?_ | refine jC ?_ | refine jD ?_ | refine jE ?_ | refine jF ?_) | (show OW _ _ _ _ _ _; first | refine OW_E ?_ | refine jI ?_ | refine jJ ?_ | refine jK (fun bk => ?_) | refine jL (fun bk => ?_)) | (show WC _ _ _ _ _ _; first | refine jM ?_ | refine jN ?_ | refine jO ?_ | refine jP ?_ | refine jR ?_ | refine jS ?_ | refine jT ?_ | refine jU ?_) | (show WQ _ _ _ _; with_reducible first | refine jV ?_ | refine jW ?_ | refine jX ?_ | refine jY ?_ | refine jZ ?_ | refine kA ?_ | refine kB ?_ | refine kC ?_) | ((first | (refine jG (fun hc => ?_) (fun hc => ?_) <;> rw [hc]) | refine jQ (fun hc => ?_) (fun hc => ?_)) <;> (try simp only [nrB] at hc) <;> (try (exfalso; first | omega | exact hc trivial | exact hc rfl)))))
    first
      | (refine WQ_retC (vs := [.agg #[.slice va s1.out.length vc, .int .i64 (n : Int), .int .i64 0]]) rfl (.agg ⟨by kernel_rfl, by kernel_rfl⟩ rfl (RdAt.cl' (vs := [.slice va s1.out.length vc, .int .i64 (n : Int), .int .i64 0]) (by repeat (first | assumption | exact Fnd.here | refine Fnd.there ?_)) rfl) rfl .nil) ?_
         exact ⟨C1 :: L, fun w h => iH h, .inr ⟨h1, _, C1, rfl, ho1, hb1, rfl⟩⟩)
      | (refine WQ_endC (vs := [.agg #[.slice va s1.out.length vc, .int .i64 (n : Int), .int .i64 0]]) rfl (.agg ⟨by kernel_rfl, by kernel_rfl⟩ rfl (RdAt.cl' (vs := [.slice va s1.out.length vc, .int .i64 (n : Int), .int .i64 0]) (by repeat (first | assumption | exact Fnd.here | refine Fnd.there ?_)) rfl) rfl .nil) ?_
         exact ⟨C1 :: L, fun w h => iH h, .inr ⟨h1, _, C1, rfl, ho1, hb1, rfl⟩⟩)
end Go.Proofs.YtkiaegkojlhaeaaDoor
