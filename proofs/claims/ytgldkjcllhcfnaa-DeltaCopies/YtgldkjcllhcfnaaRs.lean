/- DeltaCopies' body. It proves no statement by itself. No conditions. -/
import Derived.Test.YtgldkjcllhcfnaaRo
namespace Go.Dl
set_option linter.all false
/-- The copy that the statement writes. -/
def cpD (A B : Nat) : List UInt8 := UInt8.ofNat (128 + 7 + 16 * 3) :: (enc 7 4 A ++ enc 3 3 B)
def cpW (B : Nat) : Nat := if B = 0 then 65536 else B
theorem cpD_len (A B : Nat) : (cpD A B).length = 6 := rfl
theorem cpD_fit {A B : Nat} (hA : A < 16777216) (hB : B < 65536) : Fit 7 4 A ∧ Fit 3 3 B := by
  constructor
  · simp only [Fit]; refine ⟨fun h => by omega, fun h => by omega, fun h => by omega, fun h => by omega, by omega⟩
  · simp only [Fit]; refine ⟨fun h => by omega, fun h => by omega, fun h => by omega, by omega⟩
theorem cpD_mk {base : List UInt8} {A B : Nat} (hA : A < 16777216) (hB : B < 65536) (h : A + cpW B ≤ base.length) : Mk base (cpD A B) ((base.drop A).take (cpW B)) :=
  Mk.cp 7 3 A B (cpW B) (by decide) (by decide) (cpD_fit hA hB).1 (cpD_fit hA hB).2 rfl h
theorem cpD_bad {base : List UInt8} {A B : Nat} (hA : A < 16777216) (hB : B < 65536) (h : base.length < A + cpW B) (to : Nat) : ap base to (cpD A B).length (cpD A B) [] = ([], 3) := by
  obtain ⟨f1, f2⟩ := cpD_fit hA hB
  have h1 : (UInt8.ofNat (128 + 7 + 16 * 3)).toNat = 183 := by decide
  have e1 := fd_enc 4 7 A (enc 3 3 B) f1
  have e2 := fd_enc 3 3 B [] f2
  rw [List.append_nil] at e2
  show ap base to (5 + 1) (UInt8.ofNat (128 + 7 + 16 * 3) :: (enc 7 4 A ++ enc 3 3 B)) [] = _
  rw [ap_doc _ _ _ _ _ _ (by rw [h1]; decide), h1, show 183 % 16 = 7 from rfl, show 183 / 16 % 8 = 3 from rfl, e1]
  simp only
  rw [e2]
  simp only
  rw [if_pos]
  unfold cpW at h
  omega
theorem apP_bad {base D : List UInt8} {t : Nat} (hb : base.length ≤ 2147483647) (ht : t ≤ 2147483647) (h : ap base t D.length D [] = ([], 3)) {most : Nat} (hm : t ≤ most) :
    apP base (num base.length ++ (num t ++ D)) most = ([], 3) := by
  obtain ⟨h1, h2, h3, h4⟩ := szF_num D hb ht
  unfold apP
  rw [h1, h2, h3, h4, if_neg (by simp), if_neg (by simp), if_neg (by omega), h]
theorem apP_big {base D : List UInt8} {t : Nat} (hb : base.length ≤ 2147483647) (ht : t ≤ 2147483647) {most : Nat} (hm : most < t) :
    apP base (num base.length ++ (num t ++ D)) most = ([], 5) := by
  obtain ⟨h1, h2, h3, h4⟩ := szF_num D hb ht
  unfold apP
  rw [h1, h2, h3, if_neg (by simp), if_neg (by simp), if_pos hm]
end Go.Dl
namespace Go.Proofs.Ytgldkjcllhcfnaa
open Go Go.Vx Go.Dl
variable [W0]
set_option maxRecDepth 4000
set_option linter.all false
theorem ofNat_mod (a : Nat) : UInt8.ofNat (a % 256) = UInt8.ofNat a := by
  apply UInt8.toNat_inj.1
  simp
theorem cpD_bsv (A B : Nat) : bsv (cpD A B) = [.int .u8 183, .int .u8 ((UInt8.ofNat A).toNat : Int), .int .u8 ((UInt8.ofNat (A / 256)).toNat : Int), .int .u8 ((UInt8.ofNat (A / 65536)).toNat : Int), .int .u8 ((UInt8.ofNat B).toNat : Int), .int .u8 ((UInt8.ofNat (B / 256)).toNat : Int)] := by
  have e : cpD A B = [UInt8.ofNat 183, UInt8.ofNat (A % 256), UInt8.ofNat (A / 256 % 256), UInt8.ofNat (A / 256 / 256 % 256), UInt8.ofNat (B % 256), UInt8.ofNat (B / 256 % 256)] := rfl
  rw [e, ofNat_mod, ofNat_mod, ofNat_mod, ofNat_mod, ofNat_mod, Nat.div_div_eq_div_mul]
  rfl
theorem bsv_set (xs : List UInt8) (i : Nat) (x : UInt8) : (bsv xs).set i (.int .u8 (x.toNat : Int)) = bsv (xs.set i x) := by
  simp [bsv, List.map_set]
set_option maxHeartbeats 8000000 in
theorem deltacopies_n (at_ n : Int) (L : List Chunk) :
    GvP Try.prog 3 [.int .i64 at_, .int .i64 n].toArray L (.bool true) := by
  refine Gv.of_body (args := [.int .i64 at_, .int .i64 n]) Try.func3 rfl rfl ?_
  obtain ⟨A, hA, hA1⟩ : ∃ A : Nat, at_ % 131072 = (A : Int) ∧ A < 131072 := ⟨(at_ % 131072).toNat, by omega, by omega⟩
  obtain ⟨B, hB, hB1⟩ : ∃ B : Nat, n % 65536 = (B : Int) ∧ B < 65536 := ⟨(n % 65536).toNat, by omega, by omega⟩
  obtain ⟨Z, hZ⟩ : ∃ Z, Z = cpW B := ⟨_, rfl⟩
  have hZ1 : 0 < Z ∧ Z ≤ 65536 := by rw [hZ]; unfold cpW; split <;> omega
  obtain ⟨N, hN⟩ : ∃ N : Nat, N = 70000 := ⟨_, rfl⟩
  have hN2 : (70000 : Int) = (N : Int) := by omega
  (repeat' first|refine kW ?_|refine kU fun bk=>?_|refine kV fun hc=>?_|refine kZ (fun hc=>?_) fun hc=>?_|fail)
  rw [hN2]
  refine OW_makeSlice (m := N) (c := N) rfl rfl (by rfl) (Nat.le_refl _) (by omega) (by omega) rfl (fun q => ?_)
  rw [show zeros (Value.int .u8 0).cells.toList N = bsv (List.replicate N 0) from zeros_bsv N]
  obtain ⟨xs, hxs, hxl⟩ : ∃ xs : List UInt8, List.replicate N 0 = xs ∧ xs.length = N := ⟨_, rfl, List.length_replicate⟩
  rw [hxs]
  clear hxs
  (repeat' first|refine kW ?_|refine kU fun bk=>?_|refine kV fun hc=>?_|refine kZ (fun hc=>?_) fun hc=>?_|fail)
  refine WC_loop (X := Nat × List UInt8) (fun x => [(0, .int .i64 at_), (1, .int .i64 n), (5, .slice (some ⟨q, 0, none⟩) N N), (15, .int .i64 N), (16, .int .i64 (x.1 : Int))]) (fun x => [(q, cl (bsv x.2) 5)] :: L)
    (fun x => x.1 ≤ N ∧ x.2.length = N) (fun x => N - x.1) (0, xs) ⟨Nat.zero_le _, hxl⟩ iS (fun w h => h) ?_
  rintro ⟨i, ys⟩ ⟨hi, hyl⟩
  simp only at hi hyl ⊢
  have hii : 0 ≤ (i : Int) * (i : Int) ∧ (i : Int) * (i : Int) ≤ 4900000000 := by
    have h1 : i * i ≤ 70000 * 70000 := Nat.mul_le_mul (by omega) (by omega)
    rw [← Int.natCast_mul]
    omega
  (repeat' first|refine kW ?_|refine kU fun bk=>?_|refine kV fun hc=>?_|refine kZ (fun hc=>?_) fun hc=>?_|fail)
  · refine OW_EV (EV_indexAddr (j := i) rfl rfl rfl (by omega)) rfl ?_
    rw [show (i : Int) * (i : Int) / 8 = ((i * i / 8 : Nat) : Int) from by rw [Int.natCast_ediv, Int.natCast_mul]; rfl, wrap_byte]
    (repeat' first|refine kW ?_|refine kU fun bk=>?_|refine kV fun hc=>?_|refine kZ (fun hc=>?_) fun hc=>?_|fail)
    refine OW_storeTo (bsv (ys.set i (UInt8.ofNat (i * i / 8)))) rfl rfl (by rfl) (by rw [show 0 + i * 1 = i from by omega]; exact bsv_set ys i _) iU (by rw [bsv_length]; omega) ?_
    (repeat' first|refine kW ?_|refine kU fun bk=>?_|refine kV fun hc=>?_|refine kZ (fun hc=>?_) fun hc=>?_|fail)
    refine WQ_round (X := Nat × List UInt8) (μ := fun x => N - x.1) (x := (i, ys)) (i + 1, ys.set i (UInt8.ofNat (i * i / 8))) (by simp only; omega) ⟨by simp only; omega, by simp only [List.length_set]; exact hyl⟩ iS (fun w h => h)
  clear hii
  refine OW_EV (EV_mask (p := 131072) rfl rfl (by rfl)) rfl ?_
  rw [hA]
  (repeat' first|refine kW ?_|refine kU fun bk=>?_|refine kV fun hc=>?_|refine kZ (fun hc=>?_) fun hc=>?_|fail)
  refine OW_EV (EV_mask (p := 65536) rfl rfl (by rfl)) rfl ?_
  rw [hB]
  (repeat' first|refine kY ?_|refine kU fun bk=>?_|refine kV fun hc=>?_|refine kZ (fun hc=>?_) fun hc=>?_|fail)
  refine WC_seq ?_
  (repeat' first|refine kY ?_|refine kU fun bk=>?_|refine kV fun hc=>?_|refine kZ (fun hc=>?_) fun hc=>?_|fail)
  refine WC_cut (X := Unit) (fun _ => [(0, .int .i64 (A : Int)), (1, .int .i64 (B : Int)), (5, .slice (some ⟨q, 0, none⟩) N N), (7, .int .i64 (Z : Int))]) (fun _ => [(q, cl (bsv ys) 5)] :: L) (fun _ => True) ?_ ?_
  · unfold cpW at hZ
    (repeat' first|refine kW ?_|refine kU fun bk=>?_|refine kV fun hc=>?_|refine kZ (fun hc=>?_) fun hc=>?_|fail)
    · rw [if_pos (by omega)] at hZ
      subst hZ
      exact WQ_cut () trivial iS (fun w h => h)
    · rw [if_neg (by omega)] at hZ
      subst hZ
      exact WQ_cut () trivial iS (fun w h => h)
  intro _ _
  have hlN : (num (N : Int).toNat).length ≤ 5 := num_le 4 _ (by omega)
  have hlZ : (num (Z : Int).toNat).length ≤ 5 := num_le 4 _ (by omega)
  (repeat' first|refine kW ?_|refine kU fun bk=>?_|refine kV fun hc=>?_|refine kZ (fun hc=>?_) fun hc=>?_|fail)
  refine OW_call rfl rfl rfl (number_n (N : Int) _ (by omega)) rfl (fun r1 L' hp => ?_)
  obtain ⟨C1, rfl, o1⟩ := hp
  (repeat' first|refine kW ?_|refine kU fun bk=>?_|refine kV fun hc=>?_|refine kZ (fun hc=>?_) fun hc=>?_|fail)
  refine OW_call rfl rfl rfl (number_n (Z : Int) _ (by omega)) rfl (fun r2 L' hp => ?_)
  obtain ⟨C2, rfl, o2⟩ := hp
  rw [Int.toNat_natCast] at o1 o2 hlN hlZ
  (repeat' first|refine kW ?_|refine kU fun bk=>?_|refine kV fun hc=>?_|refine kZ (fun hc=>?_) fun hc=>?_|fail)
  refine OW_append rfl rfl o1 (ow_sl o2) (by repeat (first | exact Zip.here _ | apply Zip.there)) rfl bsv_ones (by omega) (by simp [maxLen]; omega) rfl (fun v3 C3 o3 _ _ => ?_)
  rw [← bsv_append] at o3
  (repeat' first|refine kW ?_|refine kU fun bk=>?_|refine kV fun hc=>?_|refine kZ (fun hc=>?_) fun hc=>?_|fail)
  rw [wrap_byte, show (A : Int) / 256 = ((A / 256 : Nat) : Int) from by omega, wrap_byte, show (A : Int) / 65536 = ((A / 65536 : Nat) : Int) from by omega, wrap_byte, wrap_byte, show (B : Int) / 256 = ((B / 256 : Nat) : Int) from by omega, wrap_byte]
  refine OW_buildSlice (cs := bsv (cpD A B)) rfl (by rfl) (by rw [cpD_bsv]; first | (simp [fillL, patch, Value.cells, zeros]; done) | (simp [fillL, patch, Value.cells, zeros]; rfl)) (by omega) rfl rfl (fun b4 => ?_)
  (repeat' first|refine kW ?_|refine kU fun bk=>?_|refine kV fun hc=>?_|refine kZ (fun hc=>?_) fun hc=>?_|fail)
  refine OW_append (c := 6) rfl rfl o3 (sl_cells (k := 1) (c := (bsv (cpD A B)).toArray) (xs := bsv (cpD A B)) (m := 6) Fnd.here (by rw [bsv_length]; rfl) (by simp)) (by repeat (first | exact Zip.here _ | apply Zip.there)) rfl bsv_ones (by omega) (by simp [maxLen]; omega) rfl (fun v4 C4 o4 _ _ => ?_)
  rw [← bsv_append, List.append_assoc] at o4
  subst hyl
  obtain ⟨d, hd⟩ : ∃ d, d = num ys.length ++ (num Z ++ cpD A B) := ⟨_, rfl⟩
  have hdl : (num ys.length).length + (num Z).length + 6 = d.length := by rw [hd, List.length_append, List.length_append, cpD_len]; omega
  rw [← hd, hdl] at o4
  obtain ⟨va, vc, rfl⟩ := ow_slc o4
  have hA2 : A < 16777216 := by omega
  by_cases hf : A + Z ≤ ys.length
  · have e1 : apP ys d (ys.length : Int).toNat = ((ys.drop A).take Z, 0) := by
      have h1 : ((ys.drop A).take Z).length = Z := by rw [List.length_take, List.length_drop]; omega
      have h2 := apP_mk (base := ys) (t := (ys.drop A).take Z) (D := cpD A B) (by omega) (by omega) (by rw [hZ] at hf ⊢; exact cpD_mk hA2 hB1 hf) (most := ys.length) (by omega)
      rw [h1, ← hd] at h2
      exact h2
    have e2 : apP ys d ((Z : Int) - 1).toNat = ([], 5) := by
      rw [hd]; exact apP_big (by omega) (by omega) (by omega)
    have hap := fun L h1 h2 => dapply_n (.slice (some ⟨q, 0, none⟩) ys.length ys.length) (.slice va d.length vc) ys d (ys.length : Int) L h1 h2 (by omega) (by omega)
    have hap2 := fun L h1 h2 => dapply_n (.slice (some ⟨q, 0, none⟩) ys.length ys.length) (.slice va d.length vc) ys d ((Z : Int) - 1) L h1 h2 (by omega) (by omega)
    rw [e1] at hap
    rw [e2] at hap2
    (repeat' first|refine kW ?_|refine kU fun bk=>?_|refine kV fun hc=>?_|refine kZ (fun hc=>?_) fun hc=>?_|fail)
    refine OW_call rfl rfl rfl (hap _ (rs_lit ys (by repeat (first | assumption | exact Fnd.here | refine Fnd.there ?_))) (by exact (Rs.ow o4).there.there)) rfl (fun r L' hp => ?_)
    obtain ⟨v5, C5, rfl, o5, rfl⟩ := hp
    obtain ⟨xa, xc, rfl⟩ := ow_slc o5
    (repeat' first|refine kW ?_|refine kU fun bk=>?_|refine kV fun hc=>?_|refine kZ (fun hc=>?_) fun hc=>?_|fail)
    refine OW_call rfl rfl rfl (hap2 _ (rs_lit ys (by repeat (first | assumption | exact Fnd.here | refine Fnd.there ?_))) (by exact (Rs.ow o4).there.there.there)) rfl (fun r L' hp => ?_)
    obtain ⟨v6, C6, rfl, o6, rfl⟩ := hp
    (repeat' first|refine kW ?_|refine kU fun bk=>?_|refine kV fun hc=>?_|refine kZ (fun hc=>?_) fun hc=>?_|fail)
    have hbs : Rs (C6 :: C5 :: [(b4, cl (bsv (cpD A B)) 5)] :: C2 :: C4 :: [(q, cl (bsv ys) 5)] :: L) 1 (.slice (some ⟨q, 0, none⟩) ys.length ys.length) ys.length (bsv ys) := rs_lit ys (by repeat (first | assumption | exact Fnd.here | refine Fnd.there ?_))
    obtain ⟨r7, q7, e7⟩ := rs_cut (P := Try.prog) (T := 22) hbs (l := A) (h := A + Z) (by omega) hf
    rw [show A + Z - A = Z from by omega] at q7
    have hs5 : Sl (C6 :: C5 :: [(b4, cl (bsv (cpD A B)) 5)] :: C2 :: C4 :: [(q, cl (bsv ys) 5)] :: L) 1 (.slice xa ((ys.drop A).take Z).length xc) ((ys.drop A).take Z).length (bsv ((ys.drop A).take Z)) := sl_there (ow_sl o5)
    refine WC_drawAll [] mixed ?_
    (refine WR_t 0 ?_; refine WR_t 1 ?_; refine WR_t 2 ?_)
    (refine WR_u 3 ?_)
    (refine WR_takeOn 4 rfl rfl rfl (by kernel_rfl) iP iC (EV_convStr (b := (ys.drop A).take Z) rfl (by exact hs5)) (by rfl) ?_)
    (refine WR_u 5 ?_; refine WR_u 6 ?_; refine WR_u 7 ?_; refine WR_u 8 ?_; refine WR_u 9 ?_)
    (refine WR_takeOn 10 rfl rfl rfl (by kernel_rfl) iP iC (e7 rfl rfl (bnd_int rfl (by omega))) (by rfl) ?_)
    (refine WR_takeOn 11 rfl rfl rfl (by kernel_rfl) iP iC (EV_convStr (b := (ys.drop A).take Z) rfl (by exact q7.sl)) (by rfl) ?_)
    (refine WR_u 12 ?_)
    rw [dec_eq]
    (refine WR_t 13 ?_; refine WR_t 14 ?_)
    (refine WR_u 15 ?_; refine WR_u 16 ?_)
    (refine WR_t 17 ?_; refine WR_t 18 ?_)
    (refine WR_oneOn 19 (by kernel_rfl) rfl rfl rfl ?_)
    refine OW_callP rfl rfl rfl (awake10_n _) rfl ?_
    refine ⟨iC, ?_⟩
    (refine WR_t 20 ?_; refine WR_t 21 ?_)
    (refine WR_done (by kernel_rfl) ?_)
    (repeat' first|refine kW ?_|refine kU fun bk=>?_|refine kV fun hc=>?_|refine kZ (fun hc=>?_) fun hc=>?_|fail)
    exact kE
  · have e1 : apP ys d (ys.length : Int).toNat = ([], 3) := by
      rw [hd]; exact apP_bad (by omega) (by omega) (cpD_bad hA2 hB1 (by rw [← hZ]; omega) Z) (by omega)
    have hap := fun L h1 h2 => dapply_n (.slice (some ⟨q, 0, none⟩) ys.length ys.length) (.slice va d.length vc) ys d (ys.length : Int) L h1 h2 (by omega) (by omega)
    rw [e1] at hap
    (repeat' first|refine kW ?_|refine kU fun bk=>?_|refine kV fun hc=>?_|refine kZ (fun hc=>?_) fun hc=>?_|fail)
    refine OW_call rfl rfl rfl (hap _ (rs_lit ys (by repeat (first | assumption | exact Fnd.here | refine Fnd.there ?_))) (by exact (Rs.ow o4).there.there)) rfl (fun r L' hp => ?_)
    obtain ⟨v5, C5, rfl, o5, rfl⟩ := hp
    obtain ⟨xa, xc, rfl⟩ := ow_slc o5
    ((repeat' first|refine kW ?_|refine kU fun bk=>?_|refine kV fun hc=>?_|refine kZ (fun hc=>?_) fun hc=>?_|fail) <;> try exact absurd trivial hc)
    all_goals
      refine OW_callP rfl rfl rfl (awake10_n _) rfl ?_
      ((repeat' first|refine kW ?_|refine kU fun bk=>?_|refine kV fun hc=>?_|refine kZ (fun hc=>?_) fun hc=>?_|fail) <;> try exact absurd trivial hc)
      exact kE
end Go.Proofs.Ytgldkjcllhcfnaa
