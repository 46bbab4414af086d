/- The document's own answer for layer 10: Apply. It proves no statement by itself. No conditions. -/
import Derived.Test.YtckelgpocplplaaRm
namespace Go.Dl
set_option linter.all false
theorem hdT_max (d : List UInt8) : hdT d ≤ 2147483647 := by
  unfold hdT; split
  · exact rn_max _
  · exact Nat.zero_le _
theorem hdU_le (d : List UInt8) : hdU d ≤ d.length := by
  have h1 := rn_le d
  have h2 := rn_le (d.drop (rn d).2.1)
  rw [List.length_drop] at h2
  unfold hdU; split <;> omega
theorem ap_doc (base : List UInt8) (to k : Nat) (c : UInt8) (d out : List UInt8) (hc : 128 ≤ c.toNat) : ap base to (k + 1) (c :: d) out =
    match fd (c.toNat % 16) 4 d with
      | none => ([], 4)
      | some x => match fd (c.toNat / 16 % 8) 3 x.2 with
        | none => ([], 4)
        | some y =>
          if base.length < x.1 ∨ base.length - x.1 < (if y.1 = 0 then 65536 else y.1) ∨ to - out.length < (if y.1 = 0 then 65536 else y.1) then ([], 3)
          else ap base to k y.2 (out ++ (base.drop x.1).take (if y.1 = 0 then 65536 else y.1)) := by
  rw [ap, if_neg (by omega), if_neg (by omega)]
  cases fd (c.toNat % 16) 4 d with
  | none => rfl
  | some x =>
    simp only
    cases fd (c.toNat / 16 % 8) 3 x.2 with
    | none => rfl
    | some y => rfl
end Go.Dl
namespace Go.Proofs.Ytckelgpocplplaa
open Go Go.Vx Go.Dl
variable [W0]
set_option maxRecDepth 4000
set_option linter.all false
omit [W0] in
/-- A delta's head, as the document's answer bears it. -/
def hdC (p : Nat) (d : List UInt8) : Chunk := [(p, cl [.int .i64 (hdF d : Int), .int .i64 (hdT d : Int), .int .i64 (hdU d : Int), .int .i64 (hdE d : Int)] 48)]
set_option maxHeartbeats 16000000 in
theorem refapply_n (vb vd : Value) (base d : List UInt8) (most : Int) (L : List Chunk) (hb : Rs L 1 vb base.length (bsv base)) (hd : Rs L 1 vd d.length (bsv d)) (hl : d.length ≤ 140737488355328) (hbl : base.length ≤ 140737488355328) :
    Gv Try.prog 10 [vb, vd, .int .i64 most].toArray L (fun r L' => ∃ v C, r = .tuple #[v, .int .i64 ((apD base d most.toNat).2 : Int)] ∧ Ow 5 1 v (apD base d most.toNat).1.length (bsv (apD base d most.toNat).1) C ∧ L' = C :: L) := by
  refine Gv.of_body (args := [vb, vd, .int .i64 most]) Try.func10 rfl rfl ?_
  have hnil : Ow 5 1 (.slice none 0 0) ([] : List UInt8).length (bsv []) [] := .inl ⟨rfl, rfl, rfl, rfl⟩
  have hT := hdT_max d
  have hU := hdU_le d
  have hs := fun L h => refsizes_n vd d L h hl
  obtain ⟨r1, q1, e1⟩ := rs_cut (P := Try.prog) (T := 23) hd (l := hdU d) (h := d.length) hU (Nat.le_refl _)
  rw [List.take_of_length_le (by rw [List.length_drop]; exact Nat.le_refl _)] at q1
  obtain ⟨ba, bc, rfl⟩ := rs_val hb
  obtain ⟨da, dc, rfl⟩ := rs_val hd
  (repeat' first|refine kW ?_|refine kU fun bk=>?_|refine kV fun hc=>?_|refine kZ (fun hc=>?_) fun hc=>?_|fail)
  refine OW_callP rfl rfl rfl (hs _ hd) rfl ?_
  (repeat' first|refine kW ?_|refine kU fun bk=>?_|refine kV fun hc=>?_|refine kZ (fun hc=>?_) fun hc=>?_|fail)
  · refine WC_drawAll [] mixed ?_
    (refine WR_t 0 ?_; refine WR_t 1 ?_; refine WR_t 2 ?_; refine WR_t 3 ?_)
    (refine WR_done (by kernel_rfl) ?_)
    (repeat' first|refine kW ?_|refine kU fun bk=>?_|refine kV fun hc=>?_|refine kZ (fun hc=>?_) fun hc=>?_|fail)
    have e : apD base d most.toNat = ([], hdE d) := by unfold apD; rw [if_pos (by omega)]
    rw [e]
    first | refine WQ_retH rfl rfl ?_ | refine WQ_endH rfl rfl ?_
    exact ⟨[] :: L, fun w h => Holds.nil.2 h.drop, _, [], rfl, hnil, rfl⟩
  · have e : apD base d most.toNat = ([], 3) := by unfold apD; rw [if_neg (by omega), if_pos (by omega)]
    rw [e]
    first | refine WQ_retH rfl rfl ?_ | refine WQ_endH rfl rfl ?_
    exact ⟨[] :: L, fun w h => Holds.nil.2 h.drop, _, [], rfl, hnil, rfl⟩
  · have e : apD base d most.toNat = ([], 5) := by unfold apD; rw [if_neg (by omega), if_neg (by omega), if_pos (by omega)]
    rw [e]
    first | refine WQ_retH rfl rfl ?_ | refine WQ_endH rfl rfl ?_
    exact ⟨[] :: L, fun w h => Holds.nil.2 h.drop, _, [], rfl, hnil, rfl⟩
  have e : apD base d most.toNat = ap base (hdT d) (d.drop (hdU d)).length (d.drop (hdU d)) [] := by unfold apD; rw [if_neg (by omega), if_neg (by omega), if_neg (by omega)]
  rw [e]
  have hdl : (d.drop (hdU d)).length ≤ 140737488355328 := by rw [List.length_drop]; omega
  obtain ⟨P0, hP0⟩ : ∃ P0, P0 = bk := ⟨_, rfl⟩
  rw [← hP0]
  clear hP0
  apply OW_buildSlice (parts := []) rfl (by rfl) (by simp [fillL]; rfl) (by omega) rfl rfl (fun b0 => ?_)
  (repeat' first|refine kW ?_|refine kU fun bk=>?_|refine kV fun hc=>?_|refine kZ (fun hc=>?_) fun hc=>?_|fail)
  refine OW_EV (e1 rfl rfl rfl) rfl ?_
  (repeat' first|refine kW ?_|refine kU fun bk=>?_|refine kV fun hc=>?_|refine kZ (fun hc=>?_) fun hc=>?_|fail)
  refine WC_loop (X := List UInt8 × List UInt8 × Value × Value × Chunk) (fun x => [(0, .slice ba base.length bc), (1, x.2.2.1), (8, .pointer (some ⟨P0, 0, none⟩)), (9, x.2.2.2.1)]) (fun x => x.2.2.2.2 :: hdC P0 d :: L)
    (fun x => x.1.length ≤ 140737488355328 ∧ x.2.1.length ≤ hdT d ∧ ap base (hdT d) (d.drop (hdU d)).length (d.drop (hdU d)) [] = ap base (hdT d) x.1.length x.1 x.2.1 ∧ Rs L 1 x.2.2.1 x.1.length (bsv x.1) ∧ Ow 5 1 x.2.2.2.1 x.2.1.length (bsv x.2.1) x.2.2.2.2) (fun x => x.1.length)
    (d.drop (hdU d), [], r1, .slice (some ⟨b0, 0, none⟩) 0 0, [(b0, cl [] 5)])
    ⟨hdl, Nat.zero_le _, rfl, q1, .inr ⟨b0, 0, [], rfl, rfl, rfl, rfl, Nat.le_refl _, by simp [maxLen]⟩⟩ iS (fun w h => h) ?_
  rintro ⟨f, o, vq, vp, D⟩ ⟨h1, h2, h3, h4, h5⟩
  simp only at h1 h2 h3 h4 h5 ⊢
  obtain ⟨qa, qc, rfl⟩ := rs_val h4
  obtain ⟨pa, pc, rfl⟩ := ow_slc h5
  rw [h3]
  cases f with
  | nil =>
    have e2 : ap base (hdT d) ([] : List UInt8).length [] o = if o.length < hdT d then ([], 3) else (o, 0) := rfl
    rw [e2]
    simp only [List.length_nil] at h4 ⊢
    unfold hdC
    (repeat' first|refine kW ?_|refine kU fun bk=>?_|refine kV fun hc=>?_|refine kZ (fun hc=>?_) fun hc=>?_|fail)
    · rw [if_pos (by omega)]
      first | refine WQ_retH rfl rfl ?_ | refine WQ_endH rfl rfl ?_
      exact ⟨[] :: L, fun w h => Holds.nil.2 h.drop.drop, _, [], rfl, hnil, rfl⟩
    · rw [if_neg (by omega)]
      refine kR ?_
      exact ⟨_, iC, _, D, rfl, h5, rfl⟩
  | cons c f =>
    obtain ⟨bb, off, cap, cc, T, fr, hve, hfn, hcell⟩ := sl_at h4.sl (k := 0) (u := .int .u8 (c.toNat : Int)) rfl
    have hcl := c.toNat_lt
    obtain ⟨r2, q2, e2⟩ := rs_cut (P := Try.prog) (T := 23) h4 (l := 1) (h := (c :: f).length) (by simp) (Nat.le_refl _)
    rw [List.take_of_length_le (by rw [List.length_drop]; exact Nat.le_refl _)] at q2
    have q3 : Rs L 1 r2 f.length (bsv f) := by simpa using q2
    clear q2
    simp only [List.length_cons] at h1 h4 hve e2 ⊢
    injection hve with q4 q5 q6
    subst q4 q6
    clear q5
    unfold hdC
    (repeat' first|refine kW ?_|refine kU fun bk=>?_|refine kV fun hc=>?_|refine kZ (fun hc=>?_) fun hc=>?_|fail)
    refine OW_EV (EV_indexAddr (j := 0) rfl rfl rfl (by omega)) rfl ?_
    (repeat' first|refine kW ?_|refine kU fun bk=>?_|refine kV fun hc=>?_|refine kZ (fun hc=>?_) fun hc=>?_|fail)
    refine OW_EV (EV_load rfl hfn.there.there hcell) rfl ?_
    (repeat' first|refine kW ?_|refine kU fun bk=>?_|refine kV fun hc=>?_|refine kZ (fun hc=>?_) fun hc=>?_|fail)
    refine OW_EV (e2 rfl rfl rfl) rfl ?_
    obtain ⟨ra, rc, rfl⟩ := rs_val q3
    (repeat' first|refine kW ?_|refine kU fun bk=>?_|refine kV fun hc=>?_|refine kZ (fun hc=>?_) fun hc=>?_|fail)
    · rw [ap_zero base (hdT d) f.length c f o (by omega)]
      first | refine WQ_retH rfl rfl ?_ | refine WQ_endH rfl rfl ?_
      exact ⟨[] :: L, fun w h => Holds.nil.2 h.drop.drop, _, [], rfl, hnil, rfl⟩
    · rw [ap_ins base (hdT d) f.length c f o (by omega) (by omega), if_pos (by omega)]
      first | refine WQ_retH rfl rfl ?_ | refine WQ_endH rfl rfl ?_
      exact ⟨[] :: L, fun w h => Holds.nil.2 h.drop.drop, _, [], rfl, hnil, rfl⟩
    · rw [ap_ins base (hdT d) f.length c f o (by omega) (by omega), if_neg (by omega), if_pos (by omega)]
      first | refine WQ_retH rfl rfl ?_ | refine WQ_endH rfl rfl ?_
      exact ⟨[] :: L, fun w h => Holds.nil.2 h.drop.drop, _, [], rfl, hnil, rfl⟩
    · have hap := ap_ins base (hdT d) f.length c f o (by omega) (by omega)
      rw [if_neg (by omega), if_neg (by omega)] at hap
      obtain ⟨r3, q7, e3⟩ := rs_cut (P := Try.prog) (T := 23) q3 (l := 0) (h := c.toNat) (Nat.zero_le _) (by omega)
      obtain ⟨r4, q8, e4⟩ := rs_cut (P := Try.prog) (T := 23) q3 (l := c.toNat) (h := f.length) (by omega) (Nat.le_refl _)
      rw [List.drop_zero, Nat.sub_zero] at q7
      rw [List.take_of_length_le (by rw [List.length_drop]; exact Nat.le_refl _)] at q8
      have htl : (f.take c.toNat).length = c.toNat := by rw [List.length_take]; omega
      refine OW_EV (e3 rfl rfl rfl) rfl ?_
      (repeat' first|refine kW ?_|refine kU fun bk=>?_|refine kV fun hc=>?_|refine kZ (fun hc=>?_) fun hc=>?_|fail)
      refine OW_append rfl rfl h5 (sl_there (sl_there q7.sl)) (by repeat (first | exact Zip.here _ | apply Zip.there)) rfl bsv_ones (by omega) (by simp [maxLen]; omega) rfl (fun v' C' ho' _ _ => ?_)
      rw [← bsv_append] at ho'
      (repeat' first|refine kW ?_|refine kU fun bk=>?_|refine kV fun hc=>?_|refine kZ (fun hc=>?_) fun hc=>?_|fail)
      refine OW_EV (e4 rfl rfl rfl) rfl ?_
      (repeat' first|refine kW ?_|refine kU fun bk=>?_|refine kV fun hc=>?_|refine kZ (fun hc=>?_) fun hc=>?_|fail)
      refine WQ_round (X := List UInt8 × List UInt8 × Value × Value × Chunk) (μ := fun x => x.1.length) (x := (c :: f, o, .slice (some ⟨bb, off, none⟩) (f.length + 1) qc, .slice pa o.length pc, D)) (f.drop c.toNat, o ++ f.take c.toNat, r4, v', C') (by simp; omega) ⟨by simp; omega, by simp only [List.length_append, htl]; omega, ?_, q8, by rw [List.length_append]; exact ho'⟩ iS (fun w h => h)
      simp only
      rw [hap]
      exact ap_fuel _ _ _ _ _ _ (by rw [List.length_drop]; omega) (Nat.le_refl _)
    · have hap := ap_doc base (hdT d) f.length c f o (by omega)
      refine OW_EV (EV_mask (p := 16) rfl rfl (by rfl)) rfl ?_
      rw [show ((c.toNat : Int) % 16) = ((c.toNat % 16 : Nat) : Int) from by omega]
      (repeat' first|refine kW ?_|refine kU fun bk=>?_|refine kV fun hc=>?_|refine kZ (fun hc=>?_) fun hc=>?_|fail)
      refine OW_call rfl rfl rfl (reffield_n (.slice ra f.length rc) f (c.toNat % 16) 4 L _ (fun x h => mem_tail (mem_tail (fun x h => h)) x h) q3 (by omega) (by omega) (by omega)) rfl (fun r L' hp => ?_)
      obtain ⟨rfl, ⟨g1, rfl⟩ | ⟨x, v', g1, rfl, g2⟩⟩ := hp
      · rw [g1] at hap
        rw [hap]
        (repeat' first|refine kW ?_|refine kU fun bk=>?_|refine kV fun hc=>?_|refine kZ (fun hc=>?_) fun hc=>?_|fail)
        first | refine WQ_retH rfl rfl ?_ | refine WQ_endH rfl rfl ?_
        exact ⟨[] :: L, fun w h => Holds.nil.2 h.drop.drop, _, [], rfl, hnil, rfl⟩
      rw [g1] at hap
      simp only at hap
      obtain ⟨wa, wc, rfl⟩ := rs_val g2
      have hx1 := fd_le _ _ _ _ g1
      (repeat' first|refine kW ?_|refine kU fun bk=>?_|refine kV fun hc=>?_|refine kZ (fun hc=>?_) fun hc=>?_|fail)
      refine OW_EV (EV_mask (p := 8) rfl rfl (by rfl)) rfl ?_
      rw [show ((c.toNat : Int) / 16 % 8) = ((c.toNat / 16 % 8 : Nat) : Int) from by omega]
      (repeat' first|refine kW ?_|refine kU fun bk=>?_|refine kV fun hc=>?_|refine kZ (fun hc=>?_) fun hc=>?_|fail)
      refine OW_call rfl rfl rfl (reffield_n (.slice wa x.2.length wc) x.2 (c.toNat / 16 % 8) 3 L _ (fun x h => mem_tail (mem_tail (fun x h => h)) x h) g2 (by omega) (by omega) (by omega)) rfl (fun r L' hp => ?_)
      obtain ⟨rfl, ⟨g3, rfl⟩ | ⟨y, v', g3, rfl, g4⟩⟩ := hp
      · rw [g3] at hap
        rw [hap]
        (repeat' first|refine kW ?_|refine kU fun bk=>?_|refine kV fun hc=>?_|refine kZ (fun hc=>?_) fun hc=>?_|fail)
        first | refine WQ_retH rfl rfl ?_ | refine WQ_endH rfl rfl ?_
        exact ⟨[] :: L, fun w h => Holds.nil.2 h.drop.drop, _, [], rfl, hnil, rfl⟩
      rw [g3] at hap
      simp only at hap
      obtain ⟨ya, yc, rfl⟩ := rs_val g4
      have hy1 := fd_le _ _ _ _ g3
      obtain ⟨at_, m⟩ := x
      obtain ⟨k, fr⟩ := y
      simp only at hap hx1 hy1 g2 g4 ⊢
      obtain ⟨n, hn⟩ : ∃ n, n = (if k = 0 then 65536 else k) := ⟨_, rfl⟩
      rw [← hn] at hap
      have hn0 : 0 < n := by rw [hn]; split <;> omega
      have hn1 : n < 16777216 := by rw [hn]; split <;> omega
      by_cases hk : k = 0
      · rw [if_pos hk] at hn
        (repeat' first|refine kW ?_|refine kU fun bk=>?_|refine kV fun hc=>?_|refine kZ (fun hc=>?_) fun hc=>?_|fail)
        all_goals first
          | (rw [hap, if_pos (by omega)]
             first | refine WQ_retH rfl rfl ?_ | refine WQ_endH rfl rfl ?_
             exact ⟨[] :: L, fun w h => Holds.nil.2 h.drop.drop, _, [], rfl, hnil, rfl⟩)
          | (rw [if_neg (by omega)] at hap
             obtain ⟨r5, q9, e5⟩ := rs_cut (P := Try.prog) (T := 23) hb (l := at_) (h := at_ + n) (by omega) (by omega)
             rw [show at_ + n - at_ = n from by omega] at q9
             have hcl2 : ((base.drop at_).take n).length = n := by rw [List.length_take, List.length_drop]; omega
             refine OW_EV (e5 rfl rfl (bnd_int rfl (by omega))) rfl ?_
             (repeat' first|refine kW ?_|refine kU fun bk=>?_|refine kV fun hc=>?_|refine kZ (fun hc=>?_) fun hc=>?_|fail)
             refine OW_append rfl rfl h5 (sl_there (sl_there q9.sl)) (by repeat (first | exact Zip.here _ | apply Zip.there)) rfl bsv_ones (by omega) (by simp [maxLen]; omega) rfl (fun v' C' ho' _ _ => ?_)
             rw [← bsv_append] at ho'
             (repeat' first|refine kW ?_|refine kU fun bk=>?_|refine kV fun hc=>?_|refine kZ (fun hc=>?_) fun hc=>?_|fail)
             refine WQ_round (X := List UInt8 × List UInt8 × Value × Value × Chunk) (μ := fun x => x.1.length) (x := (c :: f, o, .slice (some ⟨bb, off, none⟩) (f.length + 1) qc, .slice pa o.length pc, D)) (fr, o ++ (base.drop at_).take n, .slice ya fr.length yc, v', C') (by simp; omega) ⟨by simp; omega, by simp only [List.length_append, hcl2]; omega, ?_, g4, by rw [List.length_append]; exact ho'⟩ iS (fun w h => h)
             simp only
             rw [hap]
             exact ap_fuel _ _ _ _ _ _ (by omega) (Nat.le_refl _))
      · rw [if_neg hk] at hn
        (repeat' first|refine kW ?_|refine kU fun bk=>?_|refine kV fun hc=>?_|refine kZ (fun hc=>?_) fun hc=>?_|fail)
        all_goals first
          | (rw [hap, if_pos (by omega)]
             first | refine WQ_retH rfl rfl ?_ | refine WQ_endH rfl rfl ?_
             exact ⟨[] :: L, fun w h => Holds.nil.2 h.drop.drop, _, [], rfl, hnil, rfl⟩)
          | (rw [if_neg (by omega)] at hap
             obtain ⟨r5, q9, e5⟩ := rs_cut (P := Try.prog) (T := 23) hb (l := at_) (h := at_ + n) (by omega) (by omega)
             rw [show at_ + n - at_ = n from by omega] at q9
             have hcl2 : ((base.drop at_).take n).length = n := by rw [List.length_take, List.length_drop]; omega
             refine OW_EV (e5 rfl rfl (bnd_int rfl (by omega))) rfl ?_
             (repeat' first|refine kW ?_|refine kU fun bk=>?_|refine kV fun hc=>?_|refine kZ (fun hc=>?_) fun hc=>?_|fail)
             refine OW_append rfl rfl h5 (sl_there (sl_there q9.sl)) (by repeat (first | exact Zip.here _ | apply Zip.there)) rfl bsv_ones (by omega) (by simp [maxLen]; omega) rfl (fun v' C' ho' _ _ => ?_)
             rw [← bsv_append] at ho'
             (repeat' first|refine kW ?_|refine kU fun bk=>?_|refine kV fun hc=>?_|refine kZ (fun hc=>?_) fun hc=>?_|fail)
             refine WQ_round (X := List UInt8 × List UInt8 × Value × Value × Chunk) (μ := fun x => x.1.length) (x := (c :: f, o, .slice (some ⟨bb, off, none⟩) (f.length + 1) qc, .slice pa o.length pc, D)) (fr, o ++ (base.drop at_).take n, .slice ya fr.length yc, v', C') (by simp; omega) ⟨by simp; omega, by simp only [List.length_append, hcl2]; omega, ?_, g4, by rw [List.length_append]; exact ho'⟩ iS (fun w h => h)
             simp only
             rw [hap]
             exact ap_fuel _ _ _ _ _ _ (by omega) (Nat.le_refl _))
end Go.Proofs.Ytckelgpocplplaa
