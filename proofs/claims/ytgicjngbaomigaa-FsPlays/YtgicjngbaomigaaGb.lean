/- FsRenames: its closure and its body, over the pure file system. It proves no statement by itself. No conditions. -/
import Derived.Test.YtgicjngbaomigaaGa
namespace Go.Proofs.Ytgicjngbaomigaa
open Go Go.Vx
variable [W0]
set_option maxRecDepth 4000
set_option linter.all false

omit [W0] in
abbrev nmT : ByteArray := ⟨#[116, 109, 112]⟩
omit [W0] in
abbrev nmI : ByteArray := ⟨#[105, 116]⟩
omit [W0] in
def putC (S : Fsy) (b : List UInt8) : Int × Fsy :=
  if (createS S nmT).1 ≠ 0 then createS S nmT else
  if (appendS (createS S nmT).2 nmT b).1 ≠ 0 then appendS (createS S nmT).2 nmT b else
  if (syncS (appendS (createS S nmT).2 nmT b).2 nmT).1 ≠ 0 then syncS (appendS (createS S nmT).2 nmT b).2 nmT else
  if (renameS (syncS (appendS (createS S nmT).2 nmT b).2 nmT).2 nmT nmI).1 ≠ 0 then renameS (syncS (appendS (createS S nmT).2 nmT b).2 nmT).2 nmT nmI else
  syncNamesS (renameS (syncS (appendS (createS S nmT).2 nmT b).2 nmT).2 nmT nmI).2
theorem good_putC {S : Fsy} {m : Nat} (b : List UInt8) (h : Good S m) (hm : m + 2 ≤ 90000) : Good (putC S b).2 (m + 2) := by
  have g1 := good_create nmT h (by omega)
  have g2 := good_append nmT b g1
  have g3 := good_sync nmT g2
  have g4 := good_rename nmT nmI g3 (by omega)
  have g5 := good_syncNames g4
  unfold putC
  (repeat' split)
  · exact g1.mono (by omega) (by omega)
  · exact g2.mono (by omega) (by omega)
  · exact g3.mono (by omega) (by omega)
  · exact g4
  · exact g5

omit [W0] in
def fptr (q p : Nat) : Chunk := [(q, cl [.pointer (some ⟨p, 0, none⟩)] 23)]

theorem putC_1 (S : Fsy) (p q m : Nat) (b : List UInt8) (v : Value) (C : Chunk) (L : List Chunk) (hA : FsAt S p C) (hG : Good S m) (hm : m + 2 ≤ 90000) (hv : Sl L 1 v b.length (bsv b)) (hb : b.length ≤ 281474976710656) :
    Gv Try.prog 32 [v, .pointer (some ⟨q, 0, none⟩)].toArray (fptr q p :: C :: L)
      (fun r L' => ∃ C', r = .int .i64 (putC S b).1 ∧ L' = fptr q p :: C' :: L ∧ FsAt (putC S b).2 p C') := by
  have g1 := good_create nmT hG (by omega)
  have g2 := good_append nmT b g1
  have g3 := good_sync nmT g2
  have g4 := good_rename nmT nmI g3 (by omega)
  refine Gv.of_body Try.func32 rfl rfl ?_
  simp only [fptr]
  (repeat' (first | (show WL _ _ _ _ _ _ _; first | (refine WL_plain rfl ?_) | (refine WL_nil ?_) | (refine WL_on rfl rfl ?_) | (refine WL_off rfl rfl rfl rfl ?_) | (refine WL_offu rfl rfl rfl rfl ?_) | (refine WL_off' rfl rfl rfl ?_) | ((refine WL_split rfl rfl (fun hc => ?_) (fun hc => ?_)) <;> (rw [hc]; (try simp only [nrB] at hc); (try (exfalso; first | omega | exact hc trivial | exact hc rfl))))) | (show OW _ _ _ _ _ _; refine OW_E ?_) | (show OW _ _ ⟨_, .store .., _, _, _, _⟩ _ _ _; first | (refine OW_store rfl rfl rfl (by repeat (first | exact Upd.here | apply Upd.there)) (by first | (simp; done) | (simp; omega)) ?_) | (refine OW_storeAgg rfl rfl rfl rfl (by repeat (first | exact Upd.here | apply Upd.there)) (by first | (simp [Value.cells]; done) | (simp [Value.cells]; omega)) ?_)) | (show OW _ _ ⟨_, .alloc _, _, _, _, _⟩ _ _ _; first | (refine OW_alloc rfl (fun bk => ?_))) | (show OW _ _ ⟨_, .box .., _, _, _, _⟩ _ _ _; first | (refine OW_box rfl rfl (fun bk => ?_))) | (show WC _ _ _ _ _ _; first | (refine WC_seq ?_) | (refine WC_region ?_) | (refine WC_true rfl ?_) | (refine WC_false rfl ?_) | ((refine WC_cond rfl (fun hc => ?_) (fun hc => ?_)) <;> (try simp only [nrB] at hc) <;> (try (exfalso; first | omega | exact hc trivial | exact hc rfl))) | (refine WC_skip ?_) | (refine WC_ret ?_) | (refine WC_exit ?_) | (refine WC_block ?_)) | (show WQ _ _ _ _; first | (with_reducible refine WQ_then_normal ?_) | (with_reducible refine WQ_code ?_) | (with_reducible refine WQ_then_ret ?_) | (with_reducible refine WQ_block_ret ?_) | (with_reducible refine WQ_then_exit ?_) | (with_reducible refine WQ_block_hit ?_) | (with_reducible refine WQ_block_miss rfl ?_) | (with_reducible refine WQ_block_normal ?_))))
  refine OW_call rfl rfl rfl (Gv.take (create_1 S p m nmT C _ hA hG) (by repeat (first | exact Take.here | apply Take.there))) rfl (fun r L' hp => ?_)
  obtain ⟨C1, rfl, rfl, h1⟩ := hp
  (repeat' (first | (show WL _ _ _ _ _ _ _; first | (refine WL_plain rfl ?_) | (refine WL_nil ?_) | (refine WL_on rfl rfl ?_) | (refine WL_off rfl rfl rfl rfl ?_) | (refine WL_offu rfl rfl rfl rfl ?_) | (refine WL_off' rfl rfl rfl ?_) | ((refine WL_split rfl rfl (fun hc => ?_) (fun hc => ?_)) <;> (rw [hc]; (try simp only [nrB] at hc); (try (exfalso; first | omega | exact hc trivial | exact hc rfl))))) | (show OW _ _ _ _ _ _; refine OW_E ?_) | (show OW _ _ ⟨_, .store .., _, _, _, _⟩ _ _ _; first | (refine OW_store rfl rfl rfl (by repeat (first | exact Upd.here | apply Upd.there)) (by first | (simp; done) | (simp; omega)) ?_) | (refine OW_storeAgg rfl rfl rfl rfl (by repeat (first | exact Upd.here | apply Upd.there)) (by first | (simp [Value.cells]; done) | (simp [Value.cells]; omega)) ?_)) | (show OW _ _ ⟨_, .alloc _, _, _, _, _⟩ _ _ _; first | (refine OW_alloc rfl (fun bk => ?_))) | (show OW _ _ ⟨_, .box .., _, _, _, _⟩ _ _ _; first | (refine OW_box rfl rfl (fun bk => ?_))) | (show WC _ _ _ _ _ _; first | (refine WC_seq ?_) | (refine WC_region ?_) | (refine WC_true rfl ?_) | (refine WC_false rfl ?_) | ((refine WC_cond rfl (fun hc => ?_) (fun hc => ?_)) <;> (try simp only [nrB] at hc) <;> (try (exfalso; first | omega | exact hc trivial | exact hc rfl))) | (refine WC_skip ?_) | (refine WC_ret ?_) | (refine WC_exit ?_) | (refine WC_block ?_)) | (show WQ _ _ _ _; first | (with_reducible refine WQ_then_normal ?_) | (with_reducible refine WQ_code ?_) | (with_reducible refine WQ_then_ret ?_) | (with_reducible refine WQ_block_ret ?_) | (with_reducible refine WQ_then_exit ?_) | (with_reducible refine WQ_block_hit ?_) | (with_reducible refine WQ_block_miss rfl ?_) | (with_reducible refine WQ_block_normal ?_))))
  · have e1 : (createS S nmT).1 = 0 := by assumption
    refine OW_call rfl rfl rfl (Gv.take (append_1 (createS S nmT).2 p (m + 1) nmT b v C1 _ h1 g1 (sl_there hv) hb) (by repeat (first | exact Take.here | apply Take.there))) rfl (fun r L' hp => ?_)
    obtain ⟨C2, rfl, rfl, h2⟩ := hp
    (repeat' (first | (show WL _ _ _ _ _ _ _; first | (refine WL_plain rfl ?_) | (refine WL_nil ?_) | (refine WL_on rfl rfl ?_) | (refine WL_off rfl rfl rfl rfl ?_) | (refine WL_offu rfl rfl rfl rfl ?_) | (refine WL_off' rfl rfl rfl ?_) | ((refine WL_split rfl rfl (fun hc => ?_) (fun hc => ?_)) <;> (rw [hc]; (try simp only [nrB] at hc); (try (exfalso; first | omega | exact hc trivial | exact hc rfl))))) | (show OW _ _ _ _ _ _; refine OW_E ?_) | (show OW _ _ ⟨_, .store .., _, _, _, _⟩ _ _ _; first | (refine OW_store rfl rfl rfl (by repeat (first | exact Upd.here | apply Upd.there)) (by first | (simp; done) | (simp; omega)) ?_) | (refine OW_storeAgg rfl rfl rfl rfl (by repeat (first | exact Upd.here | apply Upd.there)) (by first | (simp [Value.cells]; done) | (simp [Value.cells]; omega)) ?_)) | (show OW _ _ ⟨_, .alloc _, _, _, _, _⟩ _ _ _; first | (refine OW_alloc rfl (fun bk => ?_))) | (show OW _ _ ⟨_, .box .., _, _, _, _⟩ _ _ _; first | (refine OW_box rfl rfl (fun bk => ?_))) | (show WC _ _ _ _ _ _; first | (refine WC_seq ?_) | (refine WC_region ?_) | (refine WC_true rfl ?_) | (refine WC_false rfl ?_) | ((refine WC_cond rfl (fun hc => ?_) (fun hc => ?_)) <;> (try simp only [nrB] at hc) <;> (try (exfalso; first | omega | exact hc trivial | exact hc rfl))) | (refine WC_skip ?_) | (refine WC_ret ?_) | (refine WC_exit ?_) | (refine WC_block ?_)) | (show WQ _ _ _ _; first | (with_reducible refine WQ_then_normal ?_) | (with_reducible refine WQ_code ?_) | (with_reducible refine WQ_then_ret ?_) | (with_reducible refine WQ_block_ret ?_) | (with_reducible refine WQ_then_exit ?_) | (with_reducible refine WQ_block_hit ?_) | (with_reducible refine WQ_block_miss rfl ?_) | (with_reducible refine WQ_block_normal ?_))))
    · have e2 : (appendS (createS S nmT).2 nmT b).1 = 0 := by assumption
      refine OW_call rfl rfl rfl (Gv.take (sync_1 (appendS (createS S nmT).2 nmT b).2 p (m + 1) nmT C2 _ h2 g2) (by repeat (first | exact Take.here | apply Take.there))) rfl (fun r L' hp => ?_)
      obtain ⟨C3, rfl, rfl, h3⟩ := hp
      (repeat' (first | (show WL _ _ _ _ _ _ _; first | (refine WL_plain rfl ?_) | (refine WL_nil ?_) | (refine WL_on rfl rfl ?_) | (refine WL_off rfl rfl rfl rfl ?_) | (refine WL_offu rfl rfl rfl rfl ?_) | (refine WL_off' rfl rfl rfl ?_) | ((refine WL_split rfl rfl (fun hc => ?_) (fun hc => ?_)) <;> (rw [hc]; (try simp only [nrB] at hc); (try (exfalso; first | omega | exact hc trivial | exact hc rfl))))) | (show OW _ _ _ _ _ _; refine OW_E ?_) | (show OW _ _ ⟨_, .store .., _, _, _, _⟩ _ _ _; first | (refine OW_store rfl rfl rfl (by repeat (first | exact Upd.here | apply Upd.there)) (by first | (simp; done) | (simp; omega)) ?_) | (refine OW_storeAgg rfl rfl rfl rfl (by repeat (first | exact Upd.here | apply Upd.there)) (by first | (simp [Value.cells]; done) | (simp [Value.cells]; omega)) ?_)) | (show OW _ _ ⟨_, .alloc _, _, _, _, _⟩ _ _ _; first | (refine OW_alloc rfl (fun bk => ?_))) | (show OW _ _ ⟨_, .box .., _, _, _, _⟩ _ _ _; first | (refine OW_box rfl rfl (fun bk => ?_))) | (show WC _ _ _ _ _ _; first | (refine WC_seq ?_) | (refine WC_region ?_) | (refine WC_true rfl ?_) | (refine WC_false rfl ?_) | ((refine WC_cond rfl (fun hc => ?_) (fun hc => ?_)) <;> (try simp only [nrB] at hc) <;> (try (exfalso; first | omega | exact hc trivial | exact hc rfl))) | (refine WC_skip ?_) | (refine WC_ret ?_) | (refine WC_exit ?_) | (refine WC_block ?_)) | (show WQ _ _ _ _; first | (with_reducible refine WQ_then_normal ?_) | (with_reducible refine WQ_code ?_) | (with_reducible refine WQ_then_ret ?_) | (with_reducible refine WQ_block_ret ?_) | (with_reducible refine WQ_then_exit ?_) | (with_reducible refine WQ_block_hit ?_) | (with_reducible refine WQ_block_miss rfl ?_) | (with_reducible refine WQ_block_normal ?_))))
      · have e3 : (syncS (appendS (createS S nmT).2 nmT b).2 nmT).1 = 0 := by assumption
        refine OW_call rfl rfl rfl (Gv.take (rename_1 (syncS (appendS (createS S nmT).2 nmT b).2 nmT).2 p (m + 1) nmT nmI C3 _ h3 g3) (by repeat (first | exact Take.here | apply Take.there))) rfl (fun r L' hp => ?_)
        obtain ⟨C4, rfl, rfl, h4⟩ := hp
        (repeat' (first | (show WL _ _ _ _ _ _ _; first | (refine WL_plain rfl ?_) | (refine WL_nil ?_) | (refine WL_on rfl rfl ?_) | (refine WL_off rfl rfl rfl rfl ?_) | (refine WL_offu rfl rfl rfl rfl ?_) | (refine WL_off' rfl rfl rfl ?_) | ((refine WL_split rfl rfl (fun hc => ?_) (fun hc => ?_)) <;> (rw [hc]; (try simp only [nrB] at hc); (try (exfalso; first | omega | exact hc trivial | exact hc rfl))))) | (show OW _ _ _ _ _ _; refine OW_E ?_) | (show OW _ _ ⟨_, .store .., _, _, _, _⟩ _ _ _; first | (refine OW_store rfl rfl rfl (by repeat (first | exact Upd.here | apply Upd.there)) (by first | (simp; done) | (simp; omega)) ?_) | (refine OW_storeAgg rfl rfl rfl rfl (by repeat (first | exact Upd.here | apply Upd.there)) (by first | (simp [Value.cells]; done) | (simp [Value.cells]; omega)) ?_)) | (show OW _ _ ⟨_, .alloc _, _, _, _, _⟩ _ _ _; first | (refine OW_alloc rfl (fun bk => ?_))) | (show OW _ _ ⟨_, .box .., _, _, _, _⟩ _ _ _; first | (refine OW_box rfl rfl (fun bk => ?_))) | (show WC _ _ _ _ _ _; first | (refine WC_seq ?_) | (refine WC_region ?_) | (refine WC_true rfl ?_) | (refine WC_false rfl ?_) | ((refine WC_cond rfl (fun hc => ?_) (fun hc => ?_)) <;> (try simp only [nrB] at hc) <;> (try (exfalso; first | omega | exact hc trivial | exact hc rfl))) | (refine WC_skip ?_) | (refine WC_ret ?_) | (refine WC_exit ?_) | (refine WC_block ?_)) | (show WQ _ _ _ _; first | (with_reducible refine WQ_then_normal ?_) | (with_reducible refine WQ_code ?_) | (with_reducible refine WQ_then_ret ?_) | (with_reducible refine WQ_block_ret ?_) | (with_reducible refine WQ_then_exit ?_) | (with_reducible refine WQ_block_hit ?_) | (with_reducible refine WQ_block_miss rfl ?_) | (with_reducible refine WQ_block_normal ?_))))
        · have e4 : (renameS (syncS (appendS (createS S nmT).2 nmT b).2 nmT).2 nmT nmI).1 = 0 := by assumption
          refine OW_call rfl rfl rfl (Gv.take (syncNames_1 (renameS (syncS (appendS (createS S nmT).2 nmT b).2 nmT).2 nmT nmI).2 p (m + 1 + 1) C4 _ h4 g4) (by repeat (first | exact Take.here | apply Take.there))) rfl (fun r L' hp => ?_)
          obtain ⟨C5, rfl, rfl, h5⟩ := hp
          (repeat' (first | (show WL _ _ _ _ _ _ _; first | (refine WL_plain rfl ?_) | (refine WL_nil ?_) | (refine WL_on rfl rfl ?_) | (refine WL_off rfl rfl rfl rfl ?_) | (refine WL_offu rfl rfl rfl rfl ?_) | (refine WL_off' rfl rfl rfl ?_) | ((refine WL_split rfl rfl (fun hc => ?_) (fun hc => ?_)) <;> (rw [hc]; (try simp only [nrB] at hc); (try (exfalso; first | omega | exact hc trivial | exact hc rfl))))) | (show OW _ _ _ _ _ _; refine OW_E ?_) | (show OW _ _ ⟨_, .store .., _, _, _, _⟩ _ _ _; first | (refine OW_store rfl rfl rfl (by repeat (first | exact Upd.here | apply Upd.there)) (by first | (simp; done) | (simp; omega)) ?_) | (refine OW_storeAgg rfl rfl rfl rfl (by repeat (first | exact Upd.here | apply Upd.there)) (by first | (simp [Value.cells]; done) | (simp [Value.cells]; omega)) ?_)) | (show OW _ _ ⟨_, .alloc _, _, _, _, _⟩ _ _ _; first | (refine OW_alloc rfl (fun bk => ?_))) | (show OW _ _ ⟨_, .box .., _, _, _, _⟩ _ _ _; first | (refine OW_box rfl rfl (fun bk => ?_))) | (show WC _ _ _ _ _ _; first | (refine WC_seq ?_) | (refine WC_region ?_) | (refine WC_true rfl ?_) | (refine WC_false rfl ?_) | ((refine WC_cond rfl (fun hc => ?_) (fun hc => ?_)) <;> (try simp only [nrB] at hc) <;> (try (exfalso; first | omega | exact hc trivial | exact hc rfl))) | (refine WC_skip ?_) | (refine WC_ret ?_) | (refine WC_exit ?_) | (refine WC_block ?_)) | (show WQ _ _ _ _; first | (with_reducible refine WQ_then_normal ?_) | (with_reducible refine WQ_code ?_) | (with_reducible refine WQ_then_ret ?_) | (with_reducible refine WQ_block_ret ?_) | (with_reducible refine WQ_then_exit ?_) | (with_reducible refine WQ_block_hit ?_) | (with_reducible refine WQ_block_miss rfl ?_) | (with_reducible refine WQ_block_normal ?_))))
          have hc : putC S b = syncNamesS (renameS (syncS (appendS (createS S nmT).2 nmT b).2 nmT).2 nmT nmI).2 := by unfold putC; simp [e1, e2, e3, e4]
          first | refine WQ_retH rfl rfl ?_ | refine WQ_endH rfl rfl ?_
          rw [hc]
          exact ⟨_, fun w h => ((by repeat (first | exact Inc.refl | exact Inc.nil | refine Inc.cons (by repeat (first | exact Take.here | apply Take.there)) ?_ | refine Inc.skip ?_)) : Inc (fptr q p :: C5 :: L) _).holds h, C5, rfl, rfl, h5⟩
        · have hx : ¬ (renameS (syncS (appendS (createS S nmT).2 nmT b).2 nmT).2 nmT nmI).1 = 0 := by assumption
          have hc : putC S b = renameS (syncS (appendS (createS S nmT).2 nmT b).2 nmT).2 nmT nmI := by unfold putC; simp [hx, e1, e2, e3]
          first | refine WQ_retH rfl rfl ?_ | refine WQ_endH rfl rfl ?_
          rw [hc]
          exact ⟨_, fun w h => ((by repeat (first | exact Inc.refl | exact Inc.nil | refine Inc.cons (by repeat (first | exact Take.here | apply Take.there)) ?_ | refine Inc.skip ?_)) : Inc (fptr q p :: C4 :: L) _).holds h, C4, rfl, rfl, h4⟩
      · have hx : ¬ (syncS (appendS (createS S nmT).2 nmT b).2 nmT).1 = 0 := by assumption
        have hc : putC S b = syncS (appendS (createS S nmT).2 nmT b).2 nmT := by unfold putC; simp [hx, e1, e2]
        first | refine WQ_retH rfl rfl ?_ | refine WQ_endH rfl rfl ?_
        rw [hc]
        exact ⟨_, fun w h => ((by repeat (first | exact Inc.refl | exact Inc.nil | refine Inc.cons (by repeat (first | exact Take.here | apply Take.there)) ?_ | refine Inc.skip ?_)) : Inc (fptr q p :: C3 :: L) _).holds h, C3, rfl, rfl, h3⟩
    · have hx : ¬ (appendS (createS S nmT).2 nmT b).1 = 0 := by assumption
      have hc : putC S b = appendS (createS S nmT).2 nmT b := by unfold putC; simp [hx, e1]
      first | refine WQ_retH rfl rfl ?_ | refine WQ_endH rfl rfl ?_
      rw [hc]
      exact ⟨_, fun w h => ((by repeat (first | exact Inc.refl | exact Inc.nil | refine Inc.cons (by repeat (first | exact Take.here | apply Take.there)) ?_ | refine Inc.skip ?_)) : Inc (fptr q p :: C2 :: L) _).holds h, C2, rfl, rfl, h2⟩
  · have hx : ¬ (createS S nmT).1 = 0 := by assumption
    have hc : putC S b = createS S nmT := by unfold putC; simp [hx]
    first | refine WQ_retH rfl rfl ?_ | refine WQ_endH rfl rfl ?_
    rw [hc]
    exact ⟨_, fun w h => ((by repeat (first | exact Inc.refl | exact Inc.nil | refine Inc.cons (by repeat (first | exact Take.here | apply Take.there)) ?_ | refine Inc.skip ?_)) : Inc (fptr q p :: C1 :: L) _).holds h, C1, rfl, rfl, h1⟩
end Go.Proofs.Ytgicjngbaomigaa
