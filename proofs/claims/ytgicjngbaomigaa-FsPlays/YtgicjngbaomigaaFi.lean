/- Append and New. It proves no statement by itself. No conditions. -/
import Derived.Test.YtgicjngbaomigaaFh
namespace Go.Proofs.Ytgicjngbaomigaa
open Go Go.Vx
variable [W0]
set_option maxRecDepth 4000
set_option linter.all false

omit [W0] in
def appendS (S : Fsy) (s : ByteArray) (b : List UInt8) : Int × Fsy :=
  if openE S s ≠ 0 then (openE S s, S) else if usedN S + b.length > S.quota then (60, S) else
  if spendE S ≠ 0 then (spendE S, spendS S) else
  (0, { spendS S with files := S.files.set (fileE S.names s) ⟨(fiAt S.files ⟨s, fileE S.names s⟩).data ++ b, (fiAt S.files ⟨s, fileE S.names s⟩).synced⟩ })

theorem append_1 (S : Fsy) (p m : Nat) (s : ByteArray) (b : List UInt8) (v : Value) (C : Chunk) (L : List Chunk) (hA : FsAt S p C) (hG : Good S m) (hv : Sl L 1 v b.length (bsv b)) (hb : b.length ≤ 281474976710656) :
    Gv Try.prog 14 [.pointer (some ⟨p, 0, none⟩), .string s, v].toArray (C :: L)
      (fun r L' => ∃ C', r = .int .i64 (appendS S s b).1 ∧ L' = C' :: L ∧ FsAt (appendS S s b).2 p C') := by
  obtain ⟨fv, nv, dv, jv, vs, Cs, Cf, Cn, Cd, Cj, rfl, hf, hr, hn, hd, hj⟩ := hA
  refine Gv.holds (L' := hdr S p fv nv dv jv :: Cf :: Cn :: Cd :: Cj :: Cs.flatten :: L) ?_ (fun w h => six.1 h)
  obtain ⟨va, vc, rfl⟩ := sl_slice hv
  refine Gv.of_body Try.func14 rfl rfl ?_
  (repeat' (first | (show WL _ _ _ _ _ _ _; first | (refine WL_plain rfl ?_) | (refine WL_nil ?_) | (refine WL_on rfl rfl ?_) | (refine WL_off rfl rfl rfl rfl ?_) | (refine WL_offu rfl rfl rfl rfl ?_) | (refine WL_off' rfl rfl rfl ?_) | ((refine WL_split rfl rfl (fun hc => ?_) (fun hc => ?_)) <;> (rw [hc]; (try simp only [nrB] at hc); (try (exfalso; first | omega | exact hc trivial | exact hc rfl))))) | (show OW _ _ _ _ _ _; refine OW_E ?_) | (show OW _ _ ⟨_, .store .., _, _, _, _⟩ _ _ _; first | (refine OW_store rfl rfl rfl (by repeat (first | exact Upd.here | apply Upd.there)) (by first | (simp; done) | (simp; omega)) ?_) | (refine OW_storeAgg rfl rfl rfl rfl (by repeat (first | exact Upd.here | apply Upd.there)) (by first | (simp [Value.cells]; done) | (simp [Value.cells]; omega)) ?_)) | (show OW _ _ ⟨_, .alloc _, _, _, _, _⟩ _ _ _; first | (refine OW_alloc rfl (fun bk => ?_))) | (show OW _ _ ⟨_, .box .., _, _, _, _⟩ _ _ _; first | (refine OW_box rfl rfl (fun bk => ?_))) | (show WC _ _ _ _ _ _; first | (refine WC_seq ?_) | (refine WC_region ?_) | (refine WC_true rfl ?_) | (refine WC_false rfl ?_) | ((refine WC_cond rfl (fun hc => ?_) (fun hc => ?_)) <;> (try simp only [nrB] at hc) <;> (try (exfalso; first | omega | exact hc trivial | exact hc rfl))) | (refine WC_skip ?_) | (refine WC_ret ?_) | (refine WC_exit ?_) | (refine WC_block ?_)) | (show WQ _ _ _ _; first | (with_reducible refine WQ_then_normal ?_) | (with_reducible refine WQ_code ?_) | (with_reducible refine WQ_then_ret ?_) | (with_reducible refine WQ_block_ret ?_) | (with_reducible refine WQ_then_exit ?_) | (with_reducible refine WQ_block_hit ?_) | (with_reducible refine WQ_block_miss rfl ?_) | (with_reducible refine WQ_block_normal ?_))))
  have hS := see_of (p := p) (dv := dv) (jv := jv) (Cd := Cd) (Cj := Cj) (L := L) hG hf hr hn
  refine OW_callP rfl rfl rfl (open_1 S p fv nv dv jv s _ hS.h hS.n hS.an hS.ln) rfl ?_
  have hub := used_le hG
  have hq := hG.q
  (repeat' (first | (show WL _ _ _ _ _ _ _; first | (refine WL_plain rfl ?_) | (refine WL_nil ?_) | (refine WL_on rfl rfl ?_) | (refine WL_off rfl rfl rfl rfl ?_) | (refine WL_offu rfl rfl rfl rfl ?_) | (refine WL_off' rfl rfl rfl ?_) | ((refine WL_split rfl rfl (fun hc => ?_) (fun hc => ?_)) <;> (rw [hc]; (try simp only [nrB] at hc); (try (exfalso; first | omega | exact hc trivial | exact hc rfl))))) | (show OW _ _ _ _ _ _; refine OW_E ?_) | (show OW _ _ ⟨_, .store .., _, _, _, _⟩ _ _ _; first | (refine OW_store rfl rfl rfl (by repeat (first | exact Upd.here | apply Upd.there)) (by first | (simp; done) | (simp; omega)) ?_) | (refine OW_storeAgg rfl rfl rfl rfl (by repeat (first | exact Upd.here | apply Upd.there)) (by first | (simp [Value.cells]; done) | (simp [Value.cells]; omega)) ?_)) | (show OW _ _ ⟨_, .alloc _, _, _, _, _⟩ _ _ _; first | (refine OW_alloc rfl (fun bk => ?_))) | (show OW _ _ ⟨_, .box .., _, _, _, _⟩ _ _ _; first | (refine OW_box rfl rfl (fun bk => ?_))) | (show WC _ _ _ _ _ _; first | (refine WC_seq ?_) | (refine WC_region ?_) | (refine WC_true rfl ?_) | (refine WC_false rfl ?_) | ((refine WC_cond rfl (fun hc => ?_) (fun hc => ?_)) <;> (try simp only [nrB] at hc) <;> (try (exfalso; first | omega | exact hc trivial | exact hc rfl))) | (refine WC_skip ?_) | (refine WC_ret ?_) | (refine WC_exit ?_) | (refine WC_block ?_)) | (show WQ _ _ _ _; first | (with_reducible refine WQ_then_normal ?_) | (with_reducible refine WQ_code ?_) | (with_reducible refine WQ_then_ret ?_) | (with_reducible refine WQ_block_ret ?_) | (with_reducible refine WQ_then_exit ?_) | (with_reducible refine WQ_block_hit ?_) | (with_reducible refine WQ_block_miss rfl ?_) | (with_reducible refine WQ_block_normal ?_))))
  · have h0 : ¬ openE S s = 0 := by assumption
    have hc : appendS S s b = (openE S s, S) := by simp [appendS, h0]
    first | refine WQ_retH rfl rfl ?_ | refine WQ_endH rfl rfl ?_
    rw [hc]
    exact ⟨_, fun w h => six.2 h, _, rfl, rfl, fv, nv, dv, jv, vs, Cs, Cf, Cn, Cd, Cj, rfl, hf, hr, hn, hd, hj⟩
  · have h0 : openE S s = 0 := by omega
    obtain ⟨hdead, hok, hhas⟩ := openE_zero h0
    refine WC_drawAll [] mixed ?_
    (refine WR_t 0 ?_; refine WR_t 2 ?_; refine WR_t 3 ?_; refine WR_t 5 ?_; refine WR_t 6 ?_; refine WR_t 7 ?_; refine WR_t 8 ?_)
    (refine WR_one 1 (by kernel_rfl) rfl rfl ?_)
    refine OW_callP rfl rfl rfl (used_1 S p fv nv dv jv vs _ hS (by omega)) rfl ?_
    refine ⟨(by repeat (first | exact Inc.refl | exact Inc.nil | refine Inc.cons (by repeat (first | exact Take.here | apply Take.there)) ?_ | refine Inc.skip ?_)), ?_⟩
    (refine WR_t 4 ?_; refine WR_t 9 ?_)
    (refine WR_done (by kernel_rfl) ?_)
    (repeat' (first | (show WL _ _ _ _ _ _ _; first | (refine WL_plain rfl ?_) | (refine WL_nil ?_) | (refine WL_on rfl rfl ?_) | (refine WL_off rfl rfl rfl rfl ?_) | (refine WL_offu rfl rfl rfl rfl ?_) | (refine WL_off' rfl rfl rfl ?_) | ((refine WL_split rfl rfl (fun hc => ?_) (fun hc => ?_)) <;> (rw [hc]; (try simp only [nrB] at hc); (try (exfalso; first | omega | exact hc trivial | exact hc rfl))))) | (show OW _ _ _ _ _ _; refine OW_E ?_) | (show OW _ _ ⟨_, .store .., _, _, _, _⟩ _ _ _; first | (refine OW_store rfl rfl rfl (by repeat (first | exact Upd.here | apply Upd.there)) (by first | (simp; done) | (simp; omega)) ?_) | (refine OW_storeAgg rfl rfl rfl rfl (by repeat (first | exact Upd.here | apply Upd.there)) (by first | (simp [Value.cells]; done) | (simp [Value.cells]; omega)) ?_)) | (show OW _ _ ⟨_, .alloc _, _, _, _, _⟩ _ _ _; first | (refine OW_alloc rfl (fun bk => ?_))) | (show OW _ _ ⟨_, .box .., _, _, _, _⟩ _ _ _; first | (refine OW_box rfl rfl (fun bk => ?_))) | (show WC _ _ _ _ _ _; first | (refine WC_seq ?_) | (refine WC_region ?_) | (refine WC_true rfl ?_) | (refine WC_false rfl ?_) | ((refine WC_cond rfl (fun hc => ?_) (fun hc => ?_)) <;> (try simp only [nrB] at hc) <;> (try (exfalso; first | omega | exact hc trivial | exact hc rfl))) | (refine WC_skip ?_) | (refine WC_ret ?_) | (refine WC_exit ?_) | (refine WC_block ?_)) | (show WQ _ _ _ _; first | (with_reducible refine WQ_then_normal ?_) | (with_reducible refine WQ_code ?_) | (with_reducible refine WQ_then_ret ?_) | (with_reducible refine WQ_block_ret ?_) | (with_reducible refine WQ_then_exit ?_) | (with_reducible refine WQ_block_hit ?_) | (with_reducible refine WQ_block_miss rfl ?_) | (with_reducible refine WQ_block_normal ?_))))
    · have h1 : (usedN S : Int) + (b.length : Int) > (S.quota : Int) := by assumption
      have hc : appendS S s b = (60, S) := by
        unfold appendS; rw [if_neg (by simpa using h0), if_pos (by omega)]
      first | refine WQ_retH rfl rfl ?_ | refine WQ_endH rfl rfl ?_
      rw [hc]
      exact ⟨_, fun w h => six.2 h, _, rfl, rfl, fv, nv, dv, jv, vs, Cs, Cf, Cn, Cd, Cj, rfl, hf, hr, hn, hd, hj⟩
    · have h1 : ¬ (usedN S : Int) + (b.length : Int) > (S.quota : Int) := by assumption
      obtain ⟨e1, e2, e3, e4, e5⟩ := spend_same S
      refine OW_call rfl rfl rfl (spend_1 S p fv nv dv jv _ hG.left) rfl (fun r L' hp => ?_)
      obtain ⟨rfl, rfl⟩ := hp
      (repeat' (first | (show WL _ _ _ _ _ _ _; first | (refine WL_plain rfl ?_) | (refine WL_nil ?_) | (refine WL_on rfl rfl ?_) | (refine WL_off rfl rfl rfl rfl ?_) | (refine WL_offu rfl rfl rfl rfl ?_) | (refine WL_off' rfl rfl rfl ?_) | ((refine WL_split rfl rfl (fun hc => ?_) (fun hc => ?_)) <;> (rw [hc]; (try simp only [nrB] at hc); (try (exfalso; first | omega | exact hc trivial | exact hc rfl))))) | (show OW _ _ _ _ _ _; refine OW_E ?_) | (show OW _ _ ⟨_, .store .., _, _, _, _⟩ _ _ _; first | (refine OW_store rfl rfl rfl (by repeat (first | exact Upd.here | apply Upd.there)) (by first | (simp; done) | (simp; omega)) ?_) | (refine OW_storeAgg rfl rfl rfl rfl (by repeat (first | exact Upd.here | apply Upd.there)) (by first | (simp [Value.cells]; done) | (simp [Value.cells]; omega)) ?_)) | (show OW _ _ ⟨_, .alloc _, _, _, _, _⟩ _ _ _; first | (refine OW_alloc rfl (fun bk => ?_))) | (show OW _ _ ⟨_, .box .., _, _, _, _⟩ _ _ _; first | (refine OW_box rfl rfl (fun bk => ?_))) | (show WC _ _ _ _ _ _; first | (refine WC_seq ?_) | (refine WC_region ?_) | (refine WC_true rfl ?_) | (refine WC_false rfl ?_) | ((refine WC_cond rfl (fun hc => ?_) (fun hc => ?_)) <;> (try simp only [nrB] at hc) <;> (try (exfalso; first | omega | exact hc trivial | exact hc rfl))) | (refine WC_skip ?_) | (refine WC_ret ?_) | (refine WC_exit ?_) | (refine WC_block ?_)) | (show WQ _ _ _ _; first | (with_reducible refine WQ_then_normal ?_) | (with_reducible refine WQ_code ?_) | (with_reducible refine WQ_then_ret ?_) | (with_reducible refine WQ_block_ret ?_) | (with_reducible refine WQ_then_exit ?_) | (with_reducible refine WQ_block_hit ?_) | (with_reducible refine WQ_block_miss rfl ?_) | (with_reducible refine WQ_block_normal ?_))))
      · have h2 : ¬ spendE S = 0 := by assumption
        have hc : appendS S s b = (spendE S, spendS S) := by
          unfold appendS; rw [if_neg (by simpa using h0), if_neg (by omega), if_pos h2]
        first | refine WQ_retH rfl rfl ?_ | refine WQ_endH rfl rfl ?_
        rw [hc]
        exact ⟨_, fun w h => six.2 h, _, rfl, rfl, fv, nv, dv, jv, vs, Cs, Cf, Cn, Cd, Cj, rfl, by rw [e1]; exact hf, by rw [e1]; exact hr, by rw [e2]; exact hn, by rw [e3]; exact hd, by rw [e4]; exact hj⟩
      · have h2 : spendE S = 0 := by omega
        have hpo : openN S s = fileE S.names s := by simp [openN, h0]
        rw [hpo]
        obtain ⟨g, hg, hfe, hlt⟩ := has_get hS.an hhas
        have hef : fileE S.names s < S.files.length := by rw [hfe]; exact hS.inn _ (List.mem_of_getElem? hg)
        have hfi : S.files[fileE S.names s]? = some (fiAt S.files ⟨s, fileE S.names s⟩) := by simp [fiAt, List.getD, List.getElem?_eq_getElem hef]
        have hdl := (hG.dl _ (List.mem_of_getElem? hfi)).1
        obtain ⟨x, Ci, D1, D2, hxi, hxo, hfl, hset⟩ := hr.split hfi
        obtain ⟨xa, xc, rfl⟩ := ow_slc hxo
        rcases hf with ⟨rfl, hf0, _, rfl⟩ | ⟨fb, fcap, frest, rfl, rfl, hfxl, hfrl, hfmc, hfcm⟩
        · omega
        · rw [hfl]
          refine WC_holds' (L' := hdr (spendS S) p (.slice (some ⟨fb, 0, none⟩) S.files.length fcap) nv dv jv :: [(fb, cl (fcl S.files vs ++ frest) 90)] :: Cn :: Cd :: Cj :: D1 :: Ci :: D2 :: L) (fun w h => ?_) ?_
          · simpa [Holds, List.append_assoc] using h
          refine WC_draw [hdr (spendS S) p (.slice (some ⟨fb, 0, none⟩) S.files.length fcap) nv dv jv, [(fb, cl (fcl S.files vs ++ frest) 90)]] [17] mixed ?_
          (refine WR_t 0 ?_; refine WR_t 1 ?_; refine WR_t 2 ?_; refine WR_t 3 ?_; refine WR_t 4 ?_; refine WR_t 5 ?_; refine WR_t 6 ?_; refine WR_t 7 ?_; refine WR_t 8 ?_; refine WR_t 9 ?_)
          (refine WR_take 10 rfl rfl (by kernel_rfl) (by repeat (first | exact PO.body | refine PO.then ?_ | refine PO.block ?_)) (by repeat (first | exact Inc.refl | exact Inc.nil | refine Inc.cons (by repeat (first | exact Take.here | apply Take.there)) ?_ | refine Inc.skip ?_)) (EV_indexAddr0 (j := fileE S.names s) rfl rfl rfl hef) (by rfl) ?_)
          (refine WR_t 11 ?_)
          (refine WR_take 12 rfl rfl (by kernel_rfl) (by repeat (first | exact PO.body | refine PO.then ?_ | refine PO.block ?_)) (by repeat (first | exact Inc.refl | exact Inc.nil | refine Inc.cons (by repeat (first | exact Take.here | apply Take.there)) ?_ | refine Inc.skip ?_)) (EV_loadc (v := .slice xa _ xc) rfl (by repeat (first | assumption | exact Fnd.here | refine Fnd.there ?_)) (by rw [nth_eq]; exact getE_app (fcl_at hfi hxi).1)) (by rfl) ?_)
          (refine WR_t 13 ?_)
          (refine WR_one 14 (by kernel_rfl) rfl rfl ?_)
          refine OW_append rfl rfl hxo (c := b.length) (ys := bsv b) (sl_there (sl_there (sl_there (sl_there (sl_there (sl_there (sl_there (sl_there hv)))))))) (by repeat (first | exact Zip.here _ | apply Zip.there)) (by rfl) bsv_ones (by omega) (by simp only [maxLen]; omega) rfl (fun v' Ci' ho hn1 hn2 => ?_)
          refine ⟨(by repeat (first | exact Inc.refl | exact Inc.nil | refine Inc.cons (by repeat (first | exact Take.here | apply Take.there)) ?_ | refine Inc.skip ?_)), ?_⟩
          (refine WR_take 15 rfl rfl (by kernel_rfl) (by repeat (first | exact PO.body | refine PO.then ?_ | refine PO.block ?_)) (by repeat (first | exact Inc.refl | exact Inc.nil | refine Inc.cons (by repeat (first | exact Take.here | apply Take.there)) ?_ | refine Inc.skip ?_)) (EV_indexAddr0 (j := fileE S.names s) rfl rfl rfl hef) (by rfl) ?_)
          (refine WR_t 16 ?_)
          (refine WR_last 17 (by kernel_rfl) rfl rfl rfl ?_)
          refine OW_storeTo (fcl (S.files.set (fileE S.names s) ⟨(fiAt S.files ⟨s, fileE S.names s⟩).data ++ b, (fiAt S.files ⟨s, fileE S.names s⟩).synced⟩) (vs.set (fileE S.names s) v') ++ frest) rfl rfl (ow_one ho) ?_ (by repeat (first | exact Upd.here | apply Upd.there)) ?_ ?_
          · rw [Nat.add_zero, List.set_append_left _ _ (by rw [hfxl]; omega), fcl_set_v hfi hr.lv]
          · rw [List.length_append, hfxl]; omega
          (refine WR_done (by kernel_rfl) ?_)
          (repeat' (first | (show WL _ _ _ _ _ _ _; first | (refine WL_plain rfl ?_) | (refine WL_nil ?_) | (refine WL_on rfl rfl ?_) | (refine WL_off rfl rfl rfl rfl ?_) | (refine WL_offu rfl rfl rfl rfl ?_) | (refine WL_off' rfl rfl rfl ?_) | ((refine WL_split rfl rfl (fun hc => ?_) (fun hc => ?_)) <;> (rw [hc]; (try simp only [nrB] at hc); (try (exfalso; first | omega | exact hc trivial | exact hc rfl))))) | (show OW _ _ _ _ _ _; refine OW_E ?_) | (show OW _ _ ⟨_, .store .., _, _, _, _⟩ _ _ _; first | (refine OW_store rfl rfl rfl (by repeat (first | exact Upd.here | apply Upd.there)) (by first | (simp; done) | (simp; omega)) ?_) | (refine OW_storeAgg rfl rfl rfl rfl (by repeat (first | exact Upd.here | apply Upd.there)) (by first | (simp [Value.cells]; done) | (simp [Value.cells]; omega)) ?_)) | (show OW _ _ ⟨_, .alloc _, _, _, _, _⟩ _ _ _; first | (refine OW_alloc rfl (fun bk => ?_))) | (show OW _ _ ⟨_, .box .., _, _, _, _⟩ _ _ _; first | (refine OW_box rfl rfl (fun bk => ?_))) | (show WC _ _ _ _ _ _; first | (refine WC_seq ?_) | (refine WC_region ?_) | (refine WC_true rfl ?_) | (refine WC_false rfl ?_) | ((refine WC_cond rfl (fun hc => ?_) (fun hc => ?_)) <;> (try simp only [nrB] at hc) <;> (try (exfalso; first | omega | exact hc trivial | exact hc rfl))) | (refine WC_skip ?_) | (refine WC_ret ?_) | (refine WC_exit ?_) | (refine WC_block ?_)) | (show WQ _ _ _ _; first | (with_reducible refine WQ_then_normal ?_) | (with_reducible refine WQ_code ?_) | (with_reducible refine WQ_then_ret ?_) | (with_reducible refine WQ_block_ret ?_) | (with_reducible refine WQ_then_exit ?_) | (with_reducible refine WQ_block_hit ?_) | (with_reducible refine WQ_block_miss rfl ?_) | (with_reducible refine WQ_block_normal ?_))))
          obtain ⟨Cs', hr', hfl'⟩ := hset ⟨(fiAt S.files ⟨s, fileE S.names s⟩).data ++ b, (fiAt S.files ⟨s, fileE S.names s⟩).synced⟩ v' Ci' (by simp only [List.length_append, bsv_append]; exact ho)
          have hc : appendS S s b = (0, { spendS S with files := S.files.set (fileE S.names s) ⟨(fiAt S.files ⟨s, fileE S.names s⟩).data ++ b, (fiAt S.files ⟨s, fileE S.names s⟩).synced⟩ }) := by
            unfold appendS; rw [if_neg (by simpa using h0), if_neg (by omega), if_neg (by simpa using h2)]
          first | refine WQ_retH rfl rfl ?_ | refine WQ_endH rfl rfl ?_
          rw [hc]
          refine ⟨_, fun w h => ?_, _, rfl, rfl, .slice (some ⟨fb, 0, none⟩) S.files.length fcap, nv, dv, jv, vs.set (fileE S.names s) v', Cs', [(fb, cl (fcl (S.files.set (fileE S.names s) ⟨(fiAt S.files ⟨s, fileE S.names s⟩).data ++ b, (fiAt S.files ⟨s, fileE S.names s⟩).synced⟩) (vs.set (fileE S.names s) v') ++ frest) 90)], Cn, Cd, Cj, rfl, ?_, hr', by simpa [e2] using hn, by simpa [e3] using hd, by simpa [e4] using hj⟩
          · rw [hfl']
            simpa [Holds, List.append_assoc, hdr, hdrO] using h
          · refine .inr ⟨fb, fcap, frest, by simp, rfl, ?_, by simpa using hfrl, by simpa using hfmc, hfcm⟩
            rw [fcl_length (by simp [hr.lv])]
end Go.Proofs.Ytgicjngbaomigaa
