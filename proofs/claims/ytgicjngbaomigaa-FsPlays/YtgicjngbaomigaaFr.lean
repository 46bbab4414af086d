/- Sync and Rename. It proves no statement by itself. No conditions. -/
import Derived.Test.YtgicjngbaomigaaFq
namespace Go.Proofs.Ytgicjngbaomigaa
open Go Go.Vx
variable [W0]
set_option maxRecDepth 4000
set_option linter.all false

theorem good_remove {S : Fsy} {m : Nat} (s : ByteArray) (h : Good S m) (hm : m + 1 ≤ 90000) : Good (removeS S s).2 (m + 1) := by
  have hmono := h.mono (Nat.le_succ m) hm
  unfold removeS
  split
  · exact hmono
  · rename_i h0
    split
    · exact good_spend hmono
    · have h0' : openE S s = 0 := by simpa using h0
      obtain ⟨_, _, hh⟩ := openE_zero h0'
      have hs := good_spend h
      obtain ⟨e1, e2, e3, e4, e5⟩ := spend_same S
      refine ⟨?_, by simp only [e1]; exact hmono.lf, by simp; exact h.lj, hm, hs.q, hs.left, by simp only [e1, e5]; exact h.dl⟩
      simp only [e1, e3]
      exact Rp.snoc (h.rp.mono (Nat.le_refl _) (Nat.le_succ m)) hh ((wn_rm s h.rp.now).mono (Nat.le_refl _) (Nat.le_succ m))

omit [W0] in
def syncS (S : Fsy) (s : ByteArray) : Int × Fsy :=
  if openE S s ≠ 0 then (openE S s, S) else
  if spendE S ≠ 0 then (spendE S, spendS S) else
  (0, { spendS S with files := S.files.set (fileE S.names s) ⟨(fiAt S.files ⟨s, fileE S.names s⟩).data, (fiAt S.files ⟨s, fileE S.names s⟩).data.length⟩ })
theorem good_sync {S : Fsy} {m : Nat} (s : ByteArray) (h : Good S m) : Good (syncS S s).2 m := by
  unfold syncS
  split
  · exact h
  · rename_i h0
    split
    · exact good_spend h
    · have h0' : openE S s = 0 := by simpa using h0
      obtain ⟨_, _, hh⟩ := openE_zero h0'
      have hnow := h.rp.now
      obtain ⟨g, hg, hfe, hlt⟩ := has_get hnow.asc hh
      have hmem : (⟨s, fileE S.names s⟩ : En) ∈ S.names := by rw [hfe]; exact List.mem_of_getElem? hg
      have hef := hnow.inn _ hmem
      have hs := good_spend h
      obtain ⟨e1, e2, e3, e4, e5⟩ := spend_same S
      refine ⟨?_, ?_, ?_, h.m, hs.q, hs.left, ?_⟩
      · simp only [List.length_set, e2, e3, e4]; exact h.rp
      · simp; exact h.lf
      · simp only [e4]; exact h.lj
      · intro f hf
        simp only [e5]
        rcases List.mem_or_eq_of_mem_set hf with hf | hf
        · exact h.dl f hf
        · subst hf
          have := h.dl _ (fi_mem hef)
          exact ⟨this.1, Nat.le_refl _⟩

theorem sync_1 (S : Fsy) (p m : Nat) (s : ByteArray) (C : Chunk) (L : List Chunk) (hA : FsAt S p C) (hG : Good S m) :
    Gv Try.prog 20 [.pointer (some ⟨p, 0, none⟩), .string s].toArray (C :: L)
      (fun r L' => ∃ C', r = .int .i64 (syncS S s).1 ∧ L' = C' :: L ∧ FsAt (syncS S s).2 p C') := by
  obtain ⟨fv, nv, dv, jv, vs, Cs, Cf, Cn, Cd, Cj, rfl, hf, hr, hn, hd, hj⟩ := hA
  refine Gv.holds (L' := hdr S p fv nv dv jv :: Cf :: Cn :: Cd :: Cj :: Cs.flatten :: L) ?_ (fun w h => six.1 h)
  refine Gv.of_body Try.func20 rfl rfl ?_
  obtain ⟨e1, e2, e3, e4, e5⟩ := spend_same S
  (repeat' (first | (show WL _ _ _ _ _ _ _; first | (refine WL_plain rfl ?_) | (refine WL_nil ?_) | (refine WL_on rfl rfl ?_) | (refine WL_off rfl rfl rfl rfl ?_) | (refine WL_offu rfl rfl rfl rfl ?_) | (refine WL_off' rfl rfl rfl ?_) | ((refine WL_split rfl rfl (fun hc => ?_) (fun hc => ?_)) <;> (rw [hc]; (try simp only [nrB] at hc); (try (exfalso; first | omega | exact hc trivial | exact hc rfl))))) | (show OW _ _ _ _ _ _; refine OW_E ?_) | (show OW _ _ ⟨_, .store .., _, _, _, _⟩ _ _ _; first | (refine OW_store rfl rfl rfl (by repeat (first | exact Upd.here | apply Upd.there)) (by first | (simp; done) | (simp; omega)) ?_) | (refine OW_storeAgg rfl rfl rfl rfl (by repeat (first | exact Upd.here | apply Upd.there)) (by first | (simp [Value.cells]; done) | (simp [Value.cells]; omega)) ?_)) | (show OW _ _ ⟨_, .alloc _, _, _, _, _⟩ _ _ _; first | (refine OW_alloc rfl (fun bk => ?_))) | (show OW _ _ ⟨_, .box .., _, _, _, _⟩ _ _ _; first | (refine OW_box rfl rfl (fun bk => ?_))) | (show WC _ _ _ _ _ _; first | (refine WC_seq ?_) | (refine WC_region ?_) | (refine WC_true rfl ?_) | (refine WC_false rfl ?_) | ((refine WC_cond rfl (fun hc => ?_) (fun hc => ?_)) <;> (try simp only [nrB] at hc) <;> (try (exfalso; first | omega | exact hc trivial | exact hc rfl))) | (refine WC_skip ?_) | (refine WC_ret ?_) | (refine WC_exit ?_) | (refine WC_block ?_)) | (show WQ _ _ _ _; first | (with_reducible refine WQ_then_normal ?_) | (with_reducible refine WQ_code ?_) | (with_reducible refine WQ_then_ret ?_) | (with_reducible refine WQ_block_ret ?_) | (with_reducible refine WQ_then_exit ?_) | (with_reducible refine WQ_block_hit ?_) | (with_reducible refine WQ_block_miss rfl ?_) | (with_reducible refine WQ_block_normal ?_))))
  have hS := see_of (p := p) (dv := dv) (jv := jv) (Cd := Cd) (Cj := Cj) (L := L) hG hf hr hn
  refine OW_callP rfl rfl rfl (open_1 S p fv nv dv jv s _ hS.h hS.n hS.an hS.ln) rfl ?_
  (repeat' (first | (show WL _ _ _ _ _ _ _; first | (refine WL_plain rfl ?_) | (refine WL_nil ?_) | (refine WL_on rfl rfl ?_) | (refine WL_off rfl rfl rfl rfl ?_) | (refine WL_offu rfl rfl rfl rfl ?_) | (refine WL_off' rfl rfl rfl ?_) | ((refine WL_split rfl rfl (fun hc => ?_) (fun hc => ?_)) <;> (rw [hc]; (try simp only [nrB] at hc); (try (exfalso; first | omega | exact hc trivial | exact hc rfl))))) | (show OW _ _ _ _ _ _; refine OW_E ?_) | (show OW _ _ ⟨_, .store .., _, _, _, _⟩ _ _ _; first | (refine OW_store rfl rfl rfl (by repeat (first | exact Upd.here | apply Upd.there)) (by first | (simp; done) | (simp; omega)) ?_) | (refine OW_storeAgg rfl rfl rfl rfl (by repeat (first | exact Upd.here | apply Upd.there)) (by first | (simp [Value.cells]; done) | (simp [Value.cells]; omega)) ?_)) | (show OW _ _ ⟨_, .alloc _, _, _, _, _⟩ _ _ _; first | (refine OW_alloc rfl (fun bk => ?_))) | (show OW _ _ ⟨_, .box .., _, _, _, _⟩ _ _ _; first | (refine OW_box rfl rfl (fun bk => ?_))) | (show WC _ _ _ _ _ _; first | (refine WC_seq ?_) | (refine WC_region ?_) | (refine WC_true rfl ?_) | (refine WC_false rfl ?_) | ((refine WC_cond rfl (fun hc => ?_) (fun hc => ?_)) <;> (try simp only [nrB] at hc) <;> (try (exfalso; first | omega | exact hc trivial | exact hc rfl))) | (refine WC_skip ?_) | (refine WC_ret ?_) | (refine WC_exit ?_) | (refine WC_block ?_)) | (show WQ _ _ _ _; first | (with_reducible refine WQ_then_normal ?_) | (with_reducible refine WQ_code ?_) | (with_reducible refine WQ_then_ret ?_) | (with_reducible refine WQ_block_ret ?_) | (with_reducible refine WQ_then_exit ?_) | (with_reducible refine WQ_block_hit ?_) | (with_reducible refine WQ_block_miss rfl ?_) | (with_reducible refine WQ_block_normal ?_))))
  · have h0 : ¬ openE S s = 0 := by assumption
    have hc : syncS S s = (openE S s, S) := by simp [syncS, h0]
    first | refine WQ_retH rfl rfl ?_ | refine WQ_endH rfl rfl ?_
    rw [hc]
    exact ⟨_, fun w h => six.2 h, _, rfl, rfl, fv, nv, dv, jv, vs, Cs, Cf, Cn, Cd, Cj, rfl, hf, hr, hn, hd, hj⟩
  · have h0 : openE S s = 0 := by omega
    obtain ⟨hdead, hok, hhas⟩ := openE_zero h0
    refine OW_call rfl rfl rfl (spend_1 S p fv nv dv jv _ hG.left) rfl (fun r L' hp => ?_)
    obtain ⟨rfl, rfl⟩ := hp
    (repeat' (first | (show WL _ _ _ _ _ _ _; first | (refine WL_plain rfl ?_) | (refine WL_nil ?_) | (refine WL_on rfl rfl ?_) | (refine WL_off rfl rfl rfl rfl ?_) | (refine WL_offu rfl rfl rfl rfl ?_) | (refine WL_off' rfl rfl rfl ?_) | ((refine WL_split rfl rfl (fun hc => ?_) (fun hc => ?_)) <;> (rw [hc]; (try simp only [nrB] at hc); (try (exfalso; first | omega | exact hc trivial | exact hc rfl))))) | (show OW _ _ _ _ _ _; refine OW_E ?_) | (show OW _ _ ⟨_, .store .., _, _, _, _⟩ _ _ _; first | (refine OW_store rfl rfl rfl (by repeat (first | exact Upd.here | apply Upd.there)) (by first | (simp; done) | (simp; omega)) ?_) | (refine OW_storeAgg rfl rfl rfl rfl (by repeat (first | exact Upd.here | apply Upd.there)) (by first | (simp [Value.cells]; done) | (simp [Value.cells]; omega)) ?_)) | (show OW _ _ ⟨_, .alloc _, _, _, _, _⟩ _ _ _; first | (refine OW_alloc rfl (fun bk => ?_))) | (show OW _ _ ⟨_, .box .., _, _, _, _⟩ _ _ _; first | (refine OW_box rfl rfl (fun bk => ?_))) | (show WC _ _ _ _ _ _; first | (refine WC_seq ?_) | (refine WC_region ?_) | (refine WC_true rfl ?_) | (refine WC_false rfl ?_) | ((refine WC_cond rfl (fun hc => ?_) (fun hc => ?_)) <;> (try simp only [nrB] at hc) <;> (try (exfalso; first | omega | exact hc trivial | exact hc rfl))) | (refine WC_skip ?_) | (refine WC_ret ?_) | (refine WC_exit ?_) | (refine WC_block ?_)) | (show WQ _ _ _ _; first | (with_reducible refine WQ_then_normal ?_) | (with_reducible refine WQ_code ?_) | (with_reducible refine WQ_then_ret ?_) | (with_reducible refine WQ_block_ret ?_) | (with_reducible refine WQ_then_exit ?_) | (with_reducible refine WQ_block_hit ?_) | (with_reducible refine WQ_block_miss rfl ?_) | (with_reducible refine WQ_block_normal ?_))))
    · have h2 : ¬ spendE S = 0 := by assumption
      have hc : syncS S s = (spendE S, spendS S) := by simp [syncS, h0, h2]
      first | refine WQ_retH rfl rfl ?_ | refine WQ_endH rfl rfl ?_
      rw [hc]
      exact ⟨_, fun w h => six.2 h, _, rfl, rfl, fv, nv, dv, jv, vs, Cs, Cf, Cn, Cd, Cj, rfl, by rw [e1]; exact hf, by rw [e1]; exact hr, by rw [e2]; exact hn, by rw [e3]; exact hd, by rw [e4]; exact hj⟩
    · have h2 : spendE S = 0 := by omega
      have hpo : openN S s = fileE S.names s := by simp [openN, h0]
      rw [hpo]
      obtain ⟨g, hg, hfe, hlt⟩ := has_get hS.an hhas
      have hef : fileE S.names s < S.files.length := by rw [hfe]; exact hS.inn _ (List.mem_of_getElem? hg)
      have hfi : S.files[fileE S.names s]? = some (fiAt S.files ⟨s, fileE S.names s⟩) := by simp [fiAt, List.getD, List.getElem?_eq_getElem hef]
      obtain ⟨x, Ci, D1, D2, hxi, hxo, hfl, hset⟩ := hr.split hfi
      obtain ⟨xa, xc, rfl⟩ := ow_slc hxo
      rcases hf with ⟨rfl, hf0, _, rfl⟩ | ⟨fb, fcap, frest, rfl, rfl, hfxl, hfrl, hfmc, hfcm⟩
      · omega
      · refine WC_drawAll [16] mixed ?_
        (refine WR_t 0 ?_; refine WR_t 1 ?_; refine WR_t 2 ?_; refine WR_t 3 ?_; refine WR_t 4 ?_; refine WR_t 5 ?_; refine WR_t 6 ?_; refine WR_t 7 ?_; refine WR_t 8 ?_; refine WR_t 9 ?_)
        (refine WR_take 10 rfl rfl (by kernel_rfl) (by repeat (first | exact PO.body | refine PO.then ?_ | refine PO.block ?_)) (by repeat (first | exact Inc.refl | exact Inc.nil | refine Inc.cons (by repeat (first | exact Take.here | apply Take.there)) ?_ | refine Inc.skip ?_)) (EV_indexAddr0 (j := fileE S.names s) rfl rfl rfl hef) (by rfl) ?_)
        (refine WR_t 11 ?_)
        (refine WR_take 12 rfl rfl (by kernel_rfl) (by repeat (first | exact PO.body | refine PO.then ?_ | refine PO.block ?_)) (by repeat (first | exact Inc.refl | exact Inc.nil | refine Inc.cons (by repeat (first | exact Take.here | apply Take.there)) ?_ | refine Inc.skip ?_)) (EV_loadc (v := .slice xa _ xc) rfl (by repeat (first | assumption | exact Fnd.here | refine Fnd.there ?_)) (by rw [nth_eq]; exact getE_app (fcl_at hfi hxi).1)) (by rfl) ?_)
        (refine WR_t 13 ?_)
        (refine WR_take 14 rfl rfl (by kernel_rfl) (by repeat (first | exact PO.body | refine PO.then ?_ | refine PO.block ?_)) (by repeat (first | exact Inc.refl | exact Inc.nil | refine Inc.cons (by repeat (first | exact Take.here | apply Take.there)) ?_ | refine Inc.skip ?_)) (EV_indexAddr0 (j := fileE S.names s) rfl rfl rfl hef) (by rfl) ?_)
        (refine WR_t 15 ?_)
        (refine WR_last 16 (by kernel_rfl) rfl rfl rfl ?_)
        refine OW_storeTo (fcl (S.files.set (fileE S.names s) ⟨(fiAt S.files ⟨s, fileE S.names s⟩).data, (fiAt S.files ⟨s, fileE S.names s⟩).data.length⟩) vs ++ frest) rfl rfl rfl ?_ (by repeat (first | exact Upd.here | apply Upd.there)) ?_ ?_
        · rw [List.set_append_left _ _ (by rw [hfxl]; omega), fcl_set_s hfi hr.lv]
        · rw [List.length_append, hfxl]; omega
        (refine WR_done (by kernel_rfl) ?_)
        (repeat' (first | (show WL _ _ _ _ _ _ _; first | (refine WL_plain rfl ?_) | (refine WL_nil ?_) | (refine WL_on rfl rfl ?_) | (refine WL_off rfl rfl rfl rfl ?_) | (refine WL_offu rfl rfl rfl rfl ?_) | (refine WL_off' rfl rfl rfl ?_) | ((refine WL_split rfl rfl (fun hc => ?_) (fun hc => ?_)) <;> (rw [hc]; (try simp only [nrB] at hc); (try (exfalso; first | omega | exact hc trivial | exact hc rfl))))) | (show OW _ _ _ _ _ _; refine OW_E ?_) | (show OW _ _ ⟨_, .store .., _, _, _, _⟩ _ _ _; first | (refine OW_store rfl rfl rfl (by repeat (first | exact Upd.here | apply Upd.there)) (by first | (simp; done) | (simp; omega)) ?_) | (refine OW_storeAgg rfl rfl rfl rfl (by repeat (first | exact Upd.here | apply Upd.there)) (by first | (simp [Value.cells]; done) | (simp [Value.cells]; omega)) ?_)) | (show OW _ _ ⟨_, .alloc _, _, _, _, _⟩ _ _ _; first | (refine OW_alloc rfl (fun bk => ?_))) | (show OW _ _ ⟨_, .box .., _, _, _, _⟩ _ _ _; first | (refine OW_box rfl rfl (fun bk => ?_))) | (show WC _ _ _ _ _ _; first | (refine WC_seq ?_) | (refine WC_region ?_) | (refine WC_true rfl ?_) | (refine WC_false rfl ?_) | ((refine WC_cond rfl (fun hc => ?_) (fun hc => ?_)) <;> (try simp only [nrB] at hc) <;> (try (exfalso; first | omega | exact hc trivial | exact hc rfl))) | (refine WC_skip ?_) | (refine WC_ret ?_) | (refine WC_exit ?_) | (refine WC_block ?_)) | (show WQ _ _ _ _; first | (with_reducible refine WQ_then_normal ?_) | (with_reducible refine WQ_code ?_) | (with_reducible refine WQ_then_ret ?_) | (with_reducible refine WQ_block_ret ?_) | (with_reducible refine WQ_then_exit ?_) | (with_reducible refine WQ_block_hit ?_) | (with_reducible refine WQ_block_miss rfl ?_) | (with_reducible refine WQ_block_normal ?_))))
        obtain ⟨Cs', hr', hfl'⟩ := hset ⟨(fiAt S.files ⟨s, fileE S.names s⟩).data, (fiAt S.files ⟨s, fileE S.names s⟩).data.length⟩ (.slice xa _ xc) Ci hxo
        rw [set_same hxi] at hr'
        have hc : syncS S s = (0, { spendS S with files := S.files.set (fileE S.names s) ⟨(fiAt S.files ⟨s, fileE S.names s⟩).data, (fiAt S.files ⟨s, fileE S.names s⟩).data.length⟩ }) := by
          simp [syncS, h0, h2]
        first | refine WQ_retH rfl rfl ?_ | refine WQ_endH rfl rfl ?_
        rw [hc]
        refine ⟨_, fun w h => ?_, _, rfl, rfl, .slice (some ⟨fb, 0, none⟩) S.files.length fcap, nv, dv, jv, vs, Cs', [(fb, cl (fcl (S.files.set (fileE S.names s) ⟨(fiAt S.files ⟨s, fileE S.names s⟩).data, (fiAt S.files ⟨s, fileE S.names s⟩).data.length⟩) vs ++ frest) 90)], Cn, Cd, Cj, rfl, ?_, hr', by simpa [e2] using hn, by simpa [e3] using hd, by simpa [e4] using hj⟩
        · rw [hfl', ← hfl]
          simpa [Holds, List.append_assoc, hdr, hdrO] using h
        · refine .inr ⟨fb, fcap, frest, by simp, rfl, ?_, by simpa using hfrl, by simpa using hfmc, hfcm⟩
          rw [fcl_length (by simp [hr.lv])]

omit [W0] in
def renameS (S : Fsy) (a b : ByteArray) : Int × Fsy :=
  if openE S a ≠ 50 ∧ nameOk b = false then (1, S) else
  if openE S a ≠ 0 then (openE S a, S) else
  if spendE S ≠ 0 then (spendE S, spendS S) else
  if a = b then (0, spendS S) else
  (0, { spendS S with names := afterE S.names (.rn a b), journal := S.journal ++ [.rn a b] })
theorem good_rename {S : Fsy} {m : Nat} (a b : ByteArray) (h : Good S m) (hm : m + 1 ≤ 90000) : Good (renameS S a b).2 (m + 1) := by
  have hmono := h.mono (Nat.le_succ m) hm
  unfold renameS
  split
  · exact hmono
  split
  · exact hmono
  · rename_i _ h0
    split
    · exact good_spend hmono
    split
    · exact good_spend hmono
    · have h0' : openE S a = 0 := by simpa using h0
      obtain ⟨_, _, hh⟩ := openE_zero h0'
      have hs := good_spend h
      obtain ⟨e1, e2, e3, e4, e5⟩ := spend_same S
      refine ⟨?_, by simp only [e1]; exact hmono.lf, by simp; exact h.lj, hm, hs.q, hs.left, by simp only [e1, e5]; exact h.dl⟩
      simp only [e1, e3]
      exact Rp.snoc (h.rp.mono (Nat.le_refl _) (Nat.le_succ m)) hh (wn_rn b h.rp.now hh)

theorem rename_1 (S : Fsy) (p m : Nat) (a b : ByteArray) (C : Chunk) (L : List Chunk) (hA : FsAt S p C) (hG : Good S m) :
    Gv Try.prog 21 [.pointer (some ⟨p, 0, none⟩), .string a, .string b].toArray (C :: L)
      (fun r L' => ∃ C', r = .int .i64 (renameS S a b).1 ∧ L' = C' :: L ∧ FsAt (renameS S a b).2 p C') := by
  obtain ⟨fv, nv, dv, jv, vs, Cs, Cf, Cn, Cd, Cj, rfl, hf, hr, hn, hd, hj⟩ := hA
  refine Gv.holds (L' := hdr S p fv nv dv jv :: Cf :: Cn :: Cd :: Cj :: Cs.flatten :: L) ?_ (fun w h => six.1 h)
  refine Gv.of_body Try.func21 rfl rfl ?_
  obtain ⟨e1, e2, e3, e4, e5⟩ := spend_same S
  (repeat' (first | (show WL _ _ _ _ _ _ _; first | (refine WL_plain rfl ?_) | (refine WL_nil ?_) | (refine WL_on rfl rfl ?_) | (refine WL_off rfl rfl rfl rfl ?_) | (refine WL_offu rfl rfl rfl rfl ?_) | (refine WL_off' rfl rfl rfl ?_) | ((refine WL_split rfl rfl (fun hc => ?_) (fun hc => ?_)) <;> (rw [hc]; (try simp only [nrB] at hc); (try (exfalso; first | omega | exact hc trivial | exact hc rfl))))) | (show OW _ _ _ _ _ _; refine OW_E ?_) | (show OW _ _ ⟨_, .store .., _, _, _, _⟩ _ _ _; first | (refine OW_store rfl rfl rfl (by repeat (first | exact Upd.here | apply Upd.there)) (by first | (simp; done) | (simp; omega)) ?_) | (refine OW_storeAgg rfl rfl rfl rfl (by repeat (first | exact Upd.here | apply Upd.there)) (by first | (simp [Value.cells]; done) | (simp [Value.cells]; omega)) ?_)) | (show OW _ _ ⟨_, .alloc _, _, _, _, _⟩ _ _ _; first | (refine OW_alloc rfl (fun bk => ?_))) | (show OW _ _ ⟨_, .box .., _, _, _, _⟩ _ _ _; first | (refine OW_box rfl rfl (fun bk => ?_))) | (show WC _ _ _ _ _ _; first | (refine WC_seq ?_) | (refine WC_region ?_) | (refine WC_true rfl ?_) | (refine WC_false rfl ?_) | ((refine WC_cond rfl (fun hc => ?_) (fun hc => ?_)) <;> (try simp only [nrB] at hc) <;> (try (exfalso; first | omega | exact hc trivial | exact hc rfl))) | (refine WC_skip ?_) | (refine WC_ret ?_) | (refine WC_exit ?_) | (refine WC_block ?_)) | (show WQ _ _ _ _; first | (with_reducible refine WQ_then_normal ?_) | (with_reducible refine WQ_code ?_) | (with_reducible refine WQ_then_ret ?_) | (with_reducible refine WQ_block_ret ?_) | (with_reducible refine WQ_then_exit ?_) | (with_reducible refine WQ_block_hit ?_) | (with_reducible refine WQ_block_miss rfl ?_) | (with_reducible refine WQ_block_normal ?_))))
  have hS := see_of (p := p) (dv := dv) (jv := jv) (Cd := Cd) (Cj := Cj) (L := L) hG hf hr hn
  refine OW_callP rfl rfl rfl (open_1 S p fv nv dv jv a _ hS.h hS.n hS.an hS.ln) rfl ?_
  cases hnb : nameOk b
  all_goals ((repeat' (first | (show WL _ _ _ _ _ _ _; first | (refine WL_plain rfl ?_) | (refine WL_nil ?_) | (refine WL_on rfl rfl ?_) | (refine WL_off rfl rfl rfl rfl ?_) | (refine WL_offu rfl rfl rfl rfl ?_) | (refine WL_off' rfl rfl rfl ?_) | ((refine WL_split rfl rfl (fun hc => ?_) (fun hc => ?_)) <;> (rw [hc]; (try simp only [nrB] at hc); (try (exfalso; first | omega | exact hc trivial | exact hc rfl))))) | (show OW _ _ _ _ _ _; refine OW_E ?_) | (show OW _ _ ⟨_, .store .., _, _, _, _⟩ _ _ _; first | (refine OW_store rfl rfl rfl (by repeat (first | exact Upd.here | apply Upd.there)) (by first | (simp; done) | (simp; omega)) ?_) | (refine OW_storeAgg rfl rfl rfl rfl (by repeat (first | exact Upd.here | apply Upd.there)) (by first | (simp [Value.cells]; done) | (simp [Value.cells]; omega)) ?_)) | (show OW _ _ ⟨_, .alloc _, _, _, _, _⟩ _ _ _; first | (refine OW_alloc rfl (fun bk => ?_))) | (show OW _ _ ⟨_, .box .., _, _, _, _⟩ _ _ _; first | (refine OW_box rfl rfl (fun bk => ?_))) | (show WC _ _ _ _ _ _; first | (refine WC_seq ?_) | (refine WC_region ?_) | (refine WC_true rfl ?_) | (refine WC_false rfl ?_) | ((refine WC_cond rfl (fun hc => ?_) (fun hc => ?_)) <;> (try simp only [nrB] at hc) <;> (try (exfalso; first | omega | exact hc trivial | exact hc rfl))) | (refine WC_skip ?_) | (refine WC_ret ?_) | (refine WC_exit ?_) | (refine WC_block ?_)) | (show WQ _ _ _ _; first | (with_reducible refine WQ_then_normal ?_) | (with_reducible refine WQ_code ?_) | (with_reducible refine WQ_then_ret ?_) | (with_reducible refine WQ_block_ret ?_) | (with_reducible refine WQ_then_exit ?_) | (with_reducible refine WQ_block_hit ?_) | (with_reducible refine WQ_block_miss rfl ?_) | (with_reducible refine WQ_block_normal ?_)))))
  all_goals (try (refine OW_callP rfl rfl rfl (valid_1 b _) rfl ?_; rw [hnb]; ((repeat' (first | (show WL _ _ _ _ _ _ _; first | (refine WL_plain rfl ?_) | (refine WL_nil ?_) | (refine WL_on rfl rfl ?_) | (refine WL_off rfl rfl rfl rfl ?_) | (refine WL_offu rfl rfl rfl rfl ?_) | (refine WL_off' rfl rfl rfl ?_) | ((refine WL_split rfl rfl (fun hc => ?_) (fun hc => ?_)) <;> (rw [hc]; (try simp only [nrB] at hc); (try (exfalso; first | omega | exact hc trivial | exact hc rfl))))) | (show OW _ _ _ _ _ _; refine OW_E ?_) | (show OW _ _ ⟨_, .store .., _, _, _, _⟩ _ _ _; first | (refine OW_store rfl rfl rfl (by repeat (first | exact Upd.here | apply Upd.there)) (by first | (simp; done) | (simp; omega)) ?_) | (refine OW_storeAgg rfl rfl rfl rfl (by repeat (first | exact Upd.here | apply Upd.there)) (by first | (simp [Value.cells]; done) | (simp [Value.cells]; omega)) ?_)) | (show OW _ _ ⟨_, .alloc _, _, _, _, _⟩ _ _ _; first | (refine OW_alloc rfl (fun bk => ?_))) | (show OW _ _ ⟨_, .box .., _, _, _, _⟩ _ _ _; first | (refine OW_box rfl rfl (fun bk => ?_))) | (show WC _ _ _ _ _ _; first | (refine WC_seq ?_) | (refine WC_region ?_) | (refine WC_true rfl ?_) | (refine WC_false rfl ?_) | ((refine WC_cond rfl (fun hc => ?_) (fun hc => ?_)) <;> (try simp only [nrB] at hc) <;> (try (exfalso; first | omega | exact hc trivial | exact hc rfl))) | (refine WC_skip ?_) | (refine WC_ret ?_) | (refine WC_exit ?_) | (refine WC_block ?_)) | (show WQ _ _ _ _; first | (with_reducible refine WQ_then_normal ?_) | (with_reducible refine WQ_code ?_) | (with_reducible refine WQ_then_ret ?_) | (with_reducible refine WQ_block_ret ?_) | (with_reducible refine WQ_then_exit ?_) | (with_reducible refine WQ_block_hit ?_) | (with_reducible refine WQ_block_miss rfl ?_) | (with_reducible refine WQ_block_normal ?_)))))))
  · have h0 : ¬ openE S a = 50 := by assumption
    have hc : renameS S a b = (1, S) := by simp [renameS, h0, hnb]
    first | refine WQ_retH rfl rfl ?_ | refine WQ_endH rfl rfl ?_
    rw [hc]
    exact ⟨_, fun w h => six.2 h, _, rfl, rfl, fv, nv, dv, jv, vs, Cs, Cf, Cn, Cd, Cj, rfl, hf, hr, hn, hd, hj⟩
  · have h0 : openE S a = 50 := by assumption
    have hc : renameS S a b = (openE S a, S) := by simp [renameS, h0]
    first | refine WQ_retH rfl rfl ?_ | refine WQ_endH rfl rfl ?_
    rw [hc]
    exact ⟨_, fun w h => six.2 h, _, rfl, rfl, fv, nv, dv, jv, vs, Cs, Cf, Cn, Cd, Cj, rfl, hf, hr, hn, hd, hj⟩
  · have h0 : ¬ openE S a = 0 := by assumption
    have hc : renameS S a b = (openE S a, S) := by simp [renameS, h0, hnb]
    first | refine WQ_retH rfl rfl ?_ | refine WQ_endH rfl rfl ?_
    rw [hc]
    exact ⟨_, fun w h => six.2 h, _, rfl, rfl, fv, nv, dv, jv, vs, Cs, Cf, Cn, Cd, Cj, rfl, hf, hr, hn, hd, hj⟩
  · have h0 : openE S a = 0 := by assumption
    obtain ⟨hdead, hok, hhas⟩ := openE_zero h0
    refine OW_call rfl rfl rfl (spend_1 S p fv nv dv jv _ hG.left) rfl (fun r L' hp => ?_)
    obtain ⟨rfl, rfl⟩ := hp
    (repeat' (first | (show WL _ _ _ _ _ _ _; first | (refine WL_plain rfl ?_) | (refine WL_nil ?_) | (refine WL_on rfl rfl ?_) | (refine WL_off rfl rfl rfl rfl ?_) | (refine WL_offu rfl rfl rfl rfl ?_) | (refine WL_off' rfl rfl rfl ?_) | ((refine WL_split rfl rfl (fun hc => ?_) (fun hc => ?_)) <;> (rw [hc]; (try simp only [nrB] at hc); (try (exfalso; first | omega | exact hc trivial | exact hc rfl))))) | (show OW _ _ _ _ _ _; refine OW_E ?_) | (show OW _ _ ⟨_, .store .., _, _, _, _⟩ _ _ _; first | (refine OW_store rfl rfl rfl (by repeat (first | exact Upd.here | apply Upd.there)) (by first | (simp; done) | (simp; omega)) ?_) | (refine OW_storeAgg rfl rfl rfl rfl (by repeat (first | exact Upd.here | apply Upd.there)) (by first | (simp [Value.cells]; done) | (simp [Value.cells]; omega)) ?_)) | (show OW _ _ ⟨_, .alloc _, _, _, _, _⟩ _ _ _; first | (refine OW_alloc rfl (fun bk => ?_))) | (show OW _ _ ⟨_, .box .., _, _, _, _⟩ _ _ _; first | (refine OW_box rfl rfl (fun bk => ?_))) | (show WC _ _ _ _ _ _; first | (refine WC_seq ?_) | (refine WC_region ?_) | (refine WC_true rfl ?_) | (refine WC_false rfl ?_) | ((refine WC_cond rfl (fun hc => ?_) (fun hc => ?_)) <;> (try simp only [nrB] at hc) <;> (try (exfalso; first | omega | exact hc trivial | exact hc rfl))) | (refine WC_skip ?_) | (refine WC_ret ?_) | (refine WC_exit ?_) | (refine WC_block ?_)) | (show WQ _ _ _ _; first | (with_reducible refine WQ_then_normal ?_) | (with_reducible refine WQ_code ?_) | (with_reducible refine WQ_then_ret ?_) | (with_reducible refine WQ_block_ret ?_) | (with_reducible refine WQ_then_exit ?_) | (with_reducible refine WQ_block_hit ?_) | (with_reducible refine WQ_block_miss rfl ?_) | (with_reducible refine WQ_block_normal ?_))))
    · have h2 : ¬ spendE S = 0 := by assumption
      have hc : renameS S a b = (spendE S, spendS S) := by simp [renameS, h0, h2, hnb]
      first | refine WQ_retH rfl rfl ?_ | refine WQ_endH rfl rfl ?_
      rw [hc]
      exact ⟨_, fun w h => six.2 h, _, rfl, rfl, fv, nv, dv, jv, vs, Cs, Cf, Cn, Cd, Cj, rfl, by rw [e1]; exact hf, by rw [e1]; exact hr, by rw [e2]; exact hn, by rw [e3]; exact hd, by rw [e4]; exact hj⟩
    · have h2 : spendE S = 0 := by omega
      have hab : ¬ a = b := by assumption
      have hc : renameS S a b = (0, { spendS S with names := afterE S.names (.rn a b), journal := S.journal ++ [.rn a b] }) := by simp [renameS, h0, h2, hnb, hab]
      have hsz := nameOk_size hok
      have hsz2 := nameOk_size hnb
      have hnow := hG.rp.now
      have hlj := hG.lj
      have hgm := hG.m
      refine OW_callP rfl rfl rfl (clone_a a _ (by omega)) rfl ?_
      (repeat' (first | (show WL _ _ _ _ _ _ _; first | (refine WL_plain rfl ?_) | (refine WL_nil ?_) | (refine WL_on rfl rfl ?_) | (refine WL_off rfl rfl rfl rfl ?_) | (refine WL_offu rfl rfl rfl rfl ?_) | (refine WL_off' rfl rfl rfl ?_) | ((refine WL_split rfl rfl (fun hc => ?_) (fun hc => ?_)) <;> (rw [hc]; (try simp only [nrB] at hc); (try (exfalso; first | omega | exact hc trivial | exact hc rfl))))) | (show OW _ _ _ _ _ _; refine OW_E ?_) | (show OW _ _ ⟨_, .store .., _, _, _, _⟩ _ _ _; first | (refine OW_store rfl rfl rfl (by repeat (first | exact Upd.here | apply Upd.there)) (by first | (simp; done) | (simp; omega)) ?_) | (refine OW_storeAgg rfl rfl rfl rfl (by repeat (first | exact Upd.here | apply Upd.there)) (by first | (simp [Value.cells]; done) | (simp [Value.cells]; omega)) ?_)) | (show OW _ _ ⟨_, .alloc _, _, _, _, _⟩ _ _ _; first | (refine OW_alloc rfl (fun bk => ?_))) | (show OW _ _ ⟨_, .box .., _, _, _, _⟩ _ _ _; first | (refine OW_box rfl rfl (fun bk => ?_))) | (show WC _ _ _ _ _ _; first | (refine WC_seq ?_) | (refine WC_region ?_) | (refine WC_true rfl ?_) | (refine WC_false rfl ?_) | ((refine WC_cond rfl (fun hc => ?_) (fun hc => ?_)) <;> (try simp only [nrB] at hc) <;> (try (exfalso; first | omega | exact hc trivial | exact hc rfl))) | (refine WC_skip ?_) | (refine WC_ret ?_) | (refine WC_exit ?_) | (refine WC_block ?_)) | (show WQ _ _ _ _; first | (with_reducible refine WQ_then_normal ?_) | (with_reducible refine WQ_code ?_) | (with_reducible refine WQ_then_ret ?_) | (with_reducible refine WQ_block_ret ?_) | (with_reducible refine WQ_then_exit ?_) | (with_reducible refine WQ_block_hit ?_) | (with_reducible refine WQ_block_miss rfl ?_) | (with_reducible refine WQ_block_normal ?_))))
      refine OW_callP rfl rfl rfl (clone_a b _ (by omega)) rfl ?_
      (repeat' (first | (show WL _ _ _ _ _ _ _; first | (refine WL_plain rfl ?_) | (refine WL_nil ?_) | (refine WL_on rfl rfl ?_) | (refine WL_off rfl rfl rfl rfl ?_) | (refine WL_offu rfl rfl rfl rfl ?_) | (refine WL_off' rfl rfl rfl ?_) | ((refine WL_split rfl rfl (fun hc => ?_) (fun hc => ?_)) <;> (rw [hc]; (try simp only [nrB] at hc); (try (exfalso; first | omega | exact hc trivial | exact hc rfl))))) | (show OW _ _ _ _ _ _; refine OW_E ?_) | (show OW _ _ ⟨_, .store .., _, _, _, _⟩ _ _ _; first | (refine OW_store rfl rfl rfl (by repeat (first | exact Upd.here | apply Upd.there)) (by first | (simp; done) | (simp; omega)) ?_) | (refine OW_storeAgg rfl rfl rfl rfl (by repeat (first | exact Upd.here | apply Upd.there)) (by first | (simp [Value.cells]; done) | (simp [Value.cells]; omega)) ?_)) | (show OW _ _ ⟨_, .alloc _, _, _, _, _⟩ _ _ _; first | (refine OW_alloc rfl (fun bk => ?_))) | (show OW _ _ ⟨_, .box .., _, _, _, _⟩ _ _ _; first | (refine OW_box rfl rfl (fun bk => ?_))) | (show WC _ _ _ _ _ _; first | (refine WC_seq ?_) | (refine WC_region ?_) | (refine WC_true rfl ?_) | (refine WC_false rfl ?_) | ((refine WC_cond rfl (fun hc => ?_) (fun hc => ?_)) <;> (try simp only [nrB] at hc) <;> (try (exfalso; first | omega | exact hc trivial | exact hc rfl))) | (refine WC_skip ?_) | (refine WC_ret ?_) | (refine WC_exit ?_) | (refine WC_block ?_)) | (show WQ _ _ _ _; first | (with_reducible refine WQ_then_normal ?_) | (with_reducible refine WQ_code ?_) | (with_reducible refine WQ_then_ret ?_) | (with_reducible refine WQ_block_ret ?_) | (with_reducible refine WQ_then_exit ?_) | (with_reducible refine WQ_block_hit ?_) | (with_reducible refine WQ_block_miss rfl ?_) | (with_reducible refine WQ_block_normal ?_))))
      refine OW_call rfl rfl rfl (Gv.holds (note_1 (spendS S) p fv nv dv jv (.rn a b) Cn Cj (Cf :: Cd :: Cs.flatten :: L) (by rw [e2]; exact hn) (by rw [e4]; exact hj) (by rw [e2]; exact hnow.asc) (by rw [e2]; have := hnow.len; omega) (by rw [e4]; omega) (by rw [e2]; exact hhas)) (fun w h => ((by repeat (first | exact Inc.refl | exact Inc.nil | refine Inc.cons (by repeat (first | exact Take.here | apply Take.there)) ?_ | refine Inc.skip ?_)) : Inc _ _).holds h)) rfl (fun r L' hp => ?_)
      obtain ⟨nv', jv', Cn', Cj', rfl, rfl, hn', hj'⟩ := hp
      (repeat' (first | (show WL _ _ _ _ _ _ _; first | (refine WL_plain rfl ?_) | (refine WL_nil ?_) | (refine WL_on rfl rfl ?_) | (refine WL_off rfl rfl rfl rfl ?_) | (refine WL_offu rfl rfl rfl rfl ?_) | (refine WL_off' rfl rfl rfl ?_) | ((refine WL_split rfl rfl (fun hc => ?_) (fun hc => ?_)) <;> (rw [hc]; (try simp only [nrB] at hc); (try (exfalso; first | omega | exact hc trivial | exact hc rfl))))) | (show OW _ _ _ _ _ _; refine OW_E ?_) | (show OW _ _ ⟨_, .store .., _, _, _, _⟩ _ _ _; first | (refine OW_store rfl rfl rfl (by repeat (first | exact Upd.here | apply Upd.there)) (by first | (simp; done) | (simp; omega)) ?_) | (refine OW_storeAgg rfl rfl rfl rfl (by repeat (first | exact Upd.here | apply Upd.there)) (by first | (simp [Value.cells]; done) | (simp [Value.cells]; omega)) ?_)) | (show OW _ _ ⟨_, .alloc _, _, _, _, _⟩ _ _ _; first | (refine OW_alloc rfl (fun bk => ?_))) | (show OW _ _ ⟨_, .box .., _, _, _, _⟩ _ _ _; first | (refine OW_box rfl rfl (fun bk => ?_))) | (show WC _ _ _ _ _ _; first | (refine WC_seq ?_) | (refine WC_region ?_) | (refine WC_true rfl ?_) | (refine WC_false rfl ?_) | ((refine WC_cond rfl (fun hc => ?_) (fun hc => ?_)) <;> (try simp only [nrB] at hc) <;> (try (exfalso; first | omega | exact hc trivial | exact hc rfl))) | (refine WC_skip ?_) | (refine WC_ret ?_) | (refine WC_exit ?_) | (refine WC_block ?_)) | (show WQ _ _ _ _; first | (with_reducible refine WQ_then_normal ?_) | (with_reducible refine WQ_code ?_) | (with_reducible refine WQ_then_ret ?_) | (with_reducible refine WQ_block_ret ?_) | (with_reducible refine WQ_then_exit ?_) | (with_reducible refine WQ_block_hit ?_) | (with_reducible refine WQ_block_miss rfl ?_) | (with_reducible refine WQ_block_normal ?_))))
      first | refine WQ_retH rfl rfl ?_ | refine WQ_endH rfl rfl ?_
      rw [hc]
      exact ⟨_, fun w h => six.2 (((by repeat (first | exact Inc.refl | exact Inc.nil | refine Inc.cons (by repeat (first | exact Take.here | apply Take.there)) ?_ | refine Inc.skip ?_)) : Inc (hdr _ p fv nv' dv jv' :: Cf :: Cn' :: Cd :: Cj' :: Cs.flatten :: L) _).holds h), _, rfl, rfl, fv, nv', dv, jv', vs, Cs, Cf, Cn', Cd, Cj', rfl, by simpa [e1] using hf, by simpa [e1] using hr, by simpa [e2] using hn', by simpa [e3] using hd, by simpa [e4] using hj'⟩
    · have h2 : spendE S = 0 := by omega
      have hab : a = b := by assumption
      have hc : renameS S a b = (0, spendS S) := by simp [renameS, h0, h2, hnb, hab]; intro hx; rw [← hab, h0] at hx; exact absurd rfl hx
      first | refine WQ_retH rfl rfl ?_ | refine WQ_endH rfl rfl ?_
      rw [hc]
      exact ⟨_, fun w h => six.2 h, _, rfl, rfl, fv, nv, dv, jv, vs, Cs, Cf, Cn, Cd, Cj, rfl, by rw [e1]; exact hf, by rw [e1]; exact hr, by rw [e2]; exact hn, by rw [e3]; exact hd, by rw [e4]; exact hj⟩
  · have h0 : openE S a = 50 := by assumption
    have hc : renameS S a b = (openE S a, S) := by simp [renameS, h0]
    first | refine WQ_retH rfl rfl ?_ | refine WQ_endH rfl rfl ?_
    rw [hc]
    exact ⟨_, fun w h => six.2 h, _, rfl, rfl, fv, nv, dv, jv, vs, Cs, Cf, Cn, Cd, Cj, rfl, hf, hr, hn, hd, hj⟩
end Go.Proofs.Ytgicjngbaomigaa
