/- What writes: Create, Append, Sync, Rename, Remove, SyncNames, Fuse, New. It proves no statement by itself. No conditions. -/
import Derived.Test.YtgicjngbaomigaaFp
namespace Go.Proofs.Ytgicjngbaomigaa
open Go Go.Vx
variable [W0]
set_option maxRecDepth 4000
set_option linter.all false

theorem see_of {S : Fsy} {p m : Nat} {fv nv dv jv : Value} {vs : List Value} {Cs : List Chunk} {Cf Cn Cd Cj : Chunk} {L : List Chunk} (hG : Good S m)
    (hf : Ow 90 2 fv S.files.length (fcl S.files vs) Cf) (hr : FR S.files vs Cs) (hn : Ow 99 2 nv S.names.length (ents S.names) Cn) :
    See (hdr S p fv nv dv jv :: Cf :: Cn :: Cd :: Cj :: Cs.flatten :: L) S p fv nv dv jv vs := by
  have hw := hG.rp.now
  refine ⟨Fnd.here, ?_, nsl_there (nsl_there (nsl_of hn)), hr.lv, fun i f hi => ?_, hw.asc, by have := hw.len; have := hG.m; omega, hw.inn⟩
  · rcases hf with ⟨rfl, h0, h1, rfl⟩ | ⟨b, cap, rest, rfl, rfl, hxl, hrl, hmc, hcm⟩
    · exact .inl ⟨rfl, List.eq_nil_of_length_eq_zero h0⟩
    · exact .inr ⟨b, cap, rest, rfl, hmc, Fnd.here.there⟩
  · obtain ⟨v, C, h1, h2, h3⟩ := hr.at_ i f hi
    refine ⟨v, h1, ?_, ow_one h3⟩
    have h4 := ow_sl (L := []) h3
    rcases h4 with h | ⟨a, cap, e1, h5, h6⟩
    · exact .inl h
    · refine .inr ⟨a, cap, e1, ?_, h6⟩
      rcases h5 with h | ⟨b, off, c, T, fr, e2, h7, h8⟩
      · exact .inl h
      · refine .inr ⟨b, off, c, T, fr, e2, ?_, h8⟩
        have hm : (b, Obj.cells c T fr) ∈ C := by simpa [Fnd] using h7
        refine Fnd.there (Fnd.there (Fnd.there (Fnd.there (Fnd.there (Fnd.mem ?_)))))
        exact List.mem_flatten.2 ⟨C, List.mem_of_getElem? h2, hm⟩

theorem GvP.of {f : FuncId} {args : Array Value} {L L' : List Chunk} {v : Value} (h : GvP Try.prog f args L' v) (h1 : Inc L' L) (h2 : Inc L L') : GvP Try.prog f args L v :=
  ⟨fun w hw => (h.out w (h1.holds hw)).mono fun _ _ he => by
    obtain ⟨v', L'', e1, ⟨e2, e3⟩, hw'⟩ := he
    subst e2 e3
    exact ⟨v', L, e1, ⟨rfl, rfl⟩, h2.holds hw'⟩⟩

omit [W0] in
def createS (S : Fsy) (s : ByteArray) : Int × Fsy :=
  if openE S s = 0 then (64, S) else if openE S s ≠ 61 then (openE S s, S) else
  if spendE S ≠ 0 then (spendE S, spendS S) else
  (0, { spendS S with files := S.files ++ [⟨[], 0⟩], names := afterE S.names (.cr s S.files.length), journal := S.journal ++ [.cr s S.files.length] })

theorem openE_none {S : Fsy} {s : ByteArray} (h : openE S s = 61) : S.dead = false ∧ nameOk s = true ∧ has S.names s = false := by
  unfold openE at h
  cases h1 : S.dead <;> cases h2 : nameOk s <;> cases h3 : has S.names s <;> simp [h1, h2, h3] at h ⊢
theorem nameOk_size {s : ByteArray} (h : nameOk s = true) : 1 ≤ s.size ∧ s.size ≤ 200 := by
  simp [nameOk] at h; exact ⟨h.1.1, h.1.2⟩
theorem spend_same (S : Fsy) : (spendS S).files = S.files ∧ (spendS S).names = S.names ∧ (spendS S).durable = S.durable ∧ (spendS S).journal = S.journal ∧ (spendS S).quota = S.quota := by
  unfold spendS; (repeat' split) <;> exact ⟨rfl, rfl, rfl, rfl, rfl⟩

theorem create_1 (S : Fsy) (p m : Nat) (s : ByteArray) (C : Chunk) (L : List Chunk) (hA : FsAt S p C) (hG : Good S m) :
    Gv Try.prog 13 [.pointer (some ⟨p, 0, none⟩), .string s].toArray (C :: L)
      (fun r L' => ∃ C', r = .int .i64 (createS S s).1 ∧ L' = C' :: L ∧ FsAt (createS S s).2 p C') := by
  obtain ⟨fv, nv, dv, jv, vs, Cs, Cf, Cn, Cd, Cj, rfl, hf, hr, hn, hd, hj⟩ := hA
  refine Gv.holds (L' := hdr S p fv nv dv jv :: Cf :: Cn :: Cd :: Cj :: Cs.flatten :: L) ?_ (fun w h => six.1 h)
  refine Gv.of_body Try.func13 rfl rfl ?_
  (repeat' (first | (show WL _ _ _ _ _ _ _; first | (refine WL_plain rfl ?_) | (refine WL_nil ?_) | (refine WL_on rfl rfl ?_) | (refine WL_off rfl rfl rfl rfl ?_) | (refine WL_offu rfl rfl rfl rfl ?_) | (refine WL_off' rfl rfl rfl ?_) | ((refine WL_split rfl rfl (fun hc => ?_) (fun hc => ?_)) <;> (rw [hc]; (try simp only [nrB] at hc); (try (exfalso; first | omega | exact hc trivial | exact hc rfl))))) | (show OW _ _ _ _ _ _; refine OW_E ?_) | (show OW _ _ ⟨_, .store .., _, _, _, _⟩ _ _ _; first | (refine OW_store rfl rfl rfl (by repeat (first | exact Upd.here | apply Upd.there)) (by first | (simp; done) | (simp; omega)) ?_) | (refine OW_storeAgg rfl rfl rfl rfl (by repeat (first | exact Upd.here | apply Upd.there)) (by first | (simp [Value.cells]; done) | (simp [Value.cells]; omega)) ?_)) | (show OW _ _ ⟨_, .alloc _, _, _, _, _⟩ _ _ _; first | (refine OW_alloc rfl (fun bk => ?_))) | (show OW _ _ ⟨_, .box .., _, _, _, _⟩ _ _ _; first | (refine OW_box rfl rfl (fun bk => ?_))) | (show WC _ _ _ _ _ _; first | (refine WC_seq ?_) | (refine WC_region ?_) | (refine WC_true rfl ?_) | (refine WC_false rfl ?_) | ((refine WC_cond rfl (fun hc => ?_) (fun hc => ?_)) <;> (try simp only [nrB] at hc) <;> (try (exfalso; first | omega | exact hc trivial | exact hc rfl))) | (refine WC_skip ?_) | (refine WC_ret ?_) | (refine WC_exit ?_) | (refine WC_block ?_)) | (show WQ _ _ _ _; first | (with_reducible refine WQ_then_normal ?_) | (with_reducible refine WQ_code ?_) | (with_reducible refine WQ_then_ret ?_) | (with_reducible refine WQ_block_ret ?_) | (with_reducible refine WQ_then_exit ?_) | (with_reducible refine WQ_block_hit ?_) | (with_reducible refine WQ_block_miss rfl ?_) | (with_reducible refine WQ_block_normal ?_))))
  have hS := see_of (p := p) (dv := dv) (jv := jv) (Cd := Cd) (Cj := Cj) (L := L) hG hf hr hn
  refine OW_callP rfl rfl rfl (open_1 S p fv nv dv jv s _ hS.h hS.n hS.an hS.ln) rfl ?_
  have hL : ∀ w, Holds w (hdr S p fv nv dv jv :: Cf :: Cn :: Cd :: Cj :: Cs.flatten :: L) → Holds w ((hdr S p fv nv dv jv ++ (Cf ++ (Cn ++ (Cd ++ (Cj ++ Cs.flatten))))) :: L) := fun w h => six.2 h
  (repeat' (first | (show WL _ _ _ _ _ _ _; first | (refine WL_plain rfl ?_) | (refine WL_nil ?_) | (refine WL_on rfl rfl ?_) | (refine WL_off rfl rfl rfl rfl ?_) | (refine WL_offu rfl rfl rfl rfl ?_) | (refine WL_off' rfl rfl rfl ?_) | ((refine WL_split rfl rfl (fun hc => ?_) (fun hc => ?_)) <;> (rw [hc]; (try simp only [nrB] at hc); (try (exfalso; first | omega | exact hc trivial | exact hc rfl))))) | (show OW _ _ _ _ _ _; refine OW_E ?_) | (show OW _ _ ⟨_, .store .., _, _, _, _⟩ _ _ _; first | (refine OW_store rfl rfl rfl (by repeat (first | exact Upd.here | apply Upd.there)) (by first | (simp; done) | (simp; omega)) ?_) | (refine OW_storeAgg rfl rfl rfl rfl (by repeat (first | exact Upd.here | apply Upd.there)) (by first | (simp [Value.cells]; done) | (simp [Value.cells]; omega)) ?_)) | (show OW _ _ ⟨_, .alloc _, _, _, _, _⟩ _ _ _; first | (refine OW_alloc rfl (fun bk => ?_))) | (show OW _ _ ⟨_, .box .., _, _, _, _⟩ _ _ _; first | (refine OW_box rfl rfl (fun bk => ?_))) | (show WC _ _ _ _ _ _; first | (refine WC_seq ?_) | (refine WC_region ?_) | (refine WC_true rfl ?_) | (refine WC_false rfl ?_) | ((refine WC_cond rfl (fun hc => ?_) (fun hc => ?_)) <;> (try simp only [nrB] at hc) <;> (try (exfalso; first | omega | exact hc trivial | exact hc rfl))) | (refine WC_skip ?_) | (refine WC_ret ?_) | (refine WC_exit ?_) | (refine WC_block ?_)) | (show WQ _ _ _ _; first | (with_reducible refine WQ_then_normal ?_) | (with_reducible refine WQ_code ?_) | (with_reducible refine WQ_then_ret ?_) | (with_reducible refine WQ_block_ret ?_) | (with_reducible refine WQ_then_exit ?_) | (with_reducible refine WQ_block_hit ?_) | (with_reducible refine WQ_block_miss rfl ?_) | (with_reducible refine WQ_block_normal ?_))))
  · have h0 : openE S s = 0 := by assumption
    first | refine WQ_retH rfl rfl ?_ | refine WQ_endH rfl rfl ?_
    exact ⟨_, hL, _, by simp [createS, h0]; rfl, rfl, fv, nv, dv, jv, vs, Cs, Cf, Cn, Cd, Cj, by simp [createS, h0], by simpa [createS, h0] using hf, by simpa [createS, h0] using hr, by simpa [createS, h0] using hn, by simpa [createS, h0] using hd, by simpa [createS, h0] using hj⟩
  · have h0 : ¬ openE S s = 0 := by assumption
    have h1 : ¬ openE S s = 61 := by assumption
    have hc : createS S s = (openE S s, S) := by simp [createS, h0, h1]
    first | refine WQ_retH rfl rfl ?_ | refine WQ_endH rfl rfl ?_
    rw [hc]
    exact ⟨_, hL, _, rfl, rfl, fv, nv, dv, jv, vs, Cs, Cf, Cn, Cd, Cj, rfl, hf, hr, hn, hd, hj⟩
  · have h0 : ¬ openE S s = 0 := by assumption
    have h1 : openE S s = 61 := by omega
    obtain ⟨_, hok, hno⟩ := openE_none h1
    obtain ⟨e1, e2, e3, e4, e5⟩ := spend_same S
    refine OW_call rfl rfl rfl (spend_1 S p fv nv dv jv _ hG.left) rfl (fun r L' hp => ?_)
    obtain ⟨rfl, rfl⟩ := hp
    (repeat' (first | (show WL _ _ _ _ _ _ _; first | (refine WL_plain rfl ?_) | (refine WL_nil ?_) | (refine WL_on rfl rfl ?_) | (refine WL_off rfl rfl rfl rfl ?_) | (refine WL_offu rfl rfl rfl rfl ?_) | (refine WL_off' rfl rfl rfl ?_) | ((refine WL_split rfl rfl (fun hc => ?_) (fun hc => ?_)) <;> (rw [hc]; (try simp only [nrB] at hc); (try (exfalso; first | omega | exact hc trivial | exact hc rfl))))) | (show OW _ _ _ _ _ _; refine OW_E ?_) | (show OW _ _ ⟨_, .store .., _, _, _, _⟩ _ _ _; first | (refine OW_store rfl rfl rfl (by repeat (first | exact Upd.here | apply Upd.there)) (by first | (simp; done) | (simp; omega)) ?_) | (refine OW_storeAgg rfl rfl rfl rfl (by repeat (first | exact Upd.here | apply Upd.there)) (by first | (simp [Value.cells]; done) | (simp [Value.cells]; omega)) ?_)) | (show OW _ _ ⟨_, .alloc _, _, _, _, _⟩ _ _ _; first | (refine OW_alloc rfl (fun bk => ?_))) | (show OW _ _ ⟨_, .box .., _, _, _, _⟩ _ _ _; first | (refine OW_box rfl rfl (fun bk => ?_))) | (show WC _ _ _ _ _ _; first | (refine WC_seq ?_) | (refine WC_region ?_) | (refine WC_true rfl ?_) | (refine WC_false rfl ?_) | ((refine WC_cond rfl (fun hc => ?_) (fun hc => ?_)) <;> (try simp only [nrB] at hc) <;> (try (exfalso; first | omega | exact hc trivial | exact hc rfl))) | (refine WC_skip ?_) | (refine WC_ret ?_) | (refine WC_exit ?_) | (refine WC_block ?_)) | (show WQ _ _ _ _; first | (with_reducible refine WQ_then_normal ?_) | (with_reducible refine WQ_code ?_) | (with_reducible refine WQ_then_ret ?_) | (with_reducible refine WQ_block_ret ?_) | (with_reducible refine WQ_then_exit ?_) | (with_reducible refine WQ_block_hit ?_) | (with_reducible refine WQ_block_miss rfl ?_) | (with_reducible refine WQ_block_normal ?_))))
    · have h2 : ¬ spendE S = 0 := by assumption
      have hc : createS S s = (spendE S, spendS S) := by simp [createS, h0, h1, h2]
      first | refine WQ_retH rfl rfl ?_ | refine WQ_endH rfl rfl ?_
      rw [hc]
      exact ⟨_, fun w h => six.2 h, _, rfl, rfl, fv, nv, dv, jv, vs, Cs, Cf, Cn, Cd, Cj, rfl, by rw [e1]; exact hf, by rw [e1]; exact hr, by rw [e2]; exact hn, by rw [e3]; exact hd, by rw [e4]; exact hj⟩
    · have h2 : spendE S = 0 := by omega
      have hc : createS S s = (0, { spendS S with files := S.files ++ [⟨[], 0⟩], names := afterE S.names (.cr s S.files.length), journal := S.journal ++ [.cr s S.files.length] }) := by simp [createS, h0, h1, h2]
      refine OW_buildSlice (cs := [.slice none 0 0, .int .i64 0]) rfl (by rfl) (by simp [fillL, patch, Value.cells, zeros]) (by omega) rfl rfl (fun bn => ?_)
      (repeat' (first | (show WL _ _ _ _ _ _ _; first | (refine WL_plain rfl ?_) | (refine WL_nil ?_) | (refine WL_on rfl rfl ?_) | (refine WL_off rfl rfl rfl rfl ?_) | (refine WL_offu rfl rfl rfl rfl ?_) | (refine WL_off' rfl rfl rfl ?_) | ((refine WL_split rfl rfl (fun hc => ?_) (fun hc => ?_)) <;> (rw [hc]; (try simp only [nrB] at hc); (try (exfalso; first | omega | exact hc trivial | exact hc rfl))))) | (show OW _ _ _ _ _ _; refine OW_E ?_) | (show OW _ _ ⟨_, .store .., _, _, _, _⟩ _ _ _; first | (refine OW_store rfl rfl rfl (by repeat (first | exact Upd.here | apply Upd.there)) (by first | (simp; done) | (simp; omega)) ?_) | (refine OW_storeAgg rfl rfl rfl rfl (by repeat (first | exact Upd.here | apply Upd.there)) (by first | (simp [Value.cells]; done) | (simp [Value.cells]; omega)) ?_)) | (show OW _ _ ⟨_, .alloc _, _, _, _, _⟩ _ _ _; first | (refine OW_alloc rfl (fun bk => ?_))) | (show OW _ _ ⟨_, .box .., _, _, _, _⟩ _ _ _; first | (refine OW_box rfl rfl (fun bk => ?_))) | (show WC _ _ _ _ _ _; first | (refine WC_seq ?_) | (refine WC_region ?_) | (refine WC_true rfl ?_) | (refine WC_false rfl ?_) | ((refine WC_cond rfl (fun hc => ?_) (fun hc => ?_)) <;> (try simp only [nrB] at hc) <;> (try (exfalso; first | omega | exact hc trivial | exact hc rfl))) | (refine WC_skip ?_) | (refine WC_ret ?_) | (refine WC_exit ?_) | (refine WC_block ?_)) | (show WQ _ _ _ _; first | (with_reducible refine WQ_then_normal ?_) | (with_reducible refine WQ_code ?_) | (with_reducible refine WQ_then_ret ?_) | (with_reducible refine WQ_block_ret ?_) | (with_reducible refine WQ_then_exit ?_) | (with_reducible refine WQ_block_hit ?_) | (with_reducible refine WQ_block_miss rfl ?_) | (with_reducible refine WQ_block_normal ?_))))
      have hlf := hG.lf
      have hgm := hG.m
      refine OW_append rfl rfl hf (c := 1) (ys := [.slice none 0 0, .int .i64 0]) (.inr ⟨_, _, rfl, RdAt.cl' (off := 0) (by repeat (first | assumption | exact Fnd.here | refine Fnd.there ?_)) rfl, rfl⟩) (by repeat (first | exact Zip.here _ | apply Zip.there)) (by rfl) rfl (by omega) (by simp only [maxLen]; omega) rfl (fun fv' Cf' ho hn1 hn2 => ?_)
      obtain ⟨fa, fc, rfl⟩ := ow_slc ho
      (repeat' (first | (show WL _ _ _ _ _ _ _; first | (refine WL_plain rfl ?_) | (refine WL_nil ?_) | (refine WL_on rfl rfl ?_) | (refine WL_off rfl rfl rfl rfl ?_) | (refine WL_offu rfl rfl rfl rfl ?_) | (refine WL_off' rfl rfl rfl ?_) | ((refine WL_split rfl rfl (fun hc => ?_) (fun hc => ?_)) <;> (rw [hc]; (try simp only [nrB] at hc); (try (exfalso; first | omega | exact hc trivial | exact hc rfl))))) | (show OW _ _ _ _ _ _; refine OW_E ?_) | (show OW _ _ ⟨_, .store .., _, _, _, _⟩ _ _ _; first | (refine OW_store rfl rfl rfl (by repeat (first | exact Upd.here | apply Upd.there)) (by first | (simp; done) | (simp; omega)) ?_) | (refine OW_storeAgg rfl rfl rfl rfl (by repeat (first | exact Upd.here | apply Upd.there)) (by first | (simp [Value.cells]; done) | (simp [Value.cells]; omega)) ?_)) | (show OW _ _ ⟨_, .alloc _, _, _, _, _⟩ _ _ _; first | (refine OW_alloc rfl (fun bk => ?_))) | (show OW _ _ ⟨_, .box .., _, _, _, _⟩ _ _ _; first | (refine OW_box rfl rfl (fun bk => ?_))) | (show WC _ _ _ _ _ _; first | (refine WC_seq ?_) | (refine WC_region ?_) | (refine WC_true rfl ?_) | (refine WC_false rfl ?_) | ((refine WC_cond rfl (fun hc => ?_) (fun hc => ?_)) <;> (try simp only [nrB] at hc) <;> (try (exfalso; first | omega | exact hc trivial | exact hc rfl))) | (refine WC_skip ?_) | (refine WC_ret ?_) | (refine WC_exit ?_) | (refine WC_block ?_)) | (show WQ _ _ _ _; first | (with_reducible refine WQ_then_normal ?_) | (with_reducible refine WQ_code ?_) | (with_reducible refine WQ_then_ret ?_) | (with_reducible refine WQ_block_ret ?_) | (with_reducible refine WQ_then_exit ?_) | (with_reducible refine WQ_block_hit ?_) | (with_reducible refine WQ_block_miss rfl ?_) | (with_reducible refine WQ_block_normal ?_))))
      have hsz := nameOk_size hok
      have hnow := hG.rp.now
      have hlj := hG.lj
      refine WC_holds' (L' := hdr { spendS S with files := S.files ++ [⟨[], 0⟩] } p (.slice fa (S.files.length + 1) fc) nv dv jv :: Cf' :: Cn :: Cd :: Cj :: Cs.flatten :: L) (fun w h => ((by repeat (first | exact Inc.refl | exact Inc.nil | refine Inc.cons (by repeat (first | exact Take.here | apply Take.there)) ?_ | refine Inc.skip ?_)) : Inc _ _).holds h) ?_
      refine WC_drawAll [11] mixed ?_
      (refine WR_t 0 ?_; refine WR_t 1 ?_; refine WR_t 3 ?_; refine WR_t 4 ?_; refine WR_t 5 ?_; refine WR_t 6 ?_; refine WR_t 7 ?_; refine WR_t 8 ?_)
      rw [show ((S.files.length + 1 : Nat) : Int) - 1 = (S.files.length : Int) from by omega]
      (refine WR_one 2 (by kernel_rfl) rfl rfl ?_)
      refine OW_callP rfl rfl rfl (clone_a s _ (by omega)) rfl ?_
      refine ⟨(by repeat (first | exact Inc.refl | exact Inc.nil | refine Inc.cons (by repeat (first | exact Take.here | apply Take.there)) ?_ | refine Inc.skip ?_)), ?_⟩
      (refine WR_t 9 ?_; refine WR_t 10 ?_)
      (refine WR_last 11 (by kernel_rfl) rfl rfl rfl ?_)
      refine OW_call rfl rfl rfl (Gv.holds (note_1 { spendS S with files := S.files ++ [⟨[], 0⟩] } p (.slice fa (S.files.length + 1) fc) nv dv jv (.cr s S.files.length) Cn Cj (Cf' :: Cd :: Cs.flatten :: L) (by simp only; rw [e2]; exact hn) (by simp only; rw [e4]; exact hj) (by simp only; rw [e2]; exact hnow.asc) (by simp only; rw [e2]; have := hnow.len; omega) (by simp only; rw [e4]; omega) rfl) (fun w h => ((by repeat (first | exact Inc.refl | exact Inc.nil | refine Inc.cons (by repeat (first | exact Take.here | apply Take.there)) ?_ | refine Inc.skip ?_)) : Inc _ _).holds h)) rfl (fun r L' hp => ?_)
      obtain ⟨nv', jv', Cn', Cj', rfl, rfl, hn', hj'⟩ := hp
      (refine WR_done (by kernel_rfl) ?_)
      (repeat' (first | (show WL _ _ _ _ _ _ _; first | (refine WL_plain rfl ?_) | (refine WL_nil ?_) | (refine WL_on rfl rfl ?_) | (refine WL_off rfl rfl rfl rfl ?_) | (refine WL_offu rfl rfl rfl rfl ?_) | (refine WL_off' rfl rfl rfl ?_) | ((refine WL_split rfl rfl (fun hc => ?_) (fun hc => ?_)) <;> (rw [hc]; (try simp only [nrB] at hc); (try (exfalso; first | omega | exact hc trivial | exact hc rfl))))) | (show OW _ _ _ _ _ _; refine OW_E ?_) | (show OW _ _ ⟨_, .store .., _, _, _, _⟩ _ _ _; first | (refine OW_store rfl rfl rfl (by repeat (first | exact Upd.here | apply Upd.there)) (by first | (simp; done) | (simp; omega)) ?_) | (refine OW_storeAgg rfl rfl rfl rfl (by repeat (first | exact Upd.here | apply Upd.there)) (by first | (simp [Value.cells]; done) | (simp [Value.cells]; omega)) ?_)) | (show OW _ _ ⟨_, .alloc _, _, _, _, _⟩ _ _ _; first | (refine OW_alloc rfl (fun bk => ?_))) | (show OW _ _ ⟨_, .box .., _, _, _, _⟩ _ _ _; first | (refine OW_box rfl rfl (fun bk => ?_))) | (show WC _ _ _ _ _ _; first | (refine WC_seq ?_) | (refine WC_region ?_) | (refine WC_true rfl ?_) | (refine WC_false rfl ?_) | ((refine WC_cond rfl (fun hc => ?_) (fun hc => ?_)) <;> (try simp only [nrB] at hc) <;> (try (exfalso; first | omega | exact hc trivial | exact hc rfl))) | (refine WC_skip ?_) | (refine WC_ret ?_) | (refine WC_exit ?_) | (refine WC_block ?_)) | (show WQ _ _ _ _; first | (with_reducible refine WQ_then_normal ?_) | (with_reducible refine WQ_code ?_) | (with_reducible refine WQ_then_ret ?_) | (with_reducible refine WQ_block_ret ?_) | (with_reducible refine WQ_then_exit ?_) | (with_reducible refine WQ_block_hit ?_) | (with_reducible refine WQ_block_miss rfl ?_) | (with_reducible refine WQ_block_normal ?_))))
      first | refine WQ_retH rfl rfl ?_ | refine WQ_endH rfl rfl ?_
      rw [hc]
      refine ⟨_, fun w h => six.2 (((by repeat (first | exact Inc.refl | exact Inc.nil | refine Inc.cons (by repeat (first | exact Take.here | apply Take.there)) ?_ | refine Inc.skip ?_)) : Inc (hdr _ p _ nv' dv jv' :: Cf' :: Cn' :: Cd :: Cj' :: Cs.flatten :: L) _).holds h), _, rfl, rfl, .slice fa (S.files.length + 1) fc, nv', dv, jv', vs ++ [.slice none 0 0], Cs ++ [[]], Cf', Cn', Cd, Cj', by simp; rfl, ?_, ?_, ?_, ?_, ?_⟩
      · simp only [List.length_append, List.length_cons, List.length_nil]
        rw [fcl_append hr.lv]; exact ho
      · refine ⟨by simp [hr.lv], by simp [hr.lc], fun i f hi => ?_⟩
        rcases Nat.lt_or_ge i S.files.length with hlt | hge
        · rw [List.getElem?_append_left hlt] at hi
          obtain ⟨v, C, a1, a2, a3⟩ := hr.at_ i f hi
          exact ⟨v, C, by rw [List.getElem?_append_left (by rw [hr.lv]; exact hlt)]; exact a1, by rw [List.getElem?_append_left (by rw [hr.lc]; exact hlt)]; exact a2, a3⟩
        · rw [List.getElem?_append_right hge] at hi
          have hi0 : i - S.files.length = 0 := by
            rcases Nat.eq_zero_or_pos (i - S.files.length) with h | h
            · exact h
            · obtain ⟨q, hq⟩ : ∃ q, i - S.files.length = q + 1 := ⟨i - S.files.length - 1, by omega⟩
              rw [hq] at hi; simp at hi
          rw [hi0] at hi; simp at hi; subst hi
          exact ⟨.slice none 0 0, [], by rw [List.getElem?_append_right (by rw [hr.lv]; exact hge), hr.lv, hi0]; rfl, by rw [List.getElem?_append_right (by rw [hr.lc]; exact hge), hr.lc, hi0]; rfl, .inl ⟨rfl, rfl, rfl, rfl⟩⟩
      · simpa [e2] using hn'
      · simpa [e3] using hd
      · simpa [e4] using hj'
end Go.Proofs.Ytgicjngbaomigaa
