/- DeflatePairs returns true and leaves its arguments as they were, for every argument; the table that the program reads is tied to its text (the card). No conditions beyond the row's. -/
import Derived.Test.YtcfohjmoojlalaaGreatDoorPr5
namespace Go.Proofs.YtcfohjmoojlalaaGreatDoor
open Go Go.Vx Go.Hf Go.If Go.Df
variable [W0]
set_option maxRecDepth 4000
set_option linter.all false
theorem RwO.stored {b o : List UInt8} {level : Int} (h : RwO b level o) (hl : 1 < level) (hb : b.length ≤ 65535) : o.length ≤ b.length + 5 := by
  obtain ⟨x, q, rfl, hx, hc9, _, h2⟩ := h
  have h3 := (h2 hl).1
  rw [show stB b = [.st b] from stF_stop (by omega) _, ← wrI_sz] at h3
  have h4 : szB 0 [.st b] = 40 + 8 * b.length := by
    show 0 + 1 + itL (blI (0 + 1) (.st b)) = _
    simp only [blI]
    rw [itL_app, raI_L]
    simp only [itL]
    omega
  rw [show (wrB x q).length = (itL (wrI x q) + 7) / 8 from leB_length _ _]
  omega
set_option maxHeartbeats 8000000 in
theorem deflatepairs_n (v : Value) (b : List UInt8) (L : List Chunk) (ht : Rs L 1 v b.length (bsv b)) (hbl : b.length ≤ 140737488351232) (hor : OrAt L) :
    GvP Tryz.prog 3 [v].toArray L (.bool true) := by
  refine Gv.of_body (args := [v]) Tryz.func3 rfl rfl ?_
  obtain ⟨va, vc, rfl, hroom⟩ := ht.room
  (repeat' first|refine kW ?_|refine kU fun bk=>?_|refine kV fun hc=>?_|refine kZ (fun hc=>?_) fun hc=>?_|fail)
  · refine OW_callP rfl rfl rfl (dawake_n _) rfl ?_
    (repeat' first|refine kW ?_|refine kU fun bk=>?_|refine kV fun hc=>?_|refine kZ (fun hc=>?_) fun hc=>?_|fail)
    exact kE
  · refine OW_callP rfl rfl rfl (dawake_n _) rfl ?_
    (repeat' first|refine kW ?_|refine kU fun bk=>?_|refine kV fun hc=>?_|refine kZ (fun hc=>?_) fun hc=>?_|fail)
    exact kE
  have hb : 100 ≤ b.length ∧ b.length ≤ 5000 := by omega
  refine OW_buildSlice (cs := []) rfl (by rfl) (by rfl) (by omega) rfl rfl (fun b1 => ?_)
  (repeat' first|refine kW ?_|refine kU fun bk=>?_|refine kV fun hc=>?_|refine kZ (fun hc=>?_) fun hc=>?_|fail)
  have he0 : Ow 5 1 (.slice (some ⟨b1, 0, none⟩) 0 0) 0 (bsv []) [(b1, cl (bsv []) 5)] := .inr ⟨b1, 0, [], rfl, rfl, rfl, rfl, Nat.le_refl _, by simp [maxLen]⟩
  refine OW_append rfl rfl he0 (c := b.length) (ys := bsv b) ht.there.sl (by repeat (first | exact Zip.here _ | apply Zip.there)) (by rfl) bsv_ones (by omega) (by simp [maxLen]; omega) rfl (fun v1 D1 hd1 _ _ => ?_)
  rw [← bsv_append, List.nil_append, Nat.zero_add] at hd1
  (repeat' first|refine kW ?_|refine kU fun bk=>?_|refine kV fun hc=>?_|refine kZ (fun hc=>?_) fun hc=>?_|fail)
  refine OW_append rfl rfl hd1 (c := b.length) (ys := bsv b) ht.there.sl (by repeat (first | exact Zip.here _ | apply Zip.there)) (by rfl) bsv_ones (by omega) (by simp [maxLen]; omega) rfl (fun v2 D2 hd2 _ _ => ?_)
  rw [← bsv_append, ← List.length_append] at hd2
  obtain ⟨two, htw⟩ : ∃ two, two = b ++ b := ⟨_, rfl⟩
  rw [← htw] at hd2
  have hl2 : two.length = b.length + b.length := by rw [htw, List.length_append]
  obtain ⟨d2, e2, rfl⟩ := ow_slc hd2
  (repeat' first|refine kW ?_|refine kU fun bk=>?_|refine kV fun hc=>?_|refine kZ (fun hc=>?_) fun hc=>?_|fail)
  refine OW_call rfl rfl rfl (rawA_n _ 2 two _ (Rs.ow (L := L) hd2) (by omega) hor.there) rfl (fun r L' hp => ?_)
  obtain ⟨C1, o, hO, _, ho1, rfl⟩ := hp
  have hol := hO.stored (by omega) (by omega)
  obtain ⟨oa, oc, rfl⟩ := ow_slc ho1
  (repeat' first|refine kW ?_|refine kU fun bk=>?_|refine kV fun hc=>?_|refine kZ (fun hc=>?_) fun hc=>?_|fail)
  have hM : max (two.length : Int) 0 = (two.length : Int) := by omega
  obtain ⟨x, q, ho9, hx3, hbc, hit, _⟩ := id hO
  have hr1 : rawS o two.length = ⟨itL (wrI x q), two, 0⟩ := by have := raw_all (z := []) hbc hx3 (Nat.le_refl two.length); rwa [List.append_nil, ← ho9] at this
  have hus : (itL (wrI x q) + 7) / 8 = o.length := by rw [ho9]; exact (leB_length _ _).symm
  have hp1 := fun H (hs : Sl H 1 (.slice oa o.length oc) o.length (bsv o)) (h9 : OrAt H) => praw_n oa oc o (two.length : Int) two.length H hs (by omega) hM (by omega) h9
  rw [hr1] at hp1
  refine OW_call rfl rfl rfl (hp1 _ (by repeat (first | exact ow_sl ho1 | apply sl_there)) (by repeat (first | exact hor | apply OrAt.there))) rfl (fun r L' hp => ?_)
  rcases hp with ⟨h0, _⟩ | ⟨_, v3, C3, rfl, ho3, _, _, rfl⟩
  · exact absurd rfl h0
  simp only at ho3
  rw [hus]
  obtain ⟨a3, c3, rfl⟩ := ow_slc ho3
  (repeat' first|refine kW ?_|refine kU fun bk=>?_|refine kV fun hc=>?_|refine kZ (fun hc=>?_) fun hc=>?_|fail)
  refine OW_call rfl rfl rfl (matches_n _ 32768 two _ ((Rs.ow (L := L) hd2).sub iM) (by omega) (by omega)) rfl (fun r L' hp => ?_)
  obtain ⟨C, ho, rfl⟩ := hp
  have hok := msR_ok two 32768
  generalize msR two 32768 = ms at ho hok
  generalize (min 32768 32768 : Int) = R at hok
  rw [mtc_flt] at ho
  have hrs := Rs.ow (L := C3 :: C1 :: D2 :: L) ho
  have hml : ms.length ≤ 9223372036854775807 := by
    rcases ho with ⟨_, h0, _⟩ | ⟨_, cap, _, _, _, _, _, h1, h2⟩
    · omega
    · unfold maxLen at h2; omega
  obtain ⟨ra, rc, rfl, _⟩ := hrs.room
  (repeat' first|refine kW ?_|refine kU fun bk=>?_|refine kV fun hc=>?_|refine kZ (fun hc=>?_) fun hc=>?_|fail)
  refine WC_loop (X := Nat × Nat) (fun x => [(0, .slice va b.length vc), (3, .slice d2 two.length e2), (4, .slice oa o.length oc), (5, .slice a3 two.length c3), (6, .int .i64 (o.length : Int)), (7, .int .i64 0), (8, .slice ra ms.length rc), (9, .int .i64 (x.2 : Int)), (10, .int .i64 (x.1 : Int))]) (fun x => C :: C3 :: C1 :: D2 :: L)
    (fun x => x.1 ≤ ms.length ∧ x.2 ≤ 200000 ∧ MsOk two R x.2 (ms.drop x.1)) (fun x => ms.length - x.1) (0, 0) ⟨Nat.zero_le _, Nat.zero_le _, hok⟩ iS (fun w h => h) ?_
  rintro ⟨i, en⟩ ⟨hi, hen, hmo⟩
  simp only at hi hen hmo ⊢
  (repeat' first|refine kW ?_|refine kU fun bk=>?_|refine kV fun hc=>?_|refine kZ (fun hc=>?_) fun hc=>?_|fail)
  · have hil : i < ms.length := by omega
    obtain ⟨m, hm⟩ : ∃ m, ms[i]? = some m := ⟨ms[i], List.getElem?_eq_getElem hil⟩
    have hdr : ms.drop i = m :: ms.drop (i + 1) := by
      have hx : ms[i] = m := by rw [List.getElem?_eq_getElem hil] at hm; simpa using hm
      rw [List.drop_eq_getElem_cons hil, hx]
    rw [hdr] at hmo
    obtain ⟨m1, m2, m3⟩ := hmo
    obtain ⟨tb, toff, tcap, hv9, hrd⟩ := hrs.elem hil (by decide)
    injection hv9 with q1 q2 q3
    subst q1 q3
    clear q2
    rw [flt_at (k := 3) (fun _ => rfl) hm] at hrd
    obtain ⟨at9, n, d⟩ := m
    simp only at m1 m2 m3 hrd
    have g2 := m2.nm
    have g3 := m2.fit
    obtain h0 | ⟨bb, off, cc, T, fr, hv9, hfn, hcs⟩ := hrd
    · exact absurd h0 (by simp [MtV])
    injection hv9 with q1 q2
    subst q1 q2
    have hc1 := hcs 0 (.int .i64 (at9 : Int)) rfl
    have hc2 := hcs 1 (.int .i64 (n : Int)) rfl
    refine OW_EV (EV_indexAddr (j := i) rfl rfl rfl hil) rfl ?_
    (repeat' first|refine kW ?_|refine kU fun bk=>?_|refine kV fun hc=>?_|refine kZ (fun hc=>?_) fun hc=>?_|fail)
    refine OW_EV (EV_load rfl hfn hc1) rfl ?_
    (repeat' first|refine kW ?_|refine kU fun bk=>?_|refine kV fun hc=>?_|refine kZ (fun hc=>?_) fun hc=>?_|fail)
    refine WC_drawAll [11] mixed ?_
    (refine WR_t 0 ?_; refine WR_t 1 ?_)
    (refine WR_take 2 rfl rfl (by kernel_rfl) iP iC (EV_indexAddr (j := i) rfl rfl rfl hil) (by rfl) ?_)
    (refine WR_t 3 ?_)
    (refine WR_take 4 rfl rfl (by kernel_rfl) iP iC (EV_load rfl hfn hc1) (by rfl) ?_)
    (refine WR_t 5 ?_; refine WR_t 6 ?_)
    (refine WR_take 7 rfl rfl (by kernel_rfl) iP iC (EV_indexAddr (j := i) rfl rfl rfl hil) (by rfl) ?_)
    (refine WR_t 8 ?_)
    (refine WR_take 9 rfl rfl (by kernel_rfl) iP iC (EV_load rfl hfn hc2) (by rfl) ?_)
    (refine WR_t 10 ?_)
    (refine WR_last 11 (by kernel_rfl) rfl rfl rfl ?_)
    refine OW_EV (EV_assign rfl) rfl ?_
    (refine WR_done (by kernel_rfl) ?_)
    (repeat' first|refine kW ?_|refine kU fun bk=>?_|refine kV fun hc=>?_|refine kZ (fun hc=>?_) fun hc=>?_|fail)
    refine WQ_round (X := Nat × Nat) (μ := fun x => ms.length - x.1) (x := (i, en)) (i + 1, at9 + n) (by simp only; omega) ⟨by simp only; omega, by simp only; omega, m3⟩ iS (fun w h => h)
  · refine OW_EV (EV_convStr (m := two.length) (b := two) rfl (by repeat (first | exact ow_sl ho3 | apply sl_there))) rfl ?_
    (repeat' first|refine kW ?_|refine kU fun bk=>?_|refine kV fun hc=>?_|refine kZ (fun hc=>?_) fun hc=>?_|fail)
    refine OW_EV (EV_convStr (m := two.length) (b := two) rfl (by repeat (first | exact ow_sl hd2 | apply sl_there))) rfl ?_
    (repeat' first|refine kW ?_|refine kU fun bk=>?_|refine kV fun hc=>?_|refine kZ (fun hc=>?_) fun hc=>?_|fail)
    all_goals (try exact absurd trivial hc)
    refine OW_callP rfl rfl rfl (dawake_n _) rfl ?_
    (repeat' first|refine kW ?_|refine kU fun bk=>?_|refine kV fun hc=>?_|refine kZ (fun hc=>?_) fun hc=>?_|fail)
    exact kE
  · exact absurd trivial hc
end Go.Proofs.YtcfohjmoojlalaaGreatDoor
namespace Go.Proofs.YtcfohjmoojlalaaGreatDoor
open Go Go.Vx Go.ChangeShapes Go.WideShapes Go.ChangeAt Go.RowKit
set_option maxRecDepth 4000
set_option linter.all false
theorem open_bytes {H : Type} {enc : TypeId × Value → H} {P : Program} {W : World} {t e : TypeId} {a : Option Addr} {len cap : Nat} {d : DataW H} {ps : List MemPlace} (ht : P.underlying t = some (.slice e)) (he : P.underlying e = some (.int .u8)) (hc : P.cellsOf e = 1)
    (h : DataW.Trod enc P W 0 (fun _ => true) true t (.slice a len cap) d ps) :
    ∃ xs : List UInt8, xs.length = len ∧ SlC [blks W] 1 (.slice a len cap) len (bsv xs) ∧ len ≤ Rows.uptoBulk d ∧ (len = 0 ∨ ∃ el sp, d = .slice el sp ∧ el.length = len) := by
  have hx : len ≤ cap ∧ (len = 0 ∨ ∃ el sp, d = .slice el sp ∧ el.length = len) := by
    obtain ⟨fuel, hf⟩ := h
    rcases open_ints ht he hc hf with ⟨hcs, _⟩ | ⟨x, l, c, zs, hcs, _, hl, hm, hz, hx, hcell, hwz⟩
    · simp [Value.cells] at hcs
      obtain ⟨rfl, rfl, rfl⟩ := hcs
      exact ⟨Nat.le_refl _, .inl rfl⟩
    · simp [Value.cells] at hcs
      obtain ⟨rfl, rfl, rfl⟩ := hcs
      have hzl : zs.length = cap := by simpa using hz
      have hd : d = .slice (lits .u8 (zs.take len)) (lits .u8 (zs.drop len)) := by injection hx
      exact ⟨hl, .inr ⟨_, _, hd, by simp [lits]; omega⟩⟩
  obtain ⟨xs, h1, h2, h3, h4⟩ := open_row ht he hc h
  refine ⟨xs.map fun n => UInt8.ofNat n.toNat, by simpa using h1, ⟨?_, _, _, rfl, hx.1⟩, h4, hx.2⟩
  rw [bytes_of xs h2]
  exact h3
theorem reach_len {H : Type} {P : Program} {ts : List TypeId} {ds : List (DataW H)} (h : (DataW.weightsEach P ts ds).all (· ≤ reachBytes) = true) {j : Nat} {t e : TypeId} {d : DataW H} {len : Nat} (ht : ts[j]? = some t) (hd : ds[j]? = some d) (hu : P.underlying t = some (.slice e)) (hb : P.bytesOf e = 1)
    (hl : len = 0 ∨ ∃ el sp, d = .slice el sp ∧ el.length = len) : len ≤ 140737488351232 := by
  rcases hl with rfl | ⟨el, sp, rfl, rfl⟩
  · omega
  · have := sized_slice h ht hd hu
    rw [hb, Nat.mul_one] at this
    simp [reachBytes] at this
    omega
def tabZ : List Int := [16, 17, 18, 0, 8, 7, 9, 6, 10, 5, 11, 4, 12, 3, 13, 2, 14, 1, 15]
theorem tabZ_eq {i : Nat} (h : i < 19) : tabZ.getD i 0 = ((Go.If.ordL.getD i 0 : Nat) : Int) := by
  have : ∀ i : Fin 19, tabZ.getD i.val 0 = ((Go.If.ordL.getD i.val 0 : Nat) : Int) := by decide
  exact this ⟨i, h⟩
theorem tab_met {W : World} (h : laidMetH Tryz.prog [("stemma/symbols.order", Rows.laid_stemma_symbols_order)] W) : OrAt [blks W] := by
  letI : W0 := ⟨W.os, W.output⟩
  have ht : Lib.TabIs Tryz.prog W "stemma/symbols.order" .i64 tabZ :=
    Lib.tabIs_of_head (rest := []) (show Tryz.prog.globalNamed "stemma/symbols.order" = some 0 by kernel_rfl) (show (Tryz.prog.globals[0]?).map (·.type) = some 233 by kernel_rfl)
      Tryz.underlying233 Tryz.underlying3 (show Tryz.prog.cellsOf 3 = 1 by kernel_rfl) (show Tryz.prog.cellsOf 233 = 19 by kernel_rfl) h
  have hg : Tryz.prog.globalNamed "stemma/symbols.order" = some 0 := by kernel_rfl
  have hc0 := ht.cell hg 0 (by decide)
  have hblk : ∃ C T fr, W.heap[0]? = some (.cells C T fr) := by
    unfold World.cell? at hc0
    split at hc0
    · rename_i C T fr hb; exact ⟨C, T, fr, hb⟩
    · cases hc0
  obtain ⟨C, T, fr, hb⟩ := hblk
  refine ⟨C, T, fr, by simpa [Fnd] using blks_mem.2 hb, fun i hi => ?_⟩
  have := ht.cell hg i hi
  rw [cell_of hb] at this
  rw [this, tabZ_eq hi]
end Go.Proofs.YtcfohjmoojlalaaGreatDoor
namespace Go.Proofs.YtcfohjmoojlalaaGreatDoor
open Go Go.Vx Go.ChangeShapes Go.WideShapes Go.ChangeAt Go.RowKit
set_option linter.all false
set_option maxRecDepth 4000
theorem top_row (H : Type) (enc : TypeId × Value → H) (W : World) (base : Nat) (args : Array Value) (ds gs : List (DataW H)) (before : List MemPlace)
    (hval : ∀ (j : Nat) t v, Tryz.f3.params[j]? = some t → args[j]? = some v → Value.okWide Tryz.prog W .any base t v)
    (hW : DataW.Whole enc Tryz.prog Tryz.f3.params.toList Rows.deflatePairsSpec.vars false W args.toList ds gs before)
    (hz : (DataW.weightsEach Tryz.prog (Tryz.f3.params.toList ++ Rows.deflatePairsSpec.plain.varTypes Tryz.prog) (ds ++ gs)).all (· ≤ reachBytes) = true) (hL : laidMetH Tryz.prog [("stemma/symbols.order", Rows.laid_stemma_symbols_order)] W) :
    Calls Tryz.prog 3 args W fun e W' => ∃ v, e = .returned v ∧ Rows.deflatePairsSpec.post enc Tryz.prog Tryz.f3 false true false false W args v W' := by
  have hW' := hW
  obtain ⟨p, q, hA0, hV, rfl, hfz, hnd⟩ := hW
  have hA : DataW.TrodAll enc Tryz.prog W 0 (fun _ => true) true Tryz.f3.params.toList args.toList ds p := hA0
  rw [Tryz.params3] at hA hval hz
  obtain ⟨v0, vs0, d0, ds0, p0, q0, hargs, rfl, rfl, h0, r0⟩ := trodAll_cons hA
  obtain ⟨rfl, rfl, rfl⟩ := trodAll_nil r0
  obtain rfl : args = #[v0] := by cases args; simp_all
  obtain ⟨rfl, rfl⟩ := trodVars_none hV
  obtain ⟨a0, l0, c0, rfl⟩ := okWide_slice Tryz.underlying22 (hval 0 _ v0 rfl rfl)
  obtain ⟨x0, e0, s0, b0, g0⟩ := open_bytes Tryz.underlying22 Tryz.underlying5 (by kernel_rfl) h0
  have r0 : l0 ≤ 140737488351232 := reach_len hz (j := 0) rfl rfl Tryz.underlying22 (by kernel_rfl) g0
  clear hA0
  have lt0 : ∀ x ∈ p0, x.block < W.heap.size := by obtain ⟨m, hm⟩ := h0; exact DataW.trod_lt m _ _ _ hm
  have hc : Calls Tryz.prog 3 #[.slice a0 l0 c0] W fun e W' => e = .returned (.bool true) ∧ Kept W W' := by
    have ht := tab_met hL
    refine bridge (fun {i} => ?_)
    subst e0
    exact deflatepairs_n (.slice a0 x0.length c0) x0 [blks W] ⟨s0.sl, s0.room⟩ r0 ht
  refine hc.mono fun e W' ⟨he, bel⟩ => ?_
  subst he
  exact ⟨_, rfl, _, _, _, [], _, [], hW', trodAll_mk1 (shut_bool Tryz.underlying4 _), (trodAll_cons_mk (Kept.trod Tryz.laidOut (by kernel_rfl) (of_decide_eq_true (by kernel_rfl)) h0 bel lt0) trodAll_mk0), rfl, bel.frame _, fun h => by cases h⟩
noncomputable def laidWorld (os : Os) : World :=
  { World.holding Tryz.prog os ⟨#[], #[], []⟩ with heap := (World.holding Tryz.prog os ⟨#[], #[], []⟩).heap.modify 0 fun
      | .cells _ t frozen => .cells (tabZ.map (Value.int .i64)).toArray t frozen
      | o => o }
theorem laid_met (os : Os) : laidMet Tryz.prog Rows.deflatePairsRow.laid ((laidWorld os).forCall (fun _ _ => 0) ⟨#[], #[.slice none 0 0], []⟩).memory :=
  laidMet_of_run' 8 (by kernel_rfl) (by kernel_rfl)
theorem reads (os : Os) {H : Type} (enc : TypeId × Value → H) : ∃ places, DataW.whole enc Tryz.prog ((laidWorld os).forCall (fun _ _ => 0) ⟨#[], #[.slice none 0 0], []⟩).memory Tryz.f3.params.toList Rows.deflatePairsSpec.vars false #[.slice none 0 0].toList 8 = some ([.nil], [], places) :=
  ⟨[], by kernel_rfl⟩
set_option maxRecDepth 100000 in
theorem top_lifted (os : Os) (started : os.Started) (H : Type) (enc : TypeId × Value → H) (F : Stop.Interp) :
    ReturnsInHanded {} Tryz.checked os 3 .any ((OpenSpec.ofChange Rows.deflatePairsSpec).preRow enc Tryz.prog Tryz.f3 Rows.deflatePairsRow.domain false Rows.deflatePairsRow.laid) (((OpenSpec.ofChange Rows.deflatePairsSpec).at F).post enc Tryz.prog Tryz.f3 false true false false) := by
  obtain ⟨places, hx⟩ := reads os enc
  refine returnsInHanded_of_row (C := Tryz.checked) (s := (OpenSpec.ofChange Rows.deflatePairsSpec)) Tryz.own started (by kernel_rfl) Tryz.func3
    (witness_row_at (enc := enc) (C := Tryz.checked) false (laidWorld os) #[.slice none 0 0] rfl (by kernel_rfl) (by kernel_rfl) (by kernel_rfl)
      (OpenSpec.preRow_of_cond 8 hx (by kernel_rfl) (fun k hk => by cases hk) (by kernel_rfl) (laid_met os))) ?_
  intro W base args ds gs before hval hW _ hcond hz hL _ _
  exact top_row H enc W base args ds gs before hval hW hz hL
theorem top_over : Rows.DeflatePairsSaid :=
  OpenClaim.holds_of_cond 3 Tryz.f3 rfl rfl rfl rfl rfl rfl rfl ⟨rfl, rfl, rfl, rfl, rfl⟩ rfl rfl rfl rfl rfl (by kernel_rfl) Tryz.func3 (by kernel_rfl)
    (of_decide_eq_true (by kernel_rfl)) (by unfold Func.isWrapper; first | (rw [if_pos (by decide +kernel)]; kernel_rfl) | (rw [if_neg (by decide +kernel)]; exact ⟨rfl, rfl⟩))
    (fun os started H enc _ F => by rw [OpenClaim.pre_eq_preRow]; exact top_lifted os started H enc F)
theorem top_plain (f : FuncId) (fn : Func) (hf : Tryz.pinned.checked.prog.funcNamed "stemma/stemmalaw7.DeflatePairs" = some f) (hfn : Tryz.pinned.checked.prog.funcs[f]? = some fn) :
    true = Tryz.pinned.checked.prog.looks [] ∧ ∀ (j : Nat) t, fn.params[j]? = some t → Tryz.pinned.checked.prog.wantsStandIn t = false := by
  obtain rfl : f = 3 := Option.some.inj ((show Tryz.prog.funcNamed "stemma/stemmalaw7.DeflatePairs" = some 3 by kernel_rfl).symm.trans hf) |>.symm
  obtain rfl : fn = Tryz.f3 := (Option.some.inj (Tryz.func3.symm.trans hfn)).symm
  have all : (Tryz.f3.params.toList.all fun t => !Tryz.prog.wantsStandIn t) = true := by kernel_rfl
  refine ⟨by kernel_rfl, fun j t ht => ?_⟩
  have hm : t ∈ Tryz.f3.params.toList := by
    have := Array.mem_of_getElem? ht
    simpa using this
  have := List.all_eq_true.1 all t hm
  show Tryz.prog.wantsStandIn t = false
  simpa using this
theorem top_holds : Rows.DeflatePairsCardSaid :=
  Claim7.holds_tied_plain_at .later [] _ _ _ _ top_over (fun _ h => by cases h) (by kernel_rfl) (fun _ h => by cases h) deflatePairs_row_tie rfl ⟨rfl, rfl⟩ (by kernel_rfl) rfl top_plain (by kernel_rfl)
end Go.Proofs.YtcfohjmoojlalaaGreatDoor
