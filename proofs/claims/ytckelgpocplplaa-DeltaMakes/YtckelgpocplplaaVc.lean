/- The layer's end of a function whose named results lie in cells; guarded operations in regions whose order is open. It proves no statement by itself. No conditions. -/
import Derived.Test.YtckelgpocplplaaVa
namespace Go.Vx
open Go
set_option linter.all false
variable [W0]
variable {P : Program}

/-- What a function hands back: slots, and cells of named results. -/
inductive ResL (P : Program) (M : List (Nat × Value)) (L : List Chunk) : List ResultVar → List Value → Prop
  | nil : ResL P M L [] []
  | tmp {t : Nat} {v : Value} {rs : List ResultVar} {vs : List Value} : lk M t = some v → ResL P M L rs vs → ResL P M L (.tmp t :: rs) (v :: vs)
  | agg {x T k b off : Nat} {us : List Value} {rs : List ResultVar} {vs : List Value} : aggT P T = true ∧ (P.info? T).map (·.size) = some k → lk M x = some (.pointer (some ⟨b, off, none⟩)) → RdAt L ⟨b, off, none⟩ us → us.length = k → ResL P M L rs vs → ResL P M L (.cell x T :: rs) (.agg us.toArray :: vs)
  | one {x T b off : Nat} {l : List Value} {U : TypeId} {v : Value} {rs : List ResultVar} {vs : List Value} : aggB P T = false → lk M x = some (.pointer (some ⟨b, off, none⟩)) → Fnd L b (cl l U) → nth l off = some v → ResL P M L rs vs → ResL P M L (.cell x T :: rs) (v :: vs)
theorem resL_run {n : Nat} {M : List (Nat × Value)} {L : List Chunk} {a : Act} {w : World} (ha : St n M a) (hw : Holds w L) {rs : List ResultVar} {vs : List Value} (h : ResL P M L rs vs) :
    (rs.mapM (resOne a.tmps)).run P w = .ok vs w := by
  induction h with
  | nil => rfl
  | tmp h1 _ ih => simp [List.mapM_cons, ih, resOne, Array.getD_eq_getD_getElem?, ha.get _ _ h1]
  | @agg x T k b off us rs vs hT h1 h2 h3 _ ih =>
    have hrun := run_loadCells_list (P := P) w ⟨b, off, none⟩ us (h2.cells hw)
    rw [h3] at hrun
    simp [List.mapM_cons, ih, resOne, Array.getD_eq_getD_getElem?, ha.get _ _ h1, asAddr, loadVar, isAgg_true hT.1, sizeOf_run hT.2, hrun]
  | @one x T b off l U v rs vs hT h1 h2 h3 _ ih =>
    have hcell : w.cell? ⟨b, off, none⟩ = some v := by
      rw [cell_of (h2.get hw)]
      simpa [nth_eq] using h3
    simp [List.mapM_cons, ih, resOne, Array.getD_eq_getD_getElem?, ha.get _ _ h1, asAddr, loadVar, isAgg_false hT, hcell]
theorem resultsL_run {n : Nat} {M : List (Nat × Value)} {L : List Chunk} {a : Act} {w : World} {fn : Func} {rs : List ResultVar} {vs : List Value} (ha : St n M a) (hw : Holds w L) (hr : fn.results = rs.toArray) (h : ResL P M L rs vs) :
    (results fn a.tmps).run P w = .ok (tupled vs) w := by
  rw [results_eq, hr]
  simp only [List.mapM_toArray, Sem.run_bind, Sem.run_map, resL_run ha hw h, Result.andThen_ok, Sem.run_pure]
  match vs with
  | [] => simp [tupled]
  | [v] => simp [tupled]
  | v :: u :: r => simp [tupled]
theorem WQ_retC {n : Nat} {M : List (Nat × Value)} {L : List Chunk} {fn : Func} {post : Value → List Chunk → Prop} {rs : List ResultVar} {vs : List Value} (hr : fn.results = rs.toArray) (h : ResL P M L rs vs) (hp : ∃ L', (∀ w, Holds w L → Holds w L') ∧ post (tupled vs) L') :
    WQ n (bodyPost P fn (fun e w' => ∃ v L', e = .returned v ∧ post v L' ∧ Holds w' L') .ret) M L := ⟨fun _ w ha hw => by
  obtain ⟨L', hi, hp⟩ := hp
  exact ⟨ha.defers, tupled vs, resultsL_run ha hw hr h, _, L', rfl, hp, hi w hw⟩⟩
theorem WQ_endC {n : Nat} {M : List (Nat × Value)} {L : List Chunk} {fn : Func} {post : Value → List Chunk → Prop} {rs : List ResultVar} {vs : List Value} (hr : fn.results = rs.toArray) (h : ResL P M L rs vs) (hp : ∃ L', (∀ w, Holds w L → Holds w L') ∧ post (tupled vs) L') :
    WQ n (bodyPost P fn (fun e w' => ∃ v L', e = .returned v ∧ post v L' ∧ Holds w' L') .normal) M L := ⟨fun _ w ha hw => by
  obtain ⟨L', hi, hp⟩ := hp
  exact ⟨ha.defers, tupled vs, resultsL_run ha hw hr h, _, L', rfl, hp, hi w hw⟩⟩
section
variable {n : Nat} {Q : Exit → Act → World → Prop} {M : List (Nat × Value)} {L : List Chunk} {d : Nat} {v : Value}
/- Guarded operations of a region whose order is open: wanted, not wanted. -/
theorem WR_u {S : List Chunk} {ops : List Oper} {T : List Nat} {fuel : Nat} {listed : Array Bool} (i : Nat) {j : Nat} {b : Bool} {o : Oper} (h : WR P n ops Q S T fuel (listed.setIfInBounds i true) ((d, v) :: M) L)
    (hi : ops[i]? = some o := by exact rfl) (hg : o.guard = some (j, b) := by exact rfl) (hy : yl ops M j = some (.bool b) := by exact rfl) (hb : takeB ops T listed i = true := by kernel_rfl) (hPO : PO Q := by exact (by repeat (first | with_reducible exact PO.body | with_reducible exact RP_po | with_reducible refine PO.then ?_ | with_reducible refine PO.block ?_))) (hinc : Inc S L := by exact (by repeat (first | exact Inc.refl | exact Inc.nil | (show Inc (_ :: _) _; refine Inc.cons (by repeat (first | exact Take.here | apply Take.there)) ?_) | refine Inc.skip ?_))) (he : EV P n o M S d v := by exact (by first | (show EV _ _ ⟨_, .move _, _, _, _, _⟩ _ _ _ _; first | exact EV_move rfl) | (show EV _ _ ⟨_, .assign _, _, _, _, _⟩ _ _ _ _; first | exact EV_assign rfl) | (show EV _ _ ⟨_, .nilCheck _, _, _, _, _⟩ _ _ _ _; first | exact EV_nilCheck rfl) | (show EV _ _ ⟨_, .fieldAddr .., _, _, _, _⟩ _ _ _ _; first | exact EV_fieldAddr0 rfl | exact EV_fieldAddr rfl) | (show EV _ _ ⟨_, .load .., _, _, _, _⟩ _ _ _ _; first | exact EV_loadc rfl (by repeat (first | assumption | exact Fnd.here | refine Fnd.there ?_)) rfl | exact EV_loadAggC rfl (by repeat (first | assumption | exact Fnd.here | refine Fnd.there ?_)) rfl) | (show EV _ _ ⟨_, .binOp .., _, _, _, _⟩ _ _ _ _; first | exact EV_cmp rfl rfl rfl | exact EV_ari64 rfl rfl rfl (by omega) | exact EV_shr rfl rfl (by decide) (shr_lit (by omega) (by simp [IntKind.bits]; rfl)) | exact EV_strEq rfl rfl | exact EV_strNe rfl rfl | exact EV_strLt rfl rfl | exact EV_sliceEqNil rfl rfl | exact EV_sliceNeNil rfl rfl | exact EV_ptrEqNil rfl rfl | exact EV_ptrNeNil rfl rfl | exact EV_boolEq rfl rfl | exact EV_boolNe rfl rfl) | (show EV _ _ ⟨_, .convert .., _, _, _, _⟩ _ _ _ _; first | exact EV_convII rfl (wrap_i64 (by omega) (by omega)) | exact EV_convII rfl (wrap_u64 (by omega) (by omega)) | exact EV_convII rfl rfl) | (show EV _ _ ⟨_, .extract .., _, _, _, _⟩ _ _ _ _; first | exact EV_extract rfl rfl) | (show EV _ _ ⟨_, .unOp .., _, _, _, _⟩ _ _ _ _; first | exact EV_not rfl) | (show EV _ _ ⟨_, .pick .., _, _, _, _⟩ _ _ _ _; first | exact EV_pick rfl rfl) | (show EV _ _ ⟨_, .call ⟨.builtin .len, _, _⟩, _, _, _, _⟩ _ _ _ _; first | exact EV_lenSl rfl | exact EV_lenStr rfl) | (show EV _ _ ⟨_, .call ⟨.builtin .cap, _, _⟩, _, _, _, _⟩ _ _ _ _; first | exact EV_capSl rfl) | (show EV _ _ ⟨_, .call ⟨.builtin .min, _, _⟩, _, _, _, _⟩ _ _ _ _; first | exact EV_min rfl rfl) | (show EV _ _ ⟨_, .call ⟨.builtin .max, _, _⟩, _, _, _, _⟩ _ _ _ _; first | exact EV_max rfl rfl) | (show EV _ _ ⟨_, .makeInterface .., _, _, _, _⟩ _ _ _ _; first | exact EV_makeInterface rfl) | (show EV _ _ ⟨_, .makeFunc .., _, _, _, _⟩ _ _ _ _; first | exact EV_makeFunc rfl rfl) | (show EV _ _ ⟨_, .typeAssert .., _, _, _, _⟩ _ _ _ _; first | exact EV_assertYes rfl | exact EV_assertNo rfl rfl) | (show EV _ _ ⟨_, .build .., _, _, _, _⟩ _ _ _ _; first | exact EV_build rfl (by simp [fillL, patch, Value.cells]; rfl)))) (hn : Nat.blt d n = true := by exact rfl) :
    WR P n ops Q S T (fuel + 1) listed M L := WR_takeOn i hi hg hy hb hPO hinc he hn h
theorem WR_v {S : List Chunk} {ops : List Oper} {T : List Nat} {fuel : Nat} {listed : Array Bool} (i : Nat) {j : Nat} {b : Bool} {o : Oper} (h : WR P n ops Q S T fuel (listed.setIfInBounds i true) ((d, undef) :: M) L)
    (hi : ops[i]? = some o := by exact rfl) (hg : o.guard = some (j, b) := by exact rfl) (hy : yl ops M j = some (.bool (!b)) := by exact rfl) (hd : o.dst = some d := by exact rfl) (hb : takeB ops T listed i = true := by kernel_rfl) (hPO : PO Q := by exact (by repeat (first | with_reducible exact PO.body | with_reducible exact RP_po | with_reducible refine PO.then ?_ | with_reducible refine PO.block ?_))) (hinc : Inc S L := by exact (by repeat (first | exact Inc.refl | exact Inc.nil | (show Inc (_ :: _) _; refine Inc.cons (by repeat (first | exact Take.here | apply Take.there)) ?_) | refine Inc.skip ?_))) (hn : Nat.blt d n = true := by exact rfl) :
    WR P n ops Q S T (fuel + 1) listed M L := WR_takeOff i hi hg hy hd hb hPO hinc hn h
theorem WR_oneOn {S : List Chunk} {ops : List Oper} {T : List Nat} {fuel : Nat} {listed : Array Bool} (i : Nat) {j : Nat} {b : Bool} {o : Oper} (hr : Region.ready .any ops.toArray listed = [i]) (hi : ops[i]? = some o) (hg : o.guard = some (j, b)) (hy : yl ops M j = some (.bool b)) (h : OW P n o (WRk P n ops Q S T fuel (listed.setIfInBounds i true)) M L) : WR P n ops Q S T (fuel + 1) listed M L := ⟨fun a w ha hw => by
  refine ⟨fun h0 => absurd (hr ▸ h0) (by simp), fun j' hj => ?_⟩
  rw [hr] at hj
  simp only [List.mem_singleton] at hj
  subst hj
  unfold wpOp
  simp only [List.getElem?_toArray, hi]
  rw [if_pos (by simp [Region.wanted, hg, yielded_of ha hy])]
  exact .inl (h.out a w _ Q ha hw fun M' L' hk => ⟨fun a' w' ha' hw' => ⟨fun _ => hk.inc.holds hw', hk.out.out a' w' ha' hw'⟩⟩)⟩
end
theorem ow_in {e k m : Nat} {v : Value} {xs : List Value} {C : Chunk} {L L' : List Chunk} (h : Ow e k v m xs C) (ht : Take C L L') : Sl L k v m xs := (ow_sl (L := L') h).perm ht.perm.symm
end Go.Vx
