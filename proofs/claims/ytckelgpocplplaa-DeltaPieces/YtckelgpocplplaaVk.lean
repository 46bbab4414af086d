/- The layer's part on statements whose order Go leaves open: operations that hang on no memory may come up at any time. It proves no statement by itself. No conditions. -/
import Derived.Test.YtckelgpocplplaaVm
namespace Go.Vx
open Go
set_option linter.all false
variable [W0]
section
variable {P : Program} {ops : Array Oper} {Q : Exit → Act → World → Prop} {md : Region.Mode} {S : World → Prop} {T : List Nat}
theorem wpAnyT_first2 {i : Nat} {oi : Oper} {v : Value} (hi : ops[i]? = some oi) (hsel : ∀ (j : Nat) (o : Oper) cs b, ops[j]? = some o → o.op ≠ .select cs b)
    (hQ : ∀ c a w, Q (.panic c) (a.put oi.dst v) w → Q (.panic c) a w) :
    ∀ (fuel : Nat) (listed : Array Bool) (a : Act) (w : World), (∀ j ∈ T, j ≠ i → listed.getD j false = true ∨ ∃ f, ancB md ops i f j = true) →
      (∀ j oj, ops[j]? = some oj → j ≠ i → listed.getD j true = false → (∀ e ∈ oj.after, Region.binds md e = true → e.on ≠ i) → oi.apart ops oj = true) → DC md ops listed →
      i ∈ Region.ready md ops listed → YieldsIf P ops S oi v a → S w →
      wpAnyT P md ops Q S T fuel (listed.setIfInBounds i true) (a.put oi.dst v) w → wpAnyT P md ops Q S T (fuel + 1) listed a w := by
  intro fuel
  induction fuel with
  | zero =>
    intro listed a w _ _ _ hr hy hS H
    refine ⟨fun h => (by rw [h] at hr; cases hr), fun j hj => ?_⟩
    by_cases hji : j = i
    · subst hji; exact hy.wpOp hi hS ⟨fun _ => hS, H⟩
    · have := ready_mono hj hji
      rw [H.1] at this
      cases this
  | succ fuel ih =>
    intro listed a w hT hfree hdc hr hy hS H
    refine ⟨fun h => (by rw [h] at hr; cases hr), fun j hj => ?_⟩
    by_cases hji : j = i
    · subst hji; exact hy.wpOp hi hS ⟨fun _ => hS, H⟩
    · have h1 := H.2 j (ready_mono hj hji)
      obtain ⟨hjun, oj, hoj, hall⟩ := mem_ready.1 hj
      have hun := (mem_ready.1 hr).1
      have hnot : ∀ e ∈ oj.after, Region.binds md e = true → e.on ≠ i := fun e he hb heq => by
        have h1 := hall e he hb
        rw [heq] at h1
        exact listed_both hun h1
      have hnT : j ∉ T := fun hm => by
        rcases hT j hm hji with hl | ⟨f, hf⟩
        · exact listed_both hjun hl
        · exact listed_both hun (ancB_spec hdc f j oj hf hoj hall)
      have h2 := wpOp_putIf hoj (hfree j oj hoj hji hjun hnot) (fun cs b => hsel i oi cs b hi) (fun cs b => hsel j oj cs b hoj) hQ hy h1
      have hfree' : ∀ k ok, ops[k]? = some ok → k ≠ i → (listed.setIfInBounds j true).getD k true = false →
          (∀ e ∈ ok.after, Region.binds md e = true → e.on ≠ i) → oi.apart ops ok = true := fun k ok hk hki hun hno => by
        refine hfree k ok hk hki ?_ hno
        by_cases hjk : j = k
        · subst hjk; exact hjun
        · rw [getD_set_ne true hjk] at hun; exact hun
      have hT' : ∀ k ∈ T, k ≠ i → (listed.setIfInBounds j true).getD k false = true ∨ ∃ f, ancB md ops i f k = true := fun k hk hki => (hT k hk hki).imp getD_set_true id
      refine wpOp_mono (fun a' w' h3 => ⟨fun _ => h3.2.1 hnT, ih (listed.setIfInBounds j true) a' w' hT' hfree' (hdc.set hj) (ready_mono hr (Ne.symm hji)) h3.1 (h3.2.1 hnT) ?_⟩) h2
      rw [Array.setIfInBounds_comm _ _ hji]
      exact h3.2.2
theorem wpAnyT_float {i : Nat} {oi : Oper} {v : Value} (hi : ops[i]? = some oi) (hsel : ∀ (j : Nat) (o : Oper) cs b, ops[j]? = some o → o.op ≠ .select cs b)
    (hQ : ∀ c a w, Q (.panic c) (a.put oi.dst v) w → Q (.panic c) a w) (hiT : i ∈ T) :
    ∀ (fuel : Nat) (listed : Array Bool) (a : Act) (w : World),
      (∀ j oj, ops[j]? = some oj → j ≠ i → listed.getD j true = false → (∀ e ∈ oj.after, Region.binds md e = true → e.on ≠ i) → oi.apart ops oj = true) → DC md ops listed →
      i ∈ Region.ready md ops listed → YieldsIf P ops (fun _ => True) oi v a →
      wpAnyT P md ops Q S T fuel (listed.setIfInBounds i true) (a.put oi.dst v) w → wpAnyT P md ops Q S T (fuel + 1) listed a w := by
  intro fuel
  induction fuel with
  | zero =>
    intro listed a w _ _ hr hy H
    refine ⟨fun h => (by rw [h] at hr; cases hr), fun j hj => ?_⟩
    by_cases hji : j = i
    · subst hji; exact hy.wpOp hi trivial ⟨fun hn => absurd hiT hn, H⟩
    · have := ready_mono hj hji
      rw [H.1] at this
      cases this
  | succ fuel ih =>
    intro listed a w hfree hdc hr hy H
    refine ⟨fun h => (by rw [h] at hr; cases hr), fun j hj => ?_⟩
    by_cases hji : j = i
    · subst hji; exact hy.wpOp hi trivial ⟨fun hn => absurd hiT hn, H⟩
    · have h1 := H.2 j (ready_mono hj hji)
      obtain ⟨hjun, oj, hoj, hall⟩ := mem_ready.1 hj
      have hun := (mem_ready.1 hr).1
      have hnot : ∀ e ∈ oj.after, Region.binds md e = true → e.on ≠ i := fun e he hb heq => by
        have h1 := hall e he hb
        rw [heq] at h1
        exact listed_both hun h1
      have h2 := wpOp_putIf hoj (hfree j oj hoj hji hjun hnot) (fun cs b => hsel i oi cs b hi) (fun cs b => hsel j oj cs b hoj) hQ hy h1
      have hfree' : ∀ k ok, ops[k]? = some ok → k ≠ i → (listed.setIfInBounds j true).getD k true = false →
          (∀ e ∈ ok.after, Region.binds md e = true → e.on ≠ i) → oi.apart ops ok = true := fun k ok hk hki hun hno => by
        refine hfree k ok hk hki ?_ hno
        by_cases hjk : j = k
        · subst hjk; exact hjun
        · rw [getD_set_ne true hjk] at hun; exact hun
      refine wpOp_mono (fun a' w' h3 => ⟨h3.2.1, ih (listed.setIfInBounds j true) a' w' hfree' (hdc.set hj) (ready_mono hr (Ne.symm hji)) h3.1 ?_⟩) h2
      rw [Array.setIfInBounds_comm _ _ hji]
      exact h3.2.2
end
omit [W0] in
/-- The ground for taking number i first. -/
def takeB2 (ops : List Oper) (T : List Nat) (listed : Array Bool) (i : Nat) : Bool :=
  Region.noSelect ops.toArray && Region.free .any ops.toArray listed i && (Region.ready .any ops.toArray listed).contains i && dcB .any ops.toArray listed
    && T.all fun j => j == i || listed.getD j false || ancB .any ops.toArray i ops.length j
omit [W0] in
def takeB3 (ops : List Oper) (T : List Nat) (listed : Array Bool) (i : Nat) : Bool :=
  Region.noSelect ops.toArray && Region.free .any ops.toArray listed i && (Region.ready .any ops.toArray listed).contains i && dcB .any ops.toArray listed && T.contains i
section
variable {P : Program} {n : Nat} {Q : Exit → Act → World → Prop} {M : List (Nat × Value)} {L S : List Chunk} {ops : List Oper} {T : List Nat} {fuel : Nat} {listed : Array Bool} {d : Nat} {v : Value}
theorem WR_take2 (i : Nat) {o : Oper} (hi : ops[i]? = some o) (hg : o.guard = none) (hb : takeB2 ops T listed i = true) (hPO : PO Q) (hinc : Inc S L) (he : EV P n o M S d v) (hn : Nat.blt d n = true)
    (h : WR P n ops Q S T fuel (listed.setIfInBounds i true) ((d, v) :: M) L) : WR P n ops Q S T (fuel + 1) listed M L := ⟨fun a w ha hw => by
  simp only [takeB2, Bool.and_eq_true, List.all_eq_true, Bool.or_eq_true, beq_iff_eq] at hb
  obtain ⟨⟨⟨⟨h1, h2⟩, h3⟩, h4⟩, h5⟩ := hb
  have hi' : ops.toArray[i]? = some o := by simpa using hi
  refine wpAnyT_first2 hi' (Region.noSelect_spec h1) (fun c a w hq => hPO.out c a _ _ w hq) fuel listed a w (fun j hj hne => ?_) (Region.free_spec hi' h2) (DC.of h4) (by simpa using h3) (.inl ⟨by simp [Region.wanted, hg], fun w hw => he.run a w ha hw⟩) (hinc.holds hw) ?_
  · rcases h5 j hj with (h | h) | h
    · exact absurd h hne
    · exact .inl h
    · exact .inr ⟨_, h⟩
  · rw [he.dst]
    exact h.out _ w (ha.put v hn) hw⟩
/-- An operation that hangs on no memory. -/
structure EF (P : Program) (n : Nat) (o : Oper) (M : List (Nat × Value)) (d : Nat) (v : Value) : Prop where
  dst : o.dst = some d
  run : ∀ a w, St n M a → (execOp a.eval o).run P w = .ok (.value v) w
theorem WR_float (i : Nat) {o : Oper} (hi : ops[i]? = some o) (hg : o.guard = none) (hb : takeB3 ops T listed i = true) (hPO : PO Q) (he : EF P n o M d v) (hn : Nat.blt d n = true)
    (h : WR P n ops Q S T fuel (listed.setIfInBounds i true) ((d, v) :: M) L) : WR P n ops Q S T (fuel + 1) listed M L := ⟨fun a w ha hw => by
  simp only [takeB3, Bool.and_eq_true] at hb
  obtain ⟨⟨⟨⟨h1, h2⟩, h3⟩, h4⟩, h5⟩ := hb
  have hi' : ops.toArray[i]? = some o := by simpa using hi
  refine wpAnyT_float hi' (Region.noSelect_spec h1) (fun c a w hq => hPO.out c a _ _ w hq) (by simpa using h5) fuel listed a w (Region.free_spec hi' h2) (DC.of h4) (by simpa using h3) (.inl ⟨by simp [Region.wanted, hg], fun w _ => he.run a w ha⟩) ?_
  rw [he.dst]
  exact h.out _ w (ha.put v hn) hw⟩
variable {ty : TypeId} {ps : String} {af : Array Edge} {g : Option (Nat × Bool)} {x y : Operand}
theorem EF_move (hx : ev M x = some v) : EF P n ⟨some d, .move x, ty, ps, af, g⟩ M d v := ⟨rfl, fun a w ha => by simp [execOp, ha.eval hx]⟩
theorem EF_ari64 {op : BinOp} {t u : TypeId} {i j r : Int} (hx : ev M x = some (.int .i64 i)) (hy : ev M y = some (.int .i64 j)) (hb : ariI op i j = some r) (h1 : -9223372036854775808 ≤ r ∧ r ≤ 9223372036854775807) :
    EF P n ⟨some d, .binOp op t x y u, ty, ps, af, g⟩ M d (.int .i64 r) := ⟨rfl, fun a w ha => by
  have hw := wrap_i64 h1.1 h1.2
  cases op <;> simp [ariI] at hb <;> subst hb <;> simp [execOp, ha.eval hx, ha.eval hy, eqGuard, binOp, Op.intArith, hw]⟩
/-- A cut between two pieces of code: what is known there. -/
theorem WC_cut {X : Type} {x y : Code} (MI : X → List (Nat × Value)) (LI : X → List Chunk) (J : X → Prop) (h1 : WC P n x (Exit.then (fun a' w' => ∃ z, J z ∧ St n (MI z) a' ∧ Holds w' (LI z)) Q) M L) (h2 : ∀ z, J z → WC P n y Q (MI z) (LI z)) : WC P n (.seq x y) Q M L := ⟨fun a w ha hw => by
  refine wp_seq (wp_mono (h1.out a w ha hw) ?_)
  intro e a' w' hq
  cases e with
  | normal =>
    obtain ⟨z, hz, hs, hw'⟩ := hq
    exact (h2 z hz).out a' w' hs hw'
  | exit id => exact hq
  | goto l => exact hq
  | ret => exact hq
  | panic c => exact hq
  | outgrown => exact hq⟩
theorem WQ_cut {X : Type} {MI : X → List (Nat × Value)} {LI : X → List Chunk} {J : X → Prop} (z : X) (hJ : J z) (hM : Sub (MI z) M) (hL : ∀ w, Holds w L → Holds w (LI z)) : WQ n (fun a' w' => ∃ z, J z ∧ St n (MI z) a' ∧ Holds w' (LI z)) M L := ⟨fun _ w ha hw => ⟨z, hJ, ha.sub hM, hL w hw⟩⟩
theorem WR_t2 (i : Nat) {o : Oper} (h : WR P n ops Q S T fuel (listed.setIfInBounds i true) ((d, v) :: M) L)
    (hi : ops[i]? = some o := by exact rfl) (hg : o.guard = none := by exact rfl) (hb : takeB2 ops T listed i = true := by kernel_rfl) (hPO : PO Q := by exact iP) (hinc : Inc S L := by exact iC) (he : EV P n o M S d v := by exact (by first | (show EV _ _ ⟨_, .move _, _, _, _, _⟩ _ _ _ _; first | exact EV_move rfl) | (show EV _ _ ⟨_, .assign _, _, _, _, _⟩ _ _ _ _; first | exact EV_assign rfl) | (show EV _ _ ⟨_, .nilCheck _, _, _, _, _⟩ _ _ _ _; first | exact EV_nilCheck rfl) | (show EV _ _ ⟨_, .fieldAddr .., _, _, _, _⟩ _ _ _ _; first | exact EV_fieldAddr0 rfl | exact EV_fieldAddr rfl) | (show EV _ _ ⟨_, .load .., _, _, _, _⟩ _ _ _ _; first | exact EV_loadc rfl (by repeat (first | assumption | exact Fnd.here | refine Fnd.there ?_)) rfl | exact EV_loadAggC rfl (by repeat (first | assumption | exact Fnd.here | refine Fnd.there ?_)) rfl) | (show EV _ _ ⟨_, .binOp .., _, _, _, _⟩ _ _ _ _; first | exact EV_cmp rfl rfl rfl | exact EV_ari64 rfl rfl rfl (by omega) | exact EV_shr rfl rfl (by decide) (shr_lit (by omega) (by simp [IntKind.bits]; rfl)) | exact EV_strEq rfl rfl | exact EV_strNe rfl rfl | exact EV_strLt rfl rfl | exact EV_sliceEqNil rfl rfl | exact EV_sliceNeNil rfl rfl | exact EV_ptrEqNil rfl rfl | exact EV_ptrNeNil rfl rfl | exact EV_boolEq rfl rfl | exact EV_boolNe rfl rfl) | (show EV _ _ ⟨_, .convert .., _, _, _, _⟩ _ _ _ _; first | exact EV_convII rfl (wrap_i64 (by omega) (by omega)) | exact EV_convII rfl (wrap_u64 (by omega) (by omega)) | exact EV_convII rfl rfl) | (show EV _ _ ⟨_, .extract .., _, _, _, _⟩ _ _ _ _; first | exact EV_extract rfl rfl) | (show EV _ _ ⟨_, .unOp .., _, _, _, _⟩ _ _ _ _; first | exact EV_not rfl) | (show EV _ _ ⟨_, .pick .., _, _, _, _⟩ _ _ _ _; first | exact EV_pick rfl rfl) | (show EV _ _ ⟨_, .call ⟨.builtin .len, _, _⟩, _, _, _, _⟩ _ _ _ _; first | exact EV_lenSl rfl | exact EV_lenStr rfl) | (show EV _ _ ⟨_, .call ⟨.builtin .cap, _, _⟩, _, _, _, _⟩ _ _ _ _; first | exact EV_capSl rfl) | (show EV _ _ ⟨_, .call ⟨.builtin .min, _, _⟩, _, _, _, _⟩ _ _ _ _; first | exact EV_min rfl rfl) | (show EV _ _ ⟨_, .call ⟨.builtin .max, _, _⟩, _, _, _, _⟩ _ _ _ _; first | exact EV_max rfl rfl) | (show EV _ _ ⟨_, .makeInterface .., _, _, _, _⟩ _ _ _ _; first | exact EV_makeInterface rfl) | (show EV _ _ ⟨_, .makeFunc .., _, _, _, _⟩ _ _ _ _; first | exact EV_makeFunc rfl rfl) | (show EV _ _ ⟨_, .typeAssert .., _, _, _, _⟩ _ _ _ _; first | exact EV_assertYes rfl | exact EV_assertNo rfl rfl) | (show EV _ _ ⟨_, .build .., _, _, _, _⟩ _ _ _ _; first | exact EV_build rfl (by simp [fillL, patch, Value.cells]; rfl)))) (hn : Nat.blt d n = true := by exact rfl) :
    WR P n ops Q S T (fuel + 1) listed M L := WR_take2 i hi hg hb hPO hinc he hn h
theorem WR_f (i : Nat) {o : Oper} (h : WR P n ops Q S T fuel (listed.setIfInBounds i true) ((d, v) :: M) L)
    (hi : ops[i]? = some o := by exact rfl) (hg : o.guard = none := by exact rfl) (hb : takeB3 ops T listed i = true := by kernel_rfl) (hPO : PO Q := by exact iP) (he : EF P n o M d v := by first | exact EF_move rfl | exact EF_ari64 rfl rfl rfl (by omega)) (hn : Nat.blt d n = true := by exact rfl) :
    WR P n ops Q S T (fuel + 1) listed M L := WR_float i hi hg hb hPO he hn h
end
end Go.Vx
