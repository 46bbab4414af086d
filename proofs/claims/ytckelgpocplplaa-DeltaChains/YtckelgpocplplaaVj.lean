/- The layer's part on ranges over functions: the statement, the iterator's contract. It proves no statement by itself. No conditions. -/
import Derived.Test.YtckelgpocplplaaVi
namespace Go.Vx
open Go
set_option linter.all false
variable [W0]
section
variable {P : Program} {n : Nat} {ro : Option Nat} {Q : Exit → Act → World → Prop} {M : List (Nat × Value)} {L : List Chunk} {K : List (Nat × Value) → List Chunk → Prop}

/-- A call of yield: a round is gone through, and the next one is asked for. -/
structure Yd (P : Program) (l : Nat) (args : List Value) (L : List Chunk) (post : List Chunk → Prop) : Prop where
  out : ∀ w, Holds w L → ∃ fn tmps assign body, (Instr.yield l args.toArray).run P w = .ok (.round l fn tmps assign body) w ∧
    RoundIn Fence.wide 0 P l fn tmps assign body w (fun e w' => e = .returned (.bool true) ∧ ∃ L', post L' ∧ Holds w' L')
theorem WJ_yield {ops : Array Oper} {rest : List Oper} {d l : Nat} {ty : TypeId} {ps : String} {af : Array Edge} {x : Operand} {xs : List Operand} {ats : Array TypeId} {vs : List Value} {post : List Chunk → Prop}
    (hx : ev M x = some (.func (.yield l) #[] #[])) (hvs : evs M xs = some vs) (hy : Yd P l vs L post) (hn : Nat.blt d n = true) (h : ∀ L', post L' → Wjc P n ro ops Q rest ((d, .bool true) :: M) L') :
    Wjc P n ro ops Q (⟨some d, .call ⟨.value x, xs.toArray, ats⟩, ty, ps, af, none⟩ :: rest) M L := ⟨fun a w ha hw => by
  unfold wpListIn
  rw [if_pos (by simp [Region.wanted])]
  refine ⟨fun _ _ => trivial, ?_⟩
  obtain ⟨fn, tmps, assign, body, hrun, hround⟩ := hy.out w hw
  have hr : (execOp a.eval ⟨some d, .call ⟨.value x, xs.toArray, ats⟩, ty, ps, af, none⟩).run P w = .ok (.round l fn tmps assign body) w := by
    have hm : Array.map a.eval xs.toArray = vs.toArray := by rw [← ha.evals hvs]; simp
    simp only [execOp, resolve, ha.eval hx, hm, Deferred.ofValue, Sem.run_bind, Sem.run_pure, Result.andThen_ok, invoke]
    simpa using hrun
  show Oper.uponIn (Fr ro) 0 P _ a _ Q ((Oper.semAt ro a.eval _).run P w)
  rw [semAt_in rfl, hr]
  refine ⟨fun hh => absurd (a := false = true) hh Bool.false_ne_true, ?_⟩
  refine RoundIn.mono (F := Fr ro) (show RoundIn (Fr ro) (0 - 1) P l fn tmps assign body w _ from hround) ?_
  rintro e w' ⟨rfl, L', hp, hw'⟩
  exact (h L' hp).out _ _ (ha.put _ hn) hw'⟩

/-- Every round of a loop over what an iterator gives, whatever else there is. -/
def YdAll (P : Program) (l : Nat) (xs : List (List Value)) (J : Nat → List Chunk → Prop) : Prop :=
  ∀ (R : List Chunk) (k : Nat) (L' : List Chunk), k < xs.length → J k L' → Yd P l (xs.getD k []) (L' ++ R) (fun L'' => ∃ L3, J (k + 1) L3 ∧ L'' = L3 ++ R)
/-- An iterator gives these, one by one, where every round asks for the next one. -/
structure It (P : Program) (gf : FuncId) (lb : Array Value) (Lit : List Chunk) (xs : List (List Value)) : Prop where
  out : ∀ (l : Nat) (J : Nat → List Chunk → Prop) (L0 : List Chunk), J 0 L0 → YdAll P l xs J → ∀ w, Holds w (L0 ++ Lit) →
    CallsIn Fence.wide 0 P gf (#[.func (.yield l) #[] #[]] ++ lb) w (fun e w' => ∃ v L', e = .returned v ∧ (∃ L3, J xs.length L3 ∧ L' = L3 ++ Lit) ∧ Holds w' L')
/-- An iterator's contract out of its body. -/
theorem It.of_body {gf : FuncId} {fn : Func} {c : Code} {lb : List Value} {Lit : List Chunk} {xs : List (List Value)} (hf : P.funcs[gf]? = some fn) (hb : fn.body = some c) (hle : Nat.ble (lb.length + 1) fn.ntmps = true)
    (h : ∀ (l : Nat) (J : Nat → List Chunk → Prop) (L0 : List Chunk), J 0 L0 → YdAll P l xs J → Wic P fn.ntmps none c (bodyPost P fn (fun e w' => ∃ v L', e = .returned v ∧ (∃ L3, J xs.length L3 ∧ L' = L3 ++ Lit) ∧ Holds w' L')) (params 0 (.func (.yield l) #[] #[] :: lb)) (L0 ++ Lit)) :
    It P gf lb.toArray Lit xs := ⟨fun l J L0 h0 hy w hw => by
  have e : #[Value.func (.yield l) #[] #[]] ++ lb.toArray = (Value.func (.yield l) #[] #[] :: lb).toArray := by simp
  rw [e]
  refine callsIn_of_wp hf hb trivial ((h l J L0 h0 hy).out _ w ⟨rfl, ?_, ?_⟩ hw)
  · have := Nat.le_of_ble_eq_true hle
    simp; omega
  · intro t v ht
    obtain ⟨_, h2⟩ := params_get (.func (.yield l) #[] #[] :: lb) 0 t v ht
    have h2' : (Value.func (.yield l) #[] #[] :: lb)[t]? = some v := by simpa using h2
    have hlt : t < (Value.func (.yield l) #[] #[] :: lb).length := by
      rcases Nat.lt_or_ge t (Value.func (.yield l) #[] #[] :: lb).length with h' | h'
      · exact h'
      · simp [List.getElem?_eq_none h'] at h2'
    rw [Array.getElem?_append_left (by simpa using hlt)]
    simpa using h2'⟩

/-- The parameters of a round. -/
def setM (zs : List (Nat × Value)) (M : List (Nat × Value)) : List (Nat × Value) := zs.foldl (fun M x => x :: M) M
theorem St.setp : ∀ {zs : List (Nat × Value)} {M : List (Nat × Value)} {tm : Array Value}, St n M ⟨tm, []⟩ → zs.all (fun z => Nat.blt z.1 n) = true → St n (setM zs M) ⟨zs.foldl (fun t x => t.setIfInBounds x.1 x.2) tm, []⟩
  | [], _, _, h, _ => h
  | z :: r, M, tm, h, hz => by
    simp only [List.all_cons, Bool.and_eq_true] at hz
    exact St.setp (zs := r) (M := z :: M) (tm := tm.setIfInBounds z.1 z.2) (h.put z.2 hz.1) hz.2

theorem Holds.putL {w : World} {l : Nat} {o o' : Obj} (h : Holds w ([(l, o)] :: L)) : Holds (w.putObj l o') ([(l, o')] :: L) := by
  have hb : w.heap[l]? = some o := Fnd.here.get h
  have hlt : l < w.heap.size := (Array.getElem?_eq_some_iff.1 hb).1
  exact h.upd .here (World.putObj_heap_same hlt) (fun c hc => World.putObj_heap_other hc) rfl rfl

theorem NL.body {fn : Func} {X : Value → List Chunk → World → Prop} : NL (bodyPost P fn (fun e w' => ∃ v L3, e = .returned v ∧ X v L3 w')) := ⟨fun a w h => by
  obtain ⟨v, L3, he, _⟩ := h
  cases he⟩
/-- No call of a function value out of a slot. -/
def noVal (o : Oper) : Bool := match o.op with | .call c => (match c.callee with | .value (.tmp _) => false | _ => true) | _ => true
theorem WI_regionV {id : Nat} {l : List Oper} (hv : l.all noVal = true) (hN : NL Q) (hd : l.all noDef = true) (h : WL P n l.toArray Q l M L) : Wic P n ro (.region id l.toArray false) Q M L := WI_region hN hd h
theorem Fnd.right {A B : List Chunk} {b : Nat} {o : Obj} (h : Fnd B b o) : Fnd (A ++ B) b o := by
  simp only [Fnd, List.flatten_append, List.mem_append] at *; exact .inr h
theorem Fnd.left {A B : List Chunk} {b : Nat} {o : Obj} (h : Fnd A b o) : Fnd (A ++ B) b o := by
  simp only [Fnd, List.flatten_append, List.mem_append] at *; exact .inl h
/-- What is asked at a round's end. -/
def RP (J : Nat → List Chunk → Prop) (k : Nat) (R : List Chunk) : Exit → Act → World → Prop := fun e _ w => e = .normal ∧ ∃ L3, J k L3 ∧ Holds w (L3 ++ R)
theorem RP_po {J : Nat → List Chunk → Prop} {k : Nat} {R : List Chunk} : PO (RP J k R) := ⟨fun c a d v w h => by cases h.1⟩
theorem RP_nl {J : Nat → List Chunk → Prop} {k : Nat} {R : List Chunk} : NL (RP J k R) := ⟨fun a w h => by cases h.1⟩
theorem WQ_RP {J : Nat → List Chunk → Prop} {k : Nat} {R : List Chunk} (L3 : List Chunk) (hJ : J k L3) (hL : ∀ w, Holds w L → Holds w (L3 ++ R)) : WQ n (RP J k R .normal) M L := ⟨fun a w _ hw => ⟨rfl, L3, hJ, hL w hw⟩⟩
/-- What is asked of the assignments at a round's beginning. -/
def AP (n : Nat) (MA : List (Nat × Value)) (L : List Chunk) : Exit → Act → World → Prop := Exit.then (fun a w => St n MA a ∧ Holds w L) (fun _ _ _ => False)
theorem AP_nl {MA : List (Nat × Value)} {L : List Chunk} : NL (AP n MA L) := ⟨fun a w h => h⟩
theorem WQ_AP {MA : List (Nat × Value)} {L1 : List Chunk} (hs : Sub MA M) (hL : ∀ w, Holds w L → Holds w L1) : WQ n (AP n MA L1 .normal) M L := ⟨fun a w ha hw => ⟨ha.sub hs, hL w hw⟩⟩

theorem WR_r {S : List Chunk} {ops : List Oper} {T : List Nat} {fuel : Nat} {listed : Array Bool} {d : Nat} {v : Value} (i : Nat) {o : Oper} (h : WR P n ops Q S T fuel (listed.setIfInBounds i true) ((d, v) :: M) L)
    (hi : ops[i]? = some o := by exact rfl) (hg : o.guard = none := by exact rfl) (hb : takeB ops T listed i = true := by kernel_rfl) (hPO : PO Q := by exact iP) (hinc : Inc S L := by exact iC) (he : EV P n o M S d v := by exact (by first | (show EV _ _ ⟨_, .move _, _, _, _, _⟩ _ _ _ _; first | exact EV_move rfl) | (show EV _ _ ⟨_, .assign _, _, _, _, _⟩ _ _ _ _; first | exact EV_assign rfl) | (show EV _ _ ⟨_, .nilCheck _, _, _, _, _⟩ _ _ _ _; first | exact EV_nilCheck rfl) | (show EV _ _ ⟨_, .fieldAddr .., _, _, _, _⟩ _ _ _ _; first | exact EV_fieldAddr0 rfl | exact EV_fieldAddr rfl) | (show EV _ _ ⟨_, .load .., _, _, _, _⟩ _ _ _ _; first | exact EV_loadc rfl (by repeat (first | assumption | exact Fnd.here | refine Fnd.there ?_)) rfl | exact EV_loadAggC rfl (by repeat (first | assumption | exact Fnd.here | refine Fnd.there ?_)) rfl) | (show EV _ _ ⟨_, .binOp .., _, _, _, _⟩ _ _ _ _; first | exact EV_cmp rfl rfl rfl | exact EV_ari64 rfl rfl rfl (by omega) | exact EV_shr rfl rfl (by decide) (shr_lit (by omega) (by simp [IntKind.bits]; rfl)) | exact EV_strEq rfl rfl | exact EV_strNe rfl rfl | exact EV_strLt rfl rfl | exact EV_sliceEqNil rfl rfl | exact EV_sliceNeNil rfl rfl | exact EV_ptrEqNil rfl rfl | exact EV_ptrNeNil rfl rfl | exact EV_boolEq rfl rfl | exact EV_boolNe rfl rfl) | (show EV _ _ ⟨_, .convert .., _, _, _, _⟩ _ _ _ _; first | exact EV_convII rfl (wrap_i64 (by omega) (by omega)) | exact EV_convII rfl (wrap_u64 (by omega) (by omega)) | exact EV_convII rfl rfl) | (show EV _ _ ⟨_, .extract .., _, _, _, _⟩ _ _ _ _; first | exact EV_extract rfl rfl) | (show EV _ _ ⟨_, .unOp .., _, _, _, _⟩ _ _ _ _; first | exact EV_not rfl) | (show EV _ _ ⟨_, .pick .., _, _, _, _⟩ _ _ _ _; first | exact EV_pick rfl rfl) | (show EV _ _ ⟨_, .call ⟨.builtin .len, _, _⟩, _, _, _, _⟩ _ _ _ _; first | exact EV_lenSl rfl | exact EV_lenStr rfl) | (show EV _ _ ⟨_, .call ⟨.builtin .cap, _, _⟩, _, _, _, _⟩ _ _ _ _; first | exact EV_capSl rfl) | (show EV _ _ ⟨_, .call ⟨.builtin .min, _, _⟩, _, _, _, _⟩ _ _ _ _; first | exact EV_min rfl rfl) | (show EV _ _ ⟨_, .call ⟨.builtin .max, _, _⟩, _, _, _, _⟩ _ _ _ _; first | exact EV_max rfl rfl) | (show EV _ _ ⟨_, .makeInterface .., _, _, _, _⟩ _ _ _ _; first | exact EV_makeInterface rfl) | (show EV _ _ ⟨_, .makeFunc .., _, _, _, _⟩ _ _ _ _; first | exact EV_makeFunc rfl rfl) | (show EV _ _ ⟨_, .typeAssert .., _, _, _, _⟩ _ _ _ _; first | exact EV_assertYes rfl | exact EV_assertNo rfl rfl) | (show EV _ _ ⟨_, .build .., _, _, _, _⟩ _ _ _ _; first | exact EV_build rfl (by simp [fillL, patch, Value.cells]; rfl)))) (hn : Nat.blt d n = true := by exact rfl) :
    WR P n ops Q S T (fuel + 1) listed M L := WR_take i hi hg hb hPO hinc he hn h
theorem WC_range {g : Operand} {ps : List Tmp} {assign body : Code} {gf : FuncId} {lb : Array Value} [hbd : BD P gf] (hx : ev M g = some (.func (.func gf) #[] lb)) {Lit : List Chunk} {xs : List (List Value)} (hit : It P gf lb Lit xs)
    (J : Nat → List Chunk → Prop) (L0 : List Chunk) (h0 : J 0 L0) (hL : ∀ w, Holds w L → Holds w (L0 ++ Lit)) (hps : ∀ k, k < xs.length → (xs.getD k []).length = ps.length) (hpn : ps.all (fun t => Nat.blt t n) = true)
    (MA : Nat → List Chunk → List (Nat × Value))
    (hassign : ∀ (l k : Nat) (L' R : List Chunk), k < xs.length → J k L' → Wic P n (some l) assign (AP n (MA k L') (L' ++ R)) (setM (ps.zip (xs.getD k [])) M) (L' ++ R))
    (hbody : ∀ (l k : Nat) (L' R : List Chunk), k < xs.length → J k L' → Wic P n (some l) body (RP J (k + 1) R) (MA k L') (L' ++ R))
    (hdone : ∀ (D : Nat) (a : Act) (w : World) (L3 : List Chunk), St n M { a with defers := [] } → a.defers = [⟨.collected D, #[]⟩] → J xs.length L3 → Holds w ([(D, .deferred (some []))] :: (L3 ++ Lit)) → Q .normal a w) :
    WC P n (.rangeFunc g ps.toArray assign body) Q M L := ⟨fun a w ha hw => by
  refine (wpIn_wide (n := 0)).1 (wpIn_rangeFunc fun fn _ => ?_)
  obtain ⟨rec, hrec⟩ : ∃ rec : LoopState → Loop, rec = fun st => { state := st, pending := none, fn, tmps := a.tmps, params := ps.toArray, assign, body, defers := w.heap.size } := ⟨_, rfl⟩
  obtain ⟨D, hD⟩ : ∃ D, D = w.heap.size := ⟨_, rfl⟩
  obtain ⟨l, hl⟩ : ∃ l, l = w.heap.size + 1 := ⟨_, rfl⟩
  have hW1 : Holds ((w.alloc (.deferred (some []))).alloc (.loop (rec .ready))) ([(l, .loop (rec .ready))] :: [(D, .deferred (some []))] :: (L0 ++ Lit)) := by
    have h1 := ((hL w hw).alloc (.deferred (some []))).alloc (.loop (rec .ready))
    rw [World.size_alloc, ← hl, ← hD] at h1
    exact h1
  obtain ⟨W1, hW1e⟩ : ∃ W1, W1 = (w.alloc (.deferred (some []))).alloc (.loop (rec .ready)) := ⟨_, rfl⟩
  rw [← hW1e] at hW1
  refine ⟨l, [{ target := .collected D, args := #[] }], W1, { target := .fn (.func gf) lb, args := #[.func (.yield l) #[] #[]] }, W1, gf, #[.func (.yield l) #[] #[]] ++ lb, W1, ?_, ?_, fun _ _ => trivial, ?_, fun hh => absurd (a := false = true) hh Bool.false_ne_true, ?_⟩
  · have := run_enterLoop_outer (P := P) (w := w) fn a.tmps ps.toArray assign body
    rw [hl, hD, hW1e, hrec]
    exact this
  · simp only [resolve, ha.eval hx]
    simp [Deferred.ofValue, Act.eval]
  · simp only [invoke]
    exact callFunc_run hbd.out _ _
  · obtain ⟨J', hJ'⟩ : ∃ J' : Nat → List Chunk → Prop, ∀ k L'', J' k L'' ↔ ∃ L', J k L' ∧ L'' = [(l, .loop (rec .ready))] :: [(D, .deferred (some []))] :: L' := ⟨fun k L'' => ∃ L', J k L' ∧ L'' = [(l, .loop (rec .ready))] :: [(D, .deferred (some []))] :: L', fun _ _ => Iff.rfl⟩
    have hyd : YdAll P l xs J' := by
      intro R k L'' hk hj
      obtain ⟨L', hj0, rfl⟩ := (hJ' k L'').1 hj
      refine ⟨fun w1 hw1 => ?_⟩
      have hrl : w1.heap[l]? = some (.loop (rec .ready)) := Fnd.here.get hw1
      have hy := run_yield (P := P) (args := (xs.getD k []).toArray) hrl (by rw [hrec]; simpa using hps k hk)
      rw [hrec] at hy
      refine ⟨fn, _, assign, body, hy, roundIn_of_wpIn trivial ?_⟩
      have hperm : ∀ (A B : Chunk), (A :: B :: (L' ++ R)).Perm (L' ++ (A :: B :: R)) := fun A B => by
        refine ((List.perm_middle (l₁ := L') (a := A) (l₂ := B :: R)).trans (.cons A ?_)).symm
        exact List.perm_middle
      have hst : St n (setM (ps.zip (xs.getD k [])) M) ⟨(ps.zip (xs.getD k [])).foldl (fun t x => t.setIfInBounds x.1 x.2) a.tmps, []⟩ := by
        refine St.setp ⟨rfl, ha.size, ha.get⟩ ?_
        rw [List.all_eq_true]
        intro z hz
        exact (List.all_eq_true.1 hpn) z.1 (List.of_mem_zip hz).1
      have ha1 := (hassign l k L' ([(l, .loop (rec .ready))] :: [(D, .deferred (some []))] :: R) hk hj0).out _ w1 hst (hw1.perm (hperm _ _))
      have etm : (ps.toArray.zip (xs.getD k []).toArray).foldl (fun tmps (x : Tmp × Value) => tmps.setIfInBounds x.1 x.2) a.tmps = (ps.zip (xs.getD k [])).foldl (fun t x => t.setIfInBounds x.1 x.2) a.tmps := by simp
      show Code.wpIn (Fence.wide.inRound l) 0 P assign _ { tmps := (ps.toArray.zip (xs.getD k []).toArray).foldl (fun tmps (x : Tmp × Value) => tmps.setIfInBounds x.1 x.2) a.tmps, defers := [] } w1
      rw [etm]
      refine wpIn_mono (F := Fr (some l)) ha1 ?_
      rintro e a2 w2 h2
      cases e with
      | normal =>
        obtain ⟨hs2, hw2⟩ := h2
        have hw2' := hw2.perm (hperm _ _).symm
        have hrl2 : w2.heap[l]? = some (.loop (rec .ready)) := Fnd.here.get hw2'
        have hw3 := hw2'.putL (o' := .loop { rec .ready with state := .busy })
        refine ⟨_, run_beginRound hrl2 (by rw [hrec]), ?_⟩
        have hb1 := (hbody l k L' ([(l, .loop { rec .ready with state := .busy })] :: [(D, .deferred (some []))] :: R) hk hj0).out a2 _ hs2 (hw3.perm (hperm _ _))
        refine wpIn_mono (F := Fr (some l)) hb1 ?_
        rintro e a3 w4 ⟨rfl, L3, hj3, hw4⟩
        have hperm3 : ([(l, .loop { rec .ready with state := .busy })] :: [(D, .deferred (some []))] :: (L3 ++ R)).Perm (L3 ++ ([(l, .loop { rec .ready with state := .busy })] :: [(D, .deferred (some []))] :: R)) := by
          refine ((List.perm_middle (l₁ := L3)).trans (.cons _ ?_)).symm
          exact List.perm_middle
        have hw4' := hw4.perm hperm3.symm
        have hrl4 : w4.heap[l]? = some (.loop { rec .ready with state := .busy }) := Fnd.here.get hw4'
        refine ⟨_, _, run_endRound none hrl4, ?_⟩
        refine ⟨rfl, _, ⟨_, (hJ' (k + 1) _).2 ⟨L3, hj3, rfl⟩, rfl⟩, ?_⟩
        have hw5 := hw4'.putL (o' := .loop (rec .ready))
        have er : (Obj.loop { { rec .ready with state := .busy } with state := if (none : Option Code).isNone then .ready else .done, pending := none }) = .loop (rec .ready) := by rw [hrec]; rfl
        rw [er]
        exact hw5
      | exit id => exact h2.elim
      | goto t => exact h2.elim
      | ret => exact h2.elim
      | panic c => exact h2.elim
      | outgrown => exact h2.elim
    have hW1' : Holds W1 (([(l, .loop (rec .ready))] :: [(D, .deferred (some []))] :: L0) ++ Lit) := hW1
    have hcall := hit.out l J' _ ((hJ' 0 _).2 ⟨L0, h0, rfl⟩) hyd _ hW1'
    refine CallsIn.mono hcall ?_
    rintro e w3 ⟨v, L3', rfl, ⟨L3, hj3, rfl⟩, hw3⟩
    obtain ⟨L4, hj4, rfl⟩ := (hJ' _ _).1 hj3
    have hrl3 : w3.heap[l]? = some (.loop (rec .ready)) := Fnd.here.get hw3
    have hpn : (rec .ready).pending = none := by rw [hrec]
    have hend : (Instr.endLoop l).run P w3 = .ok none (w3.putObj l (.loop { rec .ready with state := .exhausted })) :=
      (run_endLoop (P := P) hrl3 (by rw [hrec]; intro h; cases h)).trans (by simp [hpn])
    refine ⟨none, w3.putObj l (.loop { rec .ready with state := .exhausted }), hend, ?_⟩
    have hw5 : Holds (w3.putObj l (.loop { rec .ready with state := .exhausted })) ([(l, .loop { rec .ready with state := .exhausted })] :: [(D, .deferred (some []))] :: (L4 ++ Lit)) := hw3.putL
    refine hdone D _ _ L4 ⟨rfl, ha.size, ha.get⟩ ?_ hj4 hw5.drop
    show [_] ++ a.defers = _
    rw [ha.defers]
    rfl⟩

/-- Where the activation has a loop's mark. -/
structure Wmc (P : Program) (n D : Nat) (c : Code) (Q : Exit → Act → World → Prop) (M : List (Nat × Value)) (L : List Chunk) : Prop where
  out : ∀ a w, St n M { a with defers := [] } → a.defers = [⟨.collected D, #[]⟩] → Holds w L → c.wp P Q a w
structure Wnc (P : Program) (n D : Nat) (ops : Array Oper) (Q : Exit → Act → World → Prop) (rest : List Oper) (M : List (Nat × Value)) (L : List Chunk) : Prop where
  out : ∀ a w, St n M { a with defers := [] } → a.defers = [⟨.collected D, #[]⟩] → Holds w L → wpList P ops Q rest a w
structure Wpc (n D : Nat) (q : Act → World → Prop) (M : List (Nat × Value)) (L : List Chunk) : Prop where
  out : ∀ a w, St n M { a with defers := [] } → a.defers = [⟨.collected D, #[]⟩] → Holds w L → q a w
theorem WM_seq {D : Nat} {x y : Code} (h : Wmc P n D x (Exit.then (y.wp P Q) Q) M L) : Wmc P n D (.seq x y) Q M L := ⟨fun a w ha hd hw => wp_seq (h.out a w ha hd hw)⟩
theorem WM_ret {D : Nat} (h : Wpc n D (Q .ret) M L) : Wmc P n D .ret Q M L := ⟨fun a w ha hd hw => wp_ret (h.out a w ha hd hw)⟩
theorem WM_region {D : Nat} {id : Nat} {l : List Oper} (h : Wnc P n D l.toArray Q l M L) : Wmc P n D (.region id l.toArray false) Q M L := ⟨fun a w ha hd hw => wp_region_lit (h.out a w ha hd hw)⟩
theorem WN_nil {D : Nat} {ops : Array Oper} (h : Wpc n D (Q .normal) M L) : Wnc P n D ops Q [] M L := ⟨fun a w ha hd hw => wpList_nil (h.out a w ha hd hw)⟩
theorem WN_ev {D : Nat} {ops : Array Oper} {rest : List Oper} {o : Oper} {d : Nat} {v : Value} (hg : o.guard = none) (he : EV P n o M L d v) (hn : Nat.blt d n = true) (h : Wnc P n D ops Q rest ((d, v) :: M) L) : Wnc P n D ops Q (o :: rest) M L := ⟨fun a w ha hd hw => by
  unfold wpList
  rw [if_pos (by simp [Region.wanted, hg])]
  refine .inl ?_
  unfold Oper.wp
  have hr := he.run { a with defers := [] } w ha hw
  have hae : ({ a with defers := [] } : Act).eval = a.eval := by funext x; cases x <;> rfl
  rw [hae] at hr
  rw [hr, Oper.upon_value, he.dst]
  refine h.out _ w (ha.put v hn) ?_ hw
  exact hd⟩
theorem WP_code {D : Nat} {c : Code} {K : Act → World → Prop} (hK : K = c.wp P Q) (h : Wmc P n D c Q M L) : Wpc n D K M L := by subst hK; exact ⟨h.out⟩
/-- The end of a function that has gone through a loop over an iterator. -/
theorem WP_end {D : Nat} {fn : Func} {post : Value → List Chunk → Prop} {rs : List ResultVar} {vs : List Value} {e : Exit} (he : e = .ret ∨ e = .normal) (hr : fn.results = rs.toArray) (h : resT M rs = some vs) {L1 : List Chunk} (hL : ∀ w, Holds w L → Holds w ([(D, .deferred (some []))] :: L1)) (hp : post (tupled vs) L1) :
    Wpc n D (bodyPostM Fence.wide 0 P fn (fun e w' => ∃ v L', e = .returned v ∧ post v L' ∧ Holds w' L') e) M L := ⟨fun a w ha hd hw => by
  have key : LeavesInM Fence.wide 0 P fn a.tmps (fun e w' => ∃ v L', e = .returned v ∧ post v L' ∧ Holds w' L') a.defers .returning w := by
    rw [hd]
    have hw2 := hL w hw
    have hk : w.heap[D]? = some (.deferred (some [])) := Fnd.here.get hw2
    have hw3 : Holds (w.putObj D (.deferred none)) ([(D, .deferred none)] :: L1) := hw2.putL
    refine ⟨by simp, .inl ⟨D, _, rfl, run_takeDeferred hk, ?_⟩⟩
    exact ⟨tupled vs, results_run (a := { a with defers := [] }) ha hr h, tupled vs, L1, rfl, hp, hw3.drop⟩
  rcases he with rfl | rfl <;> exact key⟩
theorem Gv.of_bodyM {f : FuncId} {fn : Func} {c : Code} {args : List Value} {post : Value → List Chunk → Prop} (hf : P.funcs[f]? = some fn) (hb : fn.body = some c) (hle : Nat.ble args.length fn.ntmps = true)
    (h : WC P fn.ntmps c (bodyPostM Fence.wide 0 P fn (fun e w' => ∃ v L', e = .returned v ∧ post v L' ∧ Holds w' L')) (params 0 args) L) : Gv P f args.toArray L post := ⟨fun w hw => by
  refine (callsIn_wide (n := 0)).1 (callsIn_of_wp_marks hf hb trivial ((wpIn_wide (n := 0)).2 (h.out _ w ⟨rfl, ?_, ?_⟩ hw)))
  · have := Nat.le_of_ble_eq_true hle
    simp; omega
  · intro t v ht
    obtain ⟨_, h2⟩ := params_get args 0 t v ht
    have h2' : args[t]? = some v := by simpa using h2
    have hlt : t < args.length := by
      rcases Nat.lt_or_ge t args.length with h' | h'
      · exact h'
      · simp [List.getElem?_eq_none h'] at h2'
    rw [Array.getElem?_append_left (by simpa using hlt)]
    simpa using h2'⟩
/- The rules of a walk in a round. -/
theorem kTi {c : Operand} {x y : Code} {t : Bool} {p : Prop} (ht : p → Wic P n ro x Q M L) (hc : ev M c = some (.bool t) := by exact rfl) (hn : t = false → False := by (intro hc; (try simp only [nrB] at hc); first | omega | exact hc trivial | exact hc rfl)) (hp : t = true → p := by (intro hc; (try simp only [nrB] at hc); exact hc)) : Wic P n ro (.cond c x y) Q M L :=
  WI_cond hc (fun h => ht (hp h)) (fun h => (hn h).elim)
theorem kFi {c : Operand} {x y : Code} {t : Bool} {p : Prop} (hf : p → Wic P n ro y Q M L) (hc : ev M c = some (.bool t) := by exact rfl) (hn : t = true → False := by (intro hc; (try simp only [nrB] at hc); first | omega | exact hc trivial | exact hc rfl)) (hp : t = false → p := by (intro hc; (try simp only [nrB] at hc); exact hc)) : Wic P n ro (.cond c x y) Q M L :=
  WI_cond hc (fun h => (hn h).elim) (fun h => hf (hp h))
theorem kQi {c : Operand} {x y : Code} {t : Bool} {p q : Prop} (ht : p → Wic P n ro x Q M L) (hf : q → Wic P n ro y Q M L) (hc : ev M c = some (.bool t) := by exact rfl) (hp : t = true → p := by (intro hc; (try simp only [nrB] at hc); exact hc)) (hq : t = false → q := by (intro hc; (try simp only [nrB] at hc); exact hc)) : Wic P n ro (.cond c x y) Q M L :=
  WI_cond hc (fun h => ht (hp h)) (fun h => hf (hq h))
theorem kI {p q : Prop} (h : q) (s : Wr q → p := by (intro h9; (first | (show WL _ _ _ _ _ _ _; first | refine jA ?_ | refine jB ?_ | refine jC ?_ | refine jD ?_ | refine jE ?_ | refine jF ?_) | (show OW _ _ _ _ _ _; first | refine OW_E ?_ | refine jI ?_ | refine jJ ?_) | (show Wic _ _ _ _ _ _ _; first | refine WI_seq ?_ | refine WI_regionV rfl (by repeat (first | with_reducible exact NL.body | with_reducible exact RP_nl | with_reducible exact AP_nl | with_reducible refine NL.then ?_ | with_reducible refine NL.block ?_)) rfl ?_ | refine WI_true rfl ?_ | refine WI_false rfl ?_ | refine WI_skip ?_ | refine WI_ret ?_ | refine WI_exit ?_ | refine WI_block ?_) | (show WQ _ _ _ _; with_reducible first | refine jV ?_ | refine WQ_codeI ?_ | refine jX ?_ | refine jY ?_ | refine jZ ?_ | refine kA ?_ | refine kB ?_ | refine kC ?_)); (repeat (first | (show WL _ _ _ _ _ _ _; first | refine jA ?_ | refine jB ?_ | refine jC ?_ | refine jD ?_ | refine jE ?_ | refine jF ?_) | (show OW _ _ _ _ _ _; first | refine OW_E ?_ | refine jI ?_ | refine jJ ?_) | (show Wic _ _ _ _ _ _ _; first | refine WI_seq ?_ | refine WI_regionV rfl (by repeat (first | with_reducible exact NL.body | with_reducible exact RP_nl | with_reducible exact AP_nl | with_reducible refine NL.then ?_ | with_reducible refine NL.block ?_)) rfl ?_ | refine WI_true rfl ?_ | refine WI_false rfl ?_ | refine WI_skip ?_ | refine WI_ret ?_ | refine WI_exit ?_ | refine WI_block ?_) | (show WQ _ _ _ _; with_reducible first | refine jV ?_ | refine WQ_codeI ?_ | refine jX ?_ | refine jY ?_ | refine jZ ?_ | refine kA ?_ | refine kB ?_ | refine kC ?_))); exact h9.out)) : p := s ⟨h⟩
theorem kJ {p A g : Prop} (h : p → A) (s : Wr (p → A) → g := by (intro h9; first | ((show Wic _ _ _ _ _ _ _); first | exact kTi h9.out | exact kFi h9.out) | ((show WL _ _ _ _ _ _ _); first | (refine jG (fun hc => ?_) (fun hc => ?_); (focus (rw [hc]; have h8 := hc; (try simp only [nrB] at h8); exact h9.out h8)); (exfalso; (try simp only [nrB] at hc); first | done | omega)) | (refine jG (fun hc => ?_) (fun hc => ?_); rotate_left; (focus (rw [hc]; have h8 := hc; (try simp only [nrB] at h8); exact h9.out h8)); (exfalso; (try simp only [nrB] at hc); first | done | omega))))) : g := s ⟨h⟩
theorem kK {p q A B g : Prop} (ht : p → A) (hf : q → B) (s : Wr ((p → A) ∧ (q → B)) → g := by (intro h9; first | ((show Wic _ _ _ _ _ _ _); exact kQi h9.out.1 h9.out.2) | ((show WL _ _ _ _ _ _ _); (refine jG (fun hc => ?_) (fun hc => ?_); (focus (rw [hc]; have h8 := hc; (try simp only [nrB] at h8); exact h9.out.1 h8)); (rw [hc]; have h8 := hc; (try simp only [nrB] at h8); exact h9.out.2 h8))))) : g := s ⟨ht, hf⟩
theorem kL {p q : Prop} (h : q) (s : Wr q → p := by (intro h9; (first | (show Wjc _ _ _ _ _ _ _ _; first | refine WJ_op rfl rfl ?_ | refine WJ_nil ?_) | (show OW _ _ _ _ _ _; first | refine OW_E ?_ | refine jI ?_ | refine jJ ?_) | (show Wic _ _ _ _ _ _ _; first | refine WI_seq ?_ | refine WI_regionV rfl (by repeat (first | with_reducible exact NL.body | with_reducible exact RP_nl | with_reducible exact AP_nl | with_reducible refine NL.then ?_ | with_reducible refine NL.block ?_)) rfl ?_ | refine WI_true rfl ?_ | refine WI_false rfl ?_ | refine WI_skip ?_ | refine WI_ret ?_ | refine WI_exit ?_ | refine WI_block ?_) | (show WQ _ _ _ _; with_reducible first | refine jV ?_ | refine WQ_codeI ?_ | refine jX ?_ | refine jY ?_ | refine jZ ?_ | refine kA ?_ | refine kB ?_ | refine kC ?_)); (repeat (first | (show Wjc _ _ _ _ _ _ _ _; first | refine WJ_op rfl rfl ?_ | refine WJ_nil ?_) | (show OW _ _ _ _ _ _; first | refine OW_E ?_ | refine jI ?_ | refine jJ ?_) | (show Wic _ _ _ _ _ _ _; first | refine WI_seq ?_ | refine WI_regionV rfl (by repeat (first | with_reducible exact NL.body | with_reducible exact RP_nl | with_reducible exact AP_nl | with_reducible refine NL.then ?_ | with_reducible refine NL.block ?_)) rfl ?_ | refine WI_true rfl ?_ | refine WI_false rfl ?_ | refine WI_skip ?_ | refine WI_ret ?_ | refine WI_exit ?_ | refine WI_block ?_) | (show WQ _ _ _ _; with_reducible first | refine jV ?_ | refine WQ_codeI ?_ | refine jX ?_ | refine jY ?_ | refine jZ ?_ | refine kA ?_ | refine kB ?_ | refine kC ?_))); exact h9.out)) : p := s ⟨h⟩
end
end Go.Vx
