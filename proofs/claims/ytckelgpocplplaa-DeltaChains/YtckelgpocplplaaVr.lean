/- The layer's part on statements whose order Go leaves open: what only reads may be taken first. It proves no statement by itself. No conditions. -/
import Derived.Test.YtckelgpocplplaaVy
import Derived.OrdersHeld
namespace Go.Vx
open Go
set_option linter.all false
variable [W0]

section
variable {P : Program} {ops : Array Oper} {Q : Exit → Act → World → Prop} {md : Region.Mode} {S : World → Prop} {T : List Nat}

omit [W0] in
/-- Whatever order is picked from here on, and S holds behind every operation that is not on the list T. -/
def wpAnyT (P : Program) (md : Region.Mode) (ops : Array Oper) (Q : Exit → Act → World → Prop) (S : World → Prop) (T : List Nat) : Nat → Array Bool → Act → World → Prop
  | 0, listed, a, w => Region.ready md ops listed = [] ∧ Q .normal a w
  | fuel + 1, listed, a, w =>
    (Region.ready md ops listed = [] → Q .normal a w) ∧
    ∀ i ∈ Region.ready md ops listed, wpOp P ops Q i (fun a' w' => (i ∉ T → S w') ∧ wpAnyT P md ops Q S T fuel (listed.setIfInBounds i true) a' w') a w

theorem wpAny_of_T : ∀ (fuel : Nat) (listed : Array Bool) (a : Act) (w : World), wpAnyT P md ops Q S T fuel listed a w → wpAny P md ops Q fuel listed a w
  | 0, _, _, _, h => h
  | fuel + 1, _, _, _, h => ⟨h.1, fun i hi => wpOp_mono (fun a' w' h' => wpAny_of_T fuel _ a' w' h'.2) (h.2 i hi)⟩

omit [W0] in
/-- i waits for nothing that j does not wait for: i must have come up before j may. -/
def ancB (md : Region.Mode) (ops : Array Oper) (i : Nat) : Nat → Nat → Bool
  | 0, _ => false
  | f + 1, j => match ops[j]? with
    | some o => (o.after.any fun e => Region.binds md e && e.on == i) || o.after.any fun e => Region.binds md e && ancB md ops i f e.on
    | none => false
omit [W0] in
/-- What has come up waited for what has come up. -/
def DC (md : Region.Mode) (ops : Array Oper) (listed : Array Bool) : Prop :=
  ∀ k o, ops[k]? = some o → listed.getD k false = true → ∀ e ∈ o.after, Region.binds md e = true → listed.getD e.on false = true
omit [W0] in
def dcB (md : Region.Mode) (ops : Array Oper) (listed : Array Bool) : Bool :=
  (List.range ops.size).all fun k => !listed.getD k false || match ops[k]? with
    | some o => o.after.all fun e => !Region.binds md e || listed.getD e.on false
    | none => true
theorem DC.of {listed : Array Bool} (h : dcB md ops listed = true) : DC md ops listed := by
  intro k o hk hl e he hb
  simp only [dcB, List.all_eq_true, List.mem_range] at h
  have h1 := h k (Array.getElem?_eq_some_iff.1 hk).1
  rw [hl, hk] at h1
  simp only [Bool.not_true, Bool.false_or] at h1
  have h2 := Array.all_eq_true_iff_forall_mem.1 h1 e he
  simpa [hb] using h2
theorem ancB_spec {i : Nat} {listed : Array Bool} (hd : DC md ops listed) : ∀ (f j : Nat) (o : Oper), ancB md ops i f j = true → ops[j]? = some o →
    (∀ e ∈ o.after, Region.binds md e = true → listed.getD e.on false = true) → listed.getD i false = true := by
  intro f
  induction f with
  | zero => intro j o h; simp [ancB] at h
  | succ f ih =>
    intro j o h hj hall
    simp only [ancB, hj, Bool.or_eq_true] at h
    rcases h with h | h
    · rw [← Array.any_toList, List.any_eq_true] at h
      obtain ⟨e, he, hh⟩ := h
      rw [Array.mem_toList_iff] at he
      simp only [Bool.and_eq_true, beq_iff_eq] at hh
      rw [← hh.2]
      exact hall e he hh.1
    · rw [← Array.any_toList, List.any_eq_true] at h
      obtain ⟨e, he, hh⟩ := h
      rw [Array.mem_toList_iff] at he
      simp only [Bool.and_eq_true] at hh
      obtain ⟨hb, h2⟩ := hh
      have hl := hall e he hb
      cases hk : ops[e.on]? with
      | none => cases f <;> simp [ancB, hk] at h2
      | some o' => exact ih e.on o' h2 hk (hd e.on o' hk hl)
theorem DC.set {listed : Array Bool} {j : Nat} (hd : DC md ops listed) (hj : j ∈ Region.ready md ops listed) : DC md ops (listed.setIfInBounds j true) := by
  intro k o hk hl e he hb
  obtain ⟨_, oj, hoj, hall⟩ := mem_ready.1 hj
  by_cases hjk : j = k
  · subst hjk
    rw [hoj] at hk
    cases hk
    exact getD_set_true (hall e he hb)
  · rw [getD_set_ne false hjk] at hl
    exact getD_set_true (hd k o hk hl e he hb)

theorem listed_both {i : Nat} {listed : Array Bool} (h0 : listed.getD i true = false) (h1 : listed.getD i false = true) : False := by
  rcases Nat.lt_or_ge i listed.size with h' | h'
  · simp [h'] at h0 h1; rw [h0] at h1; cases h1
  · simp [Array.getElem?_eq_none h'] at h1

theorem wpAnyT_first {i : Nat} {oi : Oper} {v : Value} (hi : ops[i]? = some oi) (hsel : ∀ (j : Nat) (o : Oper) cs b, ops[j]? = some o → o.op ≠ .select cs b)
    (hQ : ∀ c a w, Q (.panic c) (a.put oi.dst v) w → Q (.panic c) a w) (hT : ∀ j ∈ T, j ≠ i → ∃ f, ancB md ops i f j = true) :
    ∀ (fuel : Nat) (listed : Array Bool) (a : Act) (w : World),
      (∀ j oj, ops[j]? = some oj → j ≠ i → listed.getD j true = false → (∀ e ∈ oj.after, Region.binds md e = true → e.on ≠ i) → oi.apart ops oj = true) → DC md ops listed →
      i ∈ Region.ready md ops listed → YieldsIf P ops S oi v a → S w →
      wpAnyT P md ops Q S T fuel (listed.setIfInBounds i true) (a.put oi.dst v) w → wpAnyT P md ops Q S T (fuel + 1) listed a w := by
  intro fuel
  induction fuel with
  | zero =>
    intro listed a w _ _ hr hy hS H
    refine ⟨fun h => (by rw [h] at hr; cases hr), fun j hj => ?_⟩
    by_cases hji : j = i
    · subst hji; exact hy.wpOp hi hS ⟨fun _ => hS, H⟩
    · have := ready_mono hj hji
      rw [H.1] at this
      cases this
  | succ fuel ih =>
    intro listed a w hfree hdc hr hy hS H
    refine ⟨fun h => (by rw [h] at hr; cases hr), fun j hj => ?_⟩
    by_cases hji : j = i
    · subst hji; exact hy.wpOp hi hS ⟨fun _ => hS, H⟩
    · have h1 := H.2 j (ready_mono hj hji)
      obtain ⟨hjun, oj, hoj, hall⟩ := mem_ready.1 hj
      have hun := (mem_ready.1 hr).1
      have hnot : ∀ e ∈ oj.after, Region.binds md e = true → e.on ≠ i := fun e he hb heq => by
        have h1 := hall e he hb
        rw [heq] at h1
        exact listed_both hun h1
      have hnT : j ∉ T := fun hm => by
        obtain ⟨f, hf⟩ := hT j hm hji
        exact listed_both hun (ancB_spec hdc f j oj hf hoj hall)
      have h2 := wpOp_putIf hoj (hfree j oj hoj hji hjun hnot) (fun cs b => hsel i oi cs b hi) (fun cs b => hsel j oj cs b hoj) hQ hy h1
      have hfree' : ∀ k ok, ops[k]? = some ok → k ≠ i → (listed.setIfInBounds j true).getD k true = false →
          (∀ e ∈ ok.after, Region.binds md e = true → e.on ≠ i) → oi.apart ops ok = true := fun k ok hk hki hun hno => by
        refine hfree k ok hk hki ?_ hno
        by_cases hjk : j = k
        · subst hjk; exact hjun
        · rw [getD_set_ne true hjk] at hun; exact hun
      refine wpOp_mono (fun a' w' h3 => ⟨fun _ => h3.2.1 hnT, ih (listed.setIfInBounds j true) a' w' hfree' (hdc.set hj) (ready_mono hr (Ne.symm hji)) h3.1 (h3.2.1 hnT) ?_⟩) h2
      rw [Array.setIfInBounds_comm _ _ hji]
      exact h3.2.2
end

omit [W0] in
/-- Where a panic ends, the slots do not matter. -/
structure PO (Q : Exit → Act → World → Prop) : Prop where
  out : ∀ c (a : Act) d v w, Q (.panic c) (a.put d v) w → Q (.panic c) a w
theorem PO.then {Q : Exit → Act → World → Prop} {K : Act → World → Prop} (h : PO Q) : PO (Exit.then K Q) := ⟨h.out⟩
theorem PO.block {Q : Exit → Act → World → Prop} {i : Nat} (h : PO Q) : PO (Exit.inBlock i Q) := ⟨h.out⟩
theorem put_defers' {a : Act} {d : Option Tmp} {v : Value} : (a.put d v).defers = a.defers := by cases d <;> rfl
theorem PO.body {P : Program} {fn : Func} {R : Ending → World → Prop} : PO (bodyPost P fn R) := ⟨fun c a d v w h => by
  obtain ⟨h1, h2⟩ := h
  exact ⟨by rw [put_defers'] at h1; exact h1, h2⟩⟩

omit [W0] in
/-- All chunks of the first list are among the second's. -/
structure Inc (S L : List Chunk) : Prop where
  out : ∃ R, L.Perm (S ++ R)
theorem Inc.nil {L : List Chunk} : Inc [] L := ⟨L, .refl _⟩
theorem Inc.cons {C : Chunk} {S L L' : List Chunk} (ht : Take C L L') (h : Inc S L') : Inc (C :: S) L := by
  obtain ⟨R, hR⟩ := h.out
  exact ⟨R, ht.perm.trans (hR.cons C)⟩
theorem Inc.skip {C : Chunk} {S L : List Chunk} (h : Inc S L) : Inc S (C :: L) := by
  obtain ⟨R, hR⟩ := h.out
  exact ⟨C :: R, (hR.cons C).trans List.perm_middle.symm⟩
theorem Inc.refl {L : List Chunk} : Inc L L := ⟨[], by simp⟩
theorem Holds.front {w : World} {S R : List Chunk} (h : Holds w (S ++ R)) : Holds w S := by
  refine ⟨?_, fun x hx => h.2.1 x (by simp only [List.flatten_append, List.mem_append]; exact .inl hx), h.2.2⟩
  have := h.1
  simp only [List.flatten_append, List.map_append, List.nodup_append] at this
  exact this.1
theorem Inc.holds {S L : List Chunk} (h : Inc S L) {w : World} (hw : Holds w L) : Holds w S := by
  obtain ⟨R, hR⟩ := h.out
  exact (hw.perm hR).front

/-- What a region still owes whose order is open. -/
structure WR (P : Program) (n : Nat) (ops : List Oper) (Q : Exit → Act → World → Prop) (S : List Chunk) (T : List Nat) (fuel : Nat) (listed : Array Bool) (M : List (Nat × Value)) (L : List Chunk) : Prop where
  out : ∀ a w, St n M a → Holds w L → wpAnyT P .any ops.toArray Q (fun w => Holds w S) T fuel listed a w
/-- The same, and that the held chunks are there. -/
structure WRk (P : Program) (n : Nat) (ops : List Oper) (Q : Exit → Act → World → Prop) (S : List Chunk) (T : List Nat) (fuel : Nat) (listed : Array Bool) (M : List (Nat × Value)) (L : List Chunk) : Prop where
  inc : Inc S L
  out : WR P n ops Q S T fuel listed M L

section
variable {P : Program} {n : Nat} {Q : Exit → Act → World → Prop} {M : List (Nat × Value)} {L S : List Chunk} {ops : List Oper} {T : List Nat} {fuel : Nat} {listed : Array Bool}

theorem WC_draw (S : List Chunk) (T : List Nat) {id : Nat} (hm : P.follows .mixedOrders = true) (h : WR P n ops Q S T ops.length (Array.replicate ops.length false) M L) : WC P n (.region id ops.toArray true) Q M L := ⟨fun a w ha hw => by
  refine wp_region_any hm (wpAny_of_T (S := fun w => Holds w S) (T := T) _ _ _ _ ?_)
  have := h.out a { w with drawn := w.drawn + 1 } ha (hw.same rfl rfl rfl)
  simpa using this⟩

theorem WC_drawAll (T : List Nat) {id : Nat} (hm : P.follows .mixedOrders = true) (h : WR P n ops Q L T ops.length (Array.replicate ops.length false) M L) : WC P n (.region id ops.toArray true) Q M L := WC_draw L T hm h

theorem WR_done (hr : Region.ready .any ops.toArray listed = []) (h : WQ n (Q .normal) M L) : WR P n ops Q S T fuel listed M L := ⟨fun a w ha hw => by
  cases fuel with
  | zero => exact ⟨hr, h.out a w ha hw⟩
  | succ f => exact ⟨fun _ => h.out a w ha hw, by rw [hr]; simp⟩⟩

omit [W0] in
/-- The ground for taking number i first. -/
def takeB (ops : List Oper) (T : List Nat) (listed : Array Bool) (i : Nat) : Bool :=
  Region.noSelect ops.toArray && Region.free .any ops.toArray listed i && (Region.ready .any ops.toArray listed).contains i && dcB .any ops.toArray listed
    && T.all fun j => j == i || ancB .any ops.toArray i ops.length j

theorem WR_first {i d : Nat} {o : Oper} {v : Value} (hi : ops[i]? = some o) (hd : o.dst = some d) (hb : takeB ops T listed i = true) (hPO : PO Q) (hinc : Inc S L) (hn : Nat.blt d n = true)
    (hy : ∀ a, St n M a → YieldsIf P ops.toArray (fun w => Holds w S) o v a)
    (h : WR P n ops Q S T fuel (listed.setIfInBounds i true) ((d, v) :: M) L) : WR P n ops Q S T (fuel + 1) listed M L := ⟨fun a w ha hw => by
  simp only [takeB, Bool.and_eq_true, List.all_eq_true, Bool.or_eq_true, beq_iff_eq] at hb
  obtain ⟨⟨⟨⟨h1, h2⟩, h3⟩, h4⟩, h5⟩ := hb
  have hi' : ops.toArray[i]? = some o := by simpa using hi
  refine wpAnyT_first hi' (Region.noSelect_spec h1) (fun c a w hq => hPO.out c a _ _ w hq) (fun j hj hne => ⟨ops.length, (h5 j hj).resolve_left hne⟩) fuel listed a w (Region.free_spec hi' h2) (DC.of h4) (by simpa using h3) (hy a ha) (hinc.holds hw) ?_
  rw [hd]
  exact h.out _ w (ha.put v hn) hw⟩

theorem WR_take (i : Nat) {d : Nat} {o : Oper} {v : Value} (hi : ops[i]? = some o) (hg : o.guard = none) (hb : takeB ops T listed i = true) (hPO : PO Q) (hinc : Inc S L) (he : EV P n o M S d v) (hn : Nat.blt d n = true)
    (h : WR P n ops Q S T fuel (listed.setIfInBounds i true) ((d, v) :: M) L) : WR P n ops Q S T (fuel + 1) listed M L :=
  WR_first hi he.dst hb hPO hinc hn (fun a ha => .inl ⟨by simp [Region.wanted, hg], fun w hw => he.run a w ha hw⟩) h
theorem WR_takeOn (i : Nat) {d j : Nat} {b : Bool} {o : Oper} {v : Value} (hi : ops[i]? = some o) (hg : o.guard = some (j, b)) (hy : yl ops M j = some (.bool b)) (hb : takeB ops T listed i = true) (hPO : PO Q) (hinc : Inc S L) (he : EV P n o M S d v) (hn : Nat.blt d n = true)
    (h : WR P n ops Q S T fuel (listed.setIfInBounds i true) ((d, v) :: M) L) : WR P n ops Q S T (fuel + 1) listed M L :=
  WR_first hi he.dst hb hPO hinc hn (fun a ha => .inl ⟨by simp [Region.wanted, hg, yielded_of ha hy], fun w hw => he.run a w ha hw⟩) h
theorem WR_takeOff (i : Nat) {d j : Nat} {b : Bool} {o : Oper} (hi : ops[i]? = some o) (hg : o.guard = some (j, b)) (hy : yl ops M j = some (.bool (!b))) (hd : o.dst = some d) (hb : takeB ops T listed i = true) (hPO : PO Q) (hinc : Inc S L) (hn : Nat.blt d n = true)
    (h : WR P n ops Q S T fuel (listed.setIfInBounds i true) ((d, undef) :: M) L) : WR P n ops Q S T (fuel + 1) listed M L :=
  WR_first hi hd hb hPO hinc hn (fun a ha => .inr ⟨by simp [Region.wanted, hg, yielded_of ha hy], rfl⟩) h

/-- The only operation that may come up now. -/
theorem WR_one (i : Nat) {o : Oper} (hr : Region.ready .any ops.toArray listed = [i]) (hi : ops[i]? = some o) (hg : o.guard = none) (h : OW P n o (WRk P n ops Q S T fuel (listed.setIfInBounds i true)) M L) : WR P n ops Q S T (fuel + 1) listed M L := ⟨fun a w ha hw => by
  refine ⟨fun h0 => absurd (hr ▸ h0) (by simp), fun j hj => ?_⟩
  rw [hr] at hj
  simp only [List.mem_singleton] at hj
  subst hj
  unfold wpOp
  simp only [List.getElem?_toArray, hi]
  rw [if_pos (by simp [Region.wanted, hg])]
  exact .inl (h.out a w _ Q ha hw fun M' L' hk => ⟨fun a' w' ha' hw' => ⟨fun _ => hk.inc.holds hw', hk.out.out a' w' ha' hw'⟩⟩)⟩
theorem WR_last (i : Nat) {o : Oper} (hr : Region.ready .any ops.toArray listed = [i]) (hT : T.contains i = true) (hi : ops[i]? = some o) (hg : o.guard = none) (h : OW P n o (WR P n ops Q S T fuel (listed.setIfInBounds i true)) M L) : WR P n ops Q S T (fuel + 1) listed M L := ⟨fun a w ha hw => by
  refine ⟨fun h0 => absurd (hr ▸ h0) (by simp), fun j hj => ?_⟩
  rw [hr] at hj
  simp only [List.mem_singleton] at hj
  subst hj
  unfold wpOp
  simp only [List.getElem?_toArray, hi]
  rw [if_pos (by simp [Region.wanted, hg])]
  have hm : j ∈ T := by simpa using hT
  exact .inl (h.out a w _ Q ha hw fun M' L' hk => ⟨fun a' w' ha' hw' => ⟨fun hn => absurd hm hn, hk.out a' w' ha' hw'⟩⟩)⟩
/-- The end of a function, what is left over dropped. -/
theorem WQ_retI {fn : Func} {post : Value → List Chunk → Prop} {rs : List ResultVar} {vs : List Value} (hr : fn.results = rs.toArray) (h : resT M rs = some vs) (hp : ∃ L', Inc L' L ∧ post (tupled vs) L') :
    WQ n (bodyPost P fn (fun e w' => ∃ v L', e = .returned v ∧ post v L' ∧ Holds w' L') .ret) M L := ⟨fun _ _ ha hw => by
  obtain ⟨L', hi, hp⟩ := hp
  exact ⟨ha.defers, tupled vs, results_run ha hr h, _, L', rfl, hp, hi.holds hw⟩⟩
theorem WQ_endI {fn : Func} {post : Value → List Chunk → Prop} {rs : List ResultVar} {vs : List Value} (hr : fn.results = rs.toArray) (h : resT M rs = some vs) (hp : ∃ L', Inc L' L ∧ post (tupled vs) L') :
    WQ n (bodyPost P fn (fun e w' => ∃ v L', e = .returned v ∧ post v L' ∧ Holds w' L') .normal) M L := ⟨fun _ _ ha hw => by
  obtain ⟨L', hi, hp⟩ := hp
  exact ⟨ha.defers, tupled vs, results_run ha hr h, _, L', rfl, hp, hi.holds hw⟩⟩
theorem WQ_retH {fn : Func} {post : Value → List Chunk → Prop} {rs : List ResultVar} {vs : List Value} (hr : fn.results = rs.toArray) (h : resT M rs = some vs) (hp : ∃ L', (∀ w, Holds w L → Holds w L') ∧ post (tupled vs) L') :
    WQ n (bodyPost P fn (fun e w' => ∃ v L', e = .returned v ∧ post v L' ∧ Holds w' L') .ret) M L := ⟨fun _ w ha hw => by
  obtain ⟨L', hi, hp⟩ := hp
  exact ⟨ha.defers, tupled vs, results_run ha hr h, _, L', rfl, hp, hi w hw⟩⟩
theorem WQ_endH {fn : Func} {post : Value → List Chunk → Prop} {rs : List ResultVar} {vs : List Value} (hr : fn.results = rs.toArray) (h : resT M rs = some vs) (hp : ∃ L', (∀ w, Holds w L → Holds w L') ∧ post (tupled vs) L') :
    WQ n (bodyPost P fn (fun e w' => ∃ v L', e = .returned v ∧ post v L' ∧ Holds w' L') .normal) M L := ⟨fun _ w ha hw => by
  obtain ⟨L', hi, hp⟩ := hp
  exact ⟨ha.defers, tupled vs, results_run ha hr h, _, L', rfl, hp, hi w hw⟩⟩
theorem WC_holds' {L' : List Chunk} {c : Code} (hl : ∀ w, Holds w L → Holds w L') (h : WC P n c Q M L') : WC P n c Q M L := h.holds hl
theorem WQ_holds {L' : List Chunk} {q : Act → World → Prop} (hl : ∀ w, Holds w L → Holds w L') (h : WQ n q M L') : WQ n q M L := ⟨fun a w ha hw => h.out a w ha (hl w hw)⟩
theorem WL_holds {L' : List Chunk} {opsA : Array Oper} {rest : List Oper} (hl : ∀ w, Holds w L → Holds w L') (h : WL P n opsA Q rest M L') : WL P n opsA Q rest M L := ⟨fun a w ha hw => h.out a w ha (hl w hw)⟩
theorem OW_holds {L' : List Chunk} {o : Oper} {K : List (Nat × Value) → List Chunk → Prop} (hl : ∀ w, Holds w L → Holds w L') (h : OW P n o K M L') : OW P n o K M L := ⟨fun a w next Q ha hw hk => h.out a w next Q ha (hl w hw) hk⟩
/-- A call that leaves all as it was. -/
def GvP (P : Program) (f : FuncId) (args : Array Value) (L : List Chunk) (v : Value) : Prop := Gv P f args L (fun r L' => r = v ∧ L' = L)
theorem OW_callP {d : Nat} {ty : TypeId} {ps : String} {af : Array Edge} {g : Option (Nat × Bool)} {x : Operand} {v : Value} {K : List (Nat × Value) → List Chunk → Prop} {f : FuncId} [hb : BD P f] {xs : List Operand} {ats : Array TypeId} {first cap : Array Value} {vs : List Value} {args : Array Value}
    (hx : ev M x = some (.func (.func f) first cap)) (hvs : evs M xs = some vs) (hargs : first ++ vs.toArray ++ cap = args) (hspec : GvP P f args L v)
    (hn : Nat.blt d n = true) (h : K ((d, v) :: M) L) : OW P n ⟨some d, .call ⟨.value x, xs.toArray, ats⟩, ty, ps, af, g⟩ K M L :=
  OW_call hx hvs hargs hspec hn (fun v' L' hp => by obtain ⟨rfl, rfl⟩ := hp; exact h)
end
end Go.Vx
