/- The layer's part on ranges over functions: rounds, calls of yield, what an iterator gives. It proves no statement by itself. No conditions. -/
import Derived.Test.YtckelgpocplplaaVm
import Derived.RangeFuncRecord
import Derived.OrdersIn
namespace Go.Vx
open Go
set_option linter.all false
variable [W0]

omit [W0] in
/-- The fence that lets all in, in a round or outside one. -/
abbrev Fr (ro : Option Nat) : Fence := { Fence.wide with round := ro }
omit [W0] in
/-- Nothing is let out. -/
structure NL (Q : Exit → Act → World → Prop) : Prop where
  out : ∀ a w, ¬ Q .outgrown a w
theorem NL.then {Q : Exit → Act → World → Prop} {K : Act → World → Prop} (h : NL Q) : NL (Exit.then K Q) := ⟨h.out⟩
theorem NL.block {Q : Exit → Act → World → Prop} {i : Nat} (h : NL Q) : NL (Exit.inBlock i Q) := ⟨h.out⟩
omit [W0] in
/-- No call is put off. -/
def noDef (o : Oper) : Bool := match o.op with | .defer _ => false | _ => true
omit [W0] in
theorem noDef_ne {o : Oper} (h : noDef o = true) : ∀ c, o.op ≠ .defer c := fun c hc => by unfold noDef at h; rw [hc] at h; cases h

section
variable {P : Program} {n : Nat} {ro : Option Nat} {Q : Exit → Act → World → Prop} {M : List (Nat × Value)} {L : List Chunk} {K : List (Nat × Value) → List Chunk → Prop}

omit [W0] in
theorem rows_in {row : String} {args : Array Value} {w : World} {R : Value → World → Prop} (h : Rows P row args w R) : RowsIn (Fr ro) 0 P row args w R :=
  fun c cs _ => let ⟨v, w', r, s⟩ := h c cs; ⟨v, w', r, (stepsIn_wide (P := P)).2 s⟩
omit [W0] in
theorem calls_in {f : FuncId} {args : Array Value} {w : World} {R : Ending → World → Prop} {m : Nat} (h : Calls P f args w R) : CallsIn (Fr ro) m P f args w R := (callsIn_wide (n := m)).2 h
omit [W0] in
theorem upon_in {o : Oper} {a : Act} {next : Act → World → Prop} {r : Result Next} (h : o.upon P a next Q r) : o.uponIn (Fr ro) 0 P a next Q r := by
  cases r with
  | ok x w' =>
    cases x <;> simp only [Oper.upon] at h <;> simp only [Oper.uponIn] <;>
      first
        | exact h
        | exact ⟨fun hh => absurd (a := false = true) hh Bool.false_ne_true, (calls_in h).mono (fun e w'' he => by cases e <;> exact he)⟩
        | exact ⟨fun hh => absurd (a := false = true) hh Bool.false_ne_true, rows_in h⟩
        | exact False.elim h
  | halt x w' => cases x <;> simp only [Oper.upon] at h <;> simp only [Oper.uponIn] <;> exact h
omit [W0] in
theorem semAt_in {o : Oper} (hd : noDef o = true) (ρ : Operand → Value) : o.semAt ro ρ = execOp ρ o := Oper.semAt_eq ro ρ o (noDef_ne hd)
omit [W0] in
theorem wp_in {o : Oper} {a : Act} {w : World} {next : Act → World → Prop} (hd : noDef o = true) (h : o.wp P a w next Q) : o.wpIn (Fr ro) 0 P a w next Q := by
  refine ⟨fun _ _ => trivial, ?_⟩
  show o.uponIn (Fr ro) 0 P a next Q ((o.semAt ro a.eval).run P w)
  rw [semAt_in hd]
  exact upon_in h
omit [W0] in
theorem wpList_in {ops : Array Oper} (hN : NL Q) : ∀ {rest : List Oper} {a : Act} {w : World}, rest.all noDef = true → wpList P ops Q rest a w → wpListIn (Fr ro) 0 P ops Q rest a w
  | [], _, _, _, h => h
  | o :: rest, a, w, hd, h => by
    simp only [List.all_cons, Bool.and_eq_true] at hd
    unfold wpList at h
    unfold wpListIn
    split
    · rename_i hw
      rw [if_pos hw] at h
      rcases h with h | ⟨_, a', w', hl⟩
      · exact Oper.wpIn_mono (fun a w hh => wpList_in hN hd.2 hh) (wp_in hd.1 h)
      · exact absurd hl (hN.out a' w')
    · rename_i hw
      rw [if_neg hw] at h
      exact ⟨fun _ _ => trivial, wpList_in hN hd.2 h⟩
omit [W0] in
theorem wpOp_in {ops : Array Oper} (hN : NL Q) (hd : ∀ (i : Nat) (o : Oper), ops[i]? = some o → noDef o = true) {i : Nat} {K K' : Act → World → Prop} {a : Act} {w : World} (hk : ∀ a w, K a w → K' a w) (h : wpOp P ops Q i K a w) : wpOpIn (Fr ro) 0 P ops Q i K' a w := by
  unfold wpOp at h
  unfold wpOpIn
  split
  · rename_i ho; rw [ho] at h; exact hk _ _ h
  · rename_i o ho
    rw [ho] at h
    simp only at h
    split
    · rename_i hw
      rw [if_pos hw] at h
      rcases h with h | ⟨_, a', w', hl⟩
      · exact Oper.wpIn_mono hk (wp_in (hd i o ho) h)
      · exact absurd hl (hN.out a' w')
    · rename_i hw
      rw [if_neg hw] at h
      exact ⟨fun _ _ => trivial, hk _ _ h⟩
omit [W0] in
theorem wpAny_in {ops : Array Oper} {md : Region.Mode} (hN : NL Q) (hd : ∀ (i : Nat) (o : Oper), ops[i]? = some o → noDef o = true) : ∀ (fuel : Nat) (listed : Array Bool) (a : Act) (w : World), wpAny P md ops Q fuel listed a w → wpAnyIn (Fr ro) 0 P md ops Q fuel listed a w
  | 0, _, _, _, h => h
  | fuel + 1, listed, a, w, h => ⟨h.1, fun i hi => wpOp_in hN hd (fun a w hh => wpAny_in hN hd fuel _ a w hh) (h.2 i hi)⟩

/-- What a piece of code owes, in a round or outside one. -/
structure Wic (P : Program) (n : Nat) (ro : Option Nat) (c : Code) (Q : Exit → Act → World → Prop) (M : List (Nat × Value)) (L : List Chunk) : Prop where
  out : ∀ a w, St n M a → Holds w L → c.wpIn (Fr ro) 0 P Q a w
/-- The operations of a region, in a round or outside one. -/
structure Wjc (P : Program) (n : Nat) (ro : Option Nat) (ops : Array Oper) (Q : Exit → Act → World → Prop) (rest : List Oper) (M : List (Nat × Value)) (L : List Chunk) : Prop where
  out : ∀ a w, St n M a → Holds w L → wpListIn (Fr ro) 0 P ops Q rest a w

theorem Wic.holds {L' : List Chunk} {c : Code} (h : Wic P n ro c Q M L') (hl : ∀ w, Holds w L → Holds w L') : Wic P n ro c Q M L := ⟨fun a w ha hw => h.out a w ha (hl w hw)⟩
theorem Wic.sub {M' : List (Nat × Value)} {c : Code} (h : Wic P n ro c Q M' L) (hs : Sub M' M) : Wic P n ro c Q M L := ⟨fun a w ha hw => h.out a w (ha.sub hs) hw⟩
theorem WI_seq {x y : Code} (h : Wic P n ro x (Exit.then (y.wpIn (Fr ro) 0 P Q) Q) M L) : Wic P n ro (.seq x y) Q M L := ⟨fun a w ha hw => wpIn_seq (h.out a w ha hw)⟩
theorem WI_skip (h : WQ n (Q .normal) M L) : Wic P n ro .skip Q M L := ⟨fun a w ha hw => wpIn_skip (h.out a w ha hw)⟩
theorem WI_exit {id : Nat} (h : WQ n (Q (.exit id)) M L) : Wic P n ro (.exit id) Q M L := ⟨fun a w ha hw => wpIn_exit (h.out a w ha hw)⟩
theorem WI_ret (h : WQ n (Q .ret) M L) : Wic P n ro .ret Q M L := ⟨fun a w ha hw => wpIn_ret (h.out a w ha hw)⟩
theorem WI_block {id : Nat} {c : Code} (h : Wic P n ro c (Exit.inBlock id Q) M L) : Wic P n ro (.block id c) Q M L := ⟨fun a w ha hw => wpIn_block (h.out a w ha hw)⟩
theorem WI_cond {c : Operand} {x y : Code} {t : Bool} (hc : ev M c = some (.bool t)) (ht : t = true → Wic P n ro x Q M L) (hf : t = false → Wic P n ro y Q M L) :
    Wic P n ro (.cond c x y) Q M L := ⟨fun a w ha hw => wpIn_cond_split (ha.eval hc) (fun h => (ht h).out a w ha hw) (fun h => (hf h).out a w ha hw)⟩
theorem WI_true {c : Operand} {x y : Code} (hc : ev M c = some (.bool true)) (ht : Wic P n ro x Q M L) : Wic P n ro (.cond c x y) Q M L := ⟨fun a w ha hw => wpIn_cond_true (ha.eval hc) (ht.out a w ha hw)⟩
theorem WI_false {c : Operand} {x y : Code} (hc : ev M c = some (.bool false)) (ht : Wic P n ro y Q M L) : Wic P n ro (.cond c x y) Q M L := ⟨fun a w ha hw => wpIn_cond_false (ha.eval hc) (ht.out a w ha hw)⟩
theorem WI_region {id : Nat} {l : List Oper} (hN : NL Q) (hd : l.all noDef = true) (h : WL P n l.toArray Q l M L) : Wic P n ro (.region id l.toArray false) Q M L := ⟨fun a w ha hw => wpIn_region_lit (wpList_in hN hd (h.out a w ha hw))⟩
theorem WI_list {id : Nat} {l : List Oper} (h : Wjc P n ro l.toArray Q l M L) : Wic P n ro (.region id l.toArray false) Q M L := ⟨fun a w ha hw => wpIn_region_lit (h.out a w ha hw)⟩
theorem all_get {l : List Oper} (hd : l.all noDef = true) : ∀ (i : Nat) (o : Oper), l.toArray[i]? = some o → noDef o = true := fun i o h => by
  rw [List.getElem?_toArray] at h
  exact (List.all_eq_true.1 hd) o (List.mem_of_getElem? h)
theorem WI_draw (S : List Chunk) (T : List Nat) {id : Nat} {ops : List Oper} (hN : NL Q) (hd : ops.all noDef = true) (hm : P.follows .mixedOrders = true) (h : WR P n ops Q S T ops.length (Array.replicate ops.length false) M L) : Wic P n ro (.region id ops.toArray true) Q M L := ⟨fun a w ha hw => by
  refine wpIn_region_any hm (wpAny_in hN (all_get hd) _ _ _ _ (wpAny_of_T (S := fun w => Holds w S) (T := T) _ _ _ _ ?_))
  have := h.out a { w with drawn := w.drawn + 1 } ha (hw.same rfl rfl rfl)
  simpa using this⟩
theorem WJ_nil {ops : Array Oper} (h : WQ n (Q .normal) M L) : Wjc P n ro ops Q [] M L := ⟨fun a w ha hw => h.out a w ha hw⟩
theorem WJ_op {ops : Array Oper} {rest : List Oper} {o : Oper} (hg : o.guard = none) (hd : noDef o = true) (h : OW P n o (Wjc P n ro ops Q rest) M L) : Wjc P n ro ops Q (o :: rest) M L := ⟨fun a w ha hw => by
  unfold wpListIn
  rw [if_pos (by simp [Region.wanted, hg])]
  exact wp_in hd (h.out a w _ Q ha hw fun M' L' hk => ⟨hk.out⟩)⟩
/-- What follows is a piece of code. -/
theorem WQ_codeI {c : Code} (h : Wic P n ro c Q M L) : WQ n (c.wpIn (Fr ro) 0 P Q) M L := ⟨h.out⟩

theorem WI_loop {X : Type} {c : Code} (MI : X → List (Nat × Value)) (LI : X → List Chunk) (J : X → Prop) (μ : X → Nat) (x0 : X) (hJ : J x0) (hM : Sub (MI x0) M) (hL : ∀ w, Holds w L → Holds w (LI x0))
    (hround : ∀ x, J x → Wic P n ro c (Exit.then (fun a' w' => ∃ x', μ x' < μ x ∧ J x' ∧ St n (MI x') a' ∧ Holds w' (LI x')) Q) (MI x) (LI x)) : Wic P n ro (.loop c) Q M L := ⟨fun a w ha hw => by
  intro b k cs hro hb hr
  have key : ∀ m x, μ x = m → J x → ∀ a w, St n (MI x) a → Holds w (LI x) →
      ∃ e a' w', Q e a' w' ∧ ArrivesIn (Machine.fenced P (Fr ro)) P (lone (b.atR a (.code c :: .inLoop c :: k)) cs w) b k cs e a' w' := by
    intro m
    induction m using Nat.strongRecOn with
    | _ m ih =>
      intro x hm hx a w ha hw
      obtain ⟨e, a₁, w₁, hq, harr⟩ := (hround x hx).out a w ha hw b (.inLoop c :: k) cs hro hb hr
      subst hm
      cases e with
      | normal =>
        obtain ⟨x', hlt, hJ', ha', hw'⟩ := hq
        obtain ⟨e₂, a₂, w₂, hq₂, harr₂⟩ := ih (μ x') hlt x' rfl hJ' a₁ w₁ ha' hw'
        exact ⟨e₂, a₂, w₂, hq₂, .of_steps (StepsIn.trans harr (.one (fenced_calm hb hr rfl) stepR_inLoop)) harr₂⟩
      | exit id => exact ⟨_, a₁, w₁, hq, .pass (x := .inLoop c) rfl (fun _ _ => .inl (by simp)) harr⟩
      | goto l => exact ⟨_, a₁, w₁, hq, .pass (x := .inLoop c) rfl (fun _ _ => .inl (by simp)) harr⟩
      | ret => exact ⟨_, a₁, w₁, hq, .pass (x := .inLoop c) rfl (fun _ _ => .inl (by simp)) harr⟩
      | panic ch => exact ⟨_, a₁, w₁, hq, .pass (x := .inLoop c) rfl (fun _ _ => .inl (by simp)) harr⟩
      | outgrown => exact ⟨_, a₁, w₁, hq, .pass (x := .inLoop c) rfl (fun _ _ => .inl (by simp)) harr⟩
  obtain ⟨e, a', w', hq, harr⟩ := key _ x0 rfl hJ a w (ha.sub hM) (hL w hw)
  exact ⟨e, a', w', hq, .of_steps (.one (fenced_calm hb hr rfl) stepR_loop) harr⟩⟩
end
end Go.Vx
