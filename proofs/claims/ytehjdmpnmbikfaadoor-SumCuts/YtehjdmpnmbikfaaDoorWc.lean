/- The layer's calls through an interface. It proves no statement by itself. No conditions. -/
import Derived.Test.YtehjdmpnmbikfaaDoorWb
namespace Go.Vx
open Go
set_option linter.all false
variable [W0]

omit [W0] in
/-- A method of a pointer type, straight on the type. -/
def mthOf (P : Program) (t : Nat) (name : String) : Option FuncId := match P.info? t with
  | some i => match i.methods.find? (·.name == name) with
    | some m => match m.path.toList, m.func, P.underlying t with
      | [], some (f, true), some (.pointer _) => some f
      | _, _, _ => none
    | none => none
  | none => none
theorem method_run {P : Program} {t : Nat} {name : String} {f : FuncId} (h : mthOf P t name = some f) (fuel : Nat) (v : Value) (w : World) : (method (fuel + 1) t v name).run P w = .ok (f, v) w := by
  unfold mthOf at h
  split at h
  · rename_i i hi
    split at h
    · rename_i m hm
      split at h
      · rename_i f' e h1 h2 h3
        simp at h
        subst h
        unfold method
        simp [typeInfo, hi, hm, h1, follow, h2, receiverAt, run_underlying h3, Place.get]
      · simp at h
    · simp at h
  · simp at h

section
variable {P : Program} {n : Nat} {M : List (Nat × Value)} {L : List Chunk} {K : List (Nat × Value) → List Chunk → Prop}
variable {d : Nat} {ty : TypeId} {ps : String} {af : Array Edge} {g : Option (Nat × Bool)} {x : Operand} {v : Value}

theorem OW_invoke {t : Nat} {f : FuncId} {name : String} (hm : mthOf P t name = some f) [hb : BD P f] {xs : List Operand} {ats : Array TypeId} {vs : List Value} {post : Value → List Chunk → Prop}
    (hx : ev M x = some (.iface t v)) (hvs : evs M xs = some vs) (hspec : Gv P f (v :: vs).toArray L post)
    (hn : Nat.blt d n = true) (h : ∀ v L', post v L' → K ((d, v) :: M) L') : OW P n ⟨some d, .call ⟨.invoke x name, xs.toArray, ats⟩, ty, ps, af, g⟩ K M L := ⟨fun a w next Q ha hw hk => by
  have hrun : (execOp a.eval ⟨some d, .call ⟨.invoke x name, xs.toArray, ats⟩, ty, ps, af, g⟩).run P w = .ok (.enter f (v :: vs).toArray) w := by
    have e1 : Array.map a.eval xs.toArray = vs.toArray := by rw [← ha.evals hvs]; simp
    have e2 : (#[Value.iface t v] ++ vs.toArray)[0]? = some (.iface t v) := by simp
    have e3 : (#[Value.iface t v] ++ vs.toArray).extract 1 (#[Value.iface t v] ++ vs.toArray).size = vs.toArray := by
      apply Array.ext'; simp
    have e4 : #[v] ++ vs.toArray = (v :: vs).toArray := by apply Array.ext'; simp
    have hfuel : P.types.size + Made.depth = (P.types.size + Made.depth - 1) + 1 := by
      have : 0 < Made.depth := by decide
      omega
    have hmr := method_run hm (P.types.size + Made.depth - 1) v w
    rw [← hfuel] at hmr
    simp only [execOp, resolve, ha.eval hx, e1, Sem.run_bind, Sem.run_pure, Result.andThen_ok, invoke, e2, e3, callMethod, run_program, hmr, e4, callFunc_run hb.out]
  unfold Oper.wp
  rw [hrun, Oper.upon_enter]
  refine (hspec.out w hw).mono fun e w' he => ?_
  obtain ⟨v, L', rfl, hp, hw'⟩ := he
  exact (hk _ _ (h v L' hp)).out _ _ (ha.put v hn) hw'⟩
end
end Go.Vx
