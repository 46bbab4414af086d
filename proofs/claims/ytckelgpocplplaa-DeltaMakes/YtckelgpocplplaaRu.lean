/- Maps whose keys are words and whose values are slices of ints: look-up, update. It proves no statement by itself. No conditions. -/
import Derived.Test.YtckelgpocplplaaWd
import Derived.MapKept
namespace Go.Vx
open Go Go.MapKept
set_option linter.all false
variable [W0]
omit [W0] in
/-- Ints as cells. -/
def inl (l : List Nat) : List Value := l.map fun (n : Nat) => Value.int .i64 (n : Int)
omit [W0] in
theorem inl_app (a b : List Nat) : inl (a ++ b) = inl a ++ inl b := by simp [inl]
omit [W0] in
theorem inl_ones (l : List Nat) : ones (inl l) = true := by simp [ones, inl, Value.oneCell']
omit [W0] in
theorem inl_get {l : List Nat} {i : Nat} (h : i < l.length) : (inl l)[i]? = some (.int .i64 ((l[i] : Nat) : Int)) := by simp [inl, h]
omit [W0] in
/-- What a map's block holds, entry by entry, and where the entries' slices lie. -/
structure MiR (E : Nat) (es : Array MapEntry) (G : List (Nat × List Nat)) (Cs : List Chunk) : Prop where
  sz : es.size = G.length
  cs : Cs.length = G.length
  ent : ∀ (i k : Nat) (l : List Nat), G[i]? = some (k, l) → ∃ (e : MapEntry) (C : Chunk), es[i]? = some e ∧ Cs[i]? = some C ∧ e.key = .int .u64 (k : Int) ∧ Ow E 1 e.val l.length (inl l) C
  one : (G.map Prod.fst).Nodup
omit [W0] in
theorem MiR.nil (E : Nat) : MiR E #[] [] [] := ⟨rfl, rfl, fun i k l h => by simp at h, List.nodup_nil⟩
omit [W0] in
theorem u64_inj {a b : Nat} (h : Value.int .u64 (a : Int) = Value.int .u64 (b : Int)) : a = b := by
  simp only [Value.int.injEq, true_and] at h
  omega
omit [W0] in
theorem MiR.at {E : Nat} {es : Array MapEntry} {G : List (Nat × List Nat)} {Cs : List Chunk} (h : MiR E es G Cs) {i : Nat} {e : MapEntry} (hi : es[i]? = some e) : ∃ (k : Nat) (l : List Nat) (C : Chunk), G[i]? = some (k, l) ∧ Cs[i]? = some C ∧ e.key = .int .u64 ((k : Nat) : Int) ∧ Ow E 1 e.val l.length (inl l) C := by
  have hlt : i < G.length := by
    rw [← h.sz]
    exact (Array.getElem?_eq_some_iff.1 hi).1
  rcases hG : G[i] with ⟨k, l⟩
  have h1 : G[i]? = some (k, l) := by rw [List.getElem?_eq_getElem hlt, hG]
  obtain ⟨e', C, h2, h3, h4, h5⟩ := h.ent i k l h1
  rw [hi] at h2
  cases h2
  exact ⟨k, l, C, h1, h3, h4, h5⟩
omit [W0] in
theorem MiR.isKey {E : Nat} {es : Array MapEntry} {G : List (Nat × List Nat)} {Cs : List Chunk} (h : MiR E es G Cs) : ∀ x ∈ es.toList, IsKey (.int .u64) x.key := fun x hx => by
  obtain ⟨i, hi⟩ := List.getElem?_of_mem hx
  obtain ⟨k, l, C, _, _, h3, _⟩ := h.at (by rw [← Array.getElem?_toList]; exact hi)
  rw [h3]
  rfl
omit [W0] in
theorem MiR.uniq {E : Nat} {es : Array MapEntry} {G : List (Nat × List Nat)} {Cs : List Chunk} (h : MiR E es G Cs) {i j : Nat} {e f : MapEntry} (hi : es[i]? = some e) (hj : es[j]? = some f) (hk : e.key = f.key) : i = j := by
  obtain ⟨k, l, C, h1, _, h3, _⟩ := h.at hi
  obtain ⟨k', l', C', g1, _, g3, _⟩ := h.at hj
  rw [h3, g3] at hk
  have e := u64_inj hk
  subst e
  have hil := (List.getElem?_eq_some_iff.1 h1).1
  have e1 : (G.map Prod.fst)[i]? = some k := by rw [List.getElem?_map, h1]; rfl
  have e2 : (G.map Prod.fst)[j]? = some k := by rw [List.getElem?_map, g1]; rfl
  exact (List.getElem?_inj (by simpa using hil) h.one).1 (e1.trans e2.symm)
omit [W0] in
theorem MiR.find {E : Nat} {es : Array MapEntry} {G : List (Nat × List Nat)} {Cs : List Chunk} (h : MiR E es G Cs) (k : Nat) :
    ((∀ x ∈ es.toList, x.key ≠ .int .u64 (k : Int)) ∧ ∀ l, (k, l) ∉ G) ∨ ∃ (i : Nat) (l : List Nat) (e : MapEntry) (C : Chunk), G[i]? = some (k, l) ∧ es[i]? = some e ∧ Cs[i]? = some C ∧ e.key = .int .u64 (k : Int) ∧ Ow E 1 e.val l.length (inl l) C := by
  by_cases hx : ∃ (i : Nat) (l : List Nat), G[i]? = some (k, l)
  · obtain ⟨i, l, hi⟩ := hx
    obtain ⟨e, C, h2, h3, h4, h5⟩ := h.ent i k l hi
    exact .inr ⟨i, l, e, C, hi, h2, h3, h4, h5⟩
  · refine .inl ⟨fun x hm he => ?_, fun l hm => ?_⟩
    · obtain ⟨i, hi⟩ := List.getElem?_of_mem hm
      obtain ⟨k', l, C, h1, _, h3, _⟩ := h.at (by rw [← Array.getElem?_toList]; exact hi)
      rw [h3] at he
      rw [u64_inj he] at h1
      exact hx ⟨i, l, h1⟩
    · obtain ⟨i, hi⟩ := List.getElem?_of_mem hm
      exact hx ⟨i, l, hi⟩
omit [W0] in
theorem MiR.push {E : Nat} {es : Array MapEntry} {G : List (Nat × List Nat)} {Cs : List Chunk} (h : MiR E es G Cs) {k : Nat} {l : List Nat} {v : Value} {C : Chunk} {c : Nat} (hno : ∀ l, (k, l) ∉ G) (ho : Ow E 1 v l.length (inl l) C) :
    MiR E (es.push { key := .int .u64 (k : Int), val := v, born := c }) (G ++ [(k, l)]) (Cs ++ [C]) := by
  refine ⟨by simp [h.sz], by simp [h.cs], fun i k' l' hi => ?_, ?_⟩
  · rcases Nat.lt_or_ge i G.length with h1 | h1
    · rw [List.getElem?_append_left h1] at hi
      obtain ⟨e, D, g1, g2, g3, g4⟩ := h.ent i k' l' hi
      refine ⟨e, D, ?_, ?_, g3, g4⟩
      · rw [Array.getElem?_push, if_neg (by rw [h.sz]; omega)]; exact g1
      · rw [List.getElem?_append_left (by rw [h.cs]; exact h1)]; exact g2
    · rw [List.getElem?_append_right h1] at hi
      have h0 : i - G.length = 0 := by
        rcases Nat.eq_zero_or_pos (i - G.length) with h2 | h2
        · exact h2
        · rw [List.getElem?_eq_none (by simp; omega)] at hi; cases hi
      rw [h0] at hi
      simp only [List.getElem?_cons_zero, Option.some.injEq, Prod.mk.injEq] at hi
      obtain ⟨rfl, rfl⟩ := hi
      refine ⟨{ key := .int .u64 (k : Int), val := v, born := c }, C, ?_, ?_, rfl, ho⟩
      · rw [Array.getElem?_push, if_pos (by rw [h.sz]; omega)]
      · rw [List.getElem?_append_right (by rw [h.cs]; exact h1), h.cs, h0]; rfl
  · rw [List.map_append, List.nodup_append]
    refine ⟨h.one, by simp, fun a ha b hb hab => ?_⟩
    simp only [List.map_cons, List.map_nil, List.mem_singleton] at hb
    subst hb hab
    obtain ⟨x, hx, hxk⟩ := List.mem_map.1 ha
    obtain ⟨k2, l2⟩ := x
    simp only at hxk
    subst hxk
    exact hno l2 hx
omit [W0] in
theorem MiR.mod {E : Nat} {es : Array MapEntry} {G : List (Nat × List Nat)} {Cs : List Chunk} (h : MiR E es G Cs) {i k : Nat} {l l' : List Nat} {v : Value} {C : Chunk} (hi : G[i]? = some (k, l)) (ho : Ow E 1 v l'.length (inl l') C) :
    MiR E (es.modify i fun e => { e with key := .int .u64 (k : Int), val := v }) (G.set i (k, l')) (Cs.set i C) := by
  have hil := (List.getElem?_eq_some_iff.1 hi).1
  refine ⟨by simp [h.sz], by simp [h.cs], fun j k' l2 hj => ?_, ?_⟩
  · by_cases hij : i = j
    · subst hij
      rw [List.getElem?_set_self hil] at hj
      cases hj
      obtain ⟨e, D, g1, g2, g3, g4⟩ := h.ent i k l hi
      refine ⟨{ e with key := .int .u64 (k : Int), val := v }, C, ?_, ?_, rfl, ho⟩
      · rw [Array.getElem?_modify, if_pos rfl, g1]; rfl
      · rw [List.getElem?_set_self (by rw [h.cs]; exact hil)]
    · rw [List.getElem?_set_ne hij] at hj
      obtain ⟨e, D, g1, g2, g3, g4⟩ := h.ent j k' l2 hj
      refine ⟨e, D, ?_, ?_, g3, g4⟩
      · rw [Array.getElem?_modify, if_neg hij]; exact g1
      · rw [List.getElem?_set_ne hij]; exact g2
  · have e : (G.set i (k, l')).map Prod.fst = G.map Prod.fst := by
      refine List.ext_getElem? fun j => ?_
      rw [List.getElem?_map, List.getElem?_map]
      by_cases hij : i = j
      · subst hij; rw [List.getElem?_set_self hil, hi]; rfl
      · rw [List.getElem?_set_ne hij]
    rw [e]
    exact h.one
omit [W0] in
theorem flat_out : ∀ {Cs : List Chunk} {i : Nat} {C : Chunk}, Cs[i]? = some C → Cs.flatten.Perm (C ++ (Cs.eraseIdx i).flatten)
  | [], i, C, h => by simp at h
  | D :: Cs, 0, C, h => by
    simp only [List.getElem?_cons_zero, Option.some.injEq] at h
    subst h
    exact .refl _
  | D :: Cs, i + 1, C, h => by
    have ih := flat_out (Cs := Cs) (i := i) (by simpa using h)
    simp only [List.flatten_cons, List.eraseIdx_cons_succ]
    refine (ih.append_left D).trans ?_
    rw [← List.append_assoc, ← List.append_assoc]
    exact (List.perm_append_comm).append_right _
omit [W0] in
theorem set_erase {Cs : List Chunk} {i : Nat} {C : Chunk} : (Cs.set i C).eraseIdx i = Cs.eraseIdx i := by
  induction Cs generalizing i with
  | nil => rfl
  | cons D Cs ih => cases i with
    | zero => rfl
    | succ i => simp [ih]
theorem Holds.permF {w : World} {L L' : List Chunk} (h : Holds w L) (hp : L.flatten.Perm L'.flatten) : Holds w L' :=
  ⟨(hp.map Prod.fst).nodup_iff.1 h.1, fun x hx => h.2.1 x (hp.mem_iff.2 hx), h.2.2⟩
theorem Holds.pull {w : World} {Cs : List Chunk} {i : Nat} {C : Chunk} {A B : List Chunk} (hC : Cs[i]? = some C) : Holds w (A ++ Cs.flatten :: B) ↔ Holds w (A ++ C :: (Cs.eraseIdx i).flatten :: B) := by
  have hp := flat_out hC
  have e : (A ++ Cs.flatten :: B).flatten.Perm (A ++ C :: (Cs.eraseIdx i).flatten :: B).flatten := by
    simp only [List.flatten_append, List.flatten_cons]
    refine List.Perm.append_left _ ?_
    rw [← List.append_assoc]
    exact hp.append_right _
  exact ⟨fun h => h.permF e, fun h => h.permF e.symm⟩

section
variable {P : Program} {n : Nat} {M : List (Nat × Value)} {L : List Chunk} {K : List (Nat × Value) → List Chunk → Prop}
variable {d : Nat} {ty : TypeId} {ps : String} {af : Array Edge} {g : Option (Nat × Bool)} {x y z : Operand} {v : Value}
theorem EV_lookI_no {mt kt et b c k : Nat} {es : Array MapEntry} {zv : Value} (hm : P.underlying mt = some (.map kt et)) (hkt : P.underlying kt = some (.int .u64)) [hz : ZV P et zv] (hx : ev M x = some (.map (some b))) (hy : ev M y = some (.int .u64 (k : Int)))
    (hf : Fnd L b (.map es c)) (hk : ∀ x ∈ es.toList, IsKey (.int .u64) x.key) (hno : ∀ x ∈ es.toList, x.key ≠ .int .u64 (k : Int)) : EV P n ⟨some d, .lookup mt x y false, ty, ps, af, g⟩ M L d zv :=
  ⟨rfl, fun a w ha hw => by
    have hb := hf.get hw
    have hik : IsKey (.int .u64) (Value.int .u64 (k : Int)) := rfl
    have hc := run_checkKey (P := P) (w := w) hkt hik es.isEmpty 9999
    rcases findNow_spec hik es.toList 0 hk with ⟨h1, h2⟩ | ⟨j, e, h1, h3, h4⟩
    · have hfk := run_findKey (P := P) (w := w) hkt h1
      simp only [execOp, ha.eval hx, ha.eval hy, Instr.lookup, Sem.run_bind, run_underlying hm, Go.MapKept.run_getObj_map hb, Result.andThen_ok, Sem.run_pure, hc, hfk, zero_run hz.out]
      rfl
    · exact absurd h4 (hno e (List.mem_of_getElem? h3))⟩
theorem EV_lookI_yes {E mt kt et b c k i : Nat} {es : Array MapEntry} {G : List (Nat × List Nat)} {Cs : List Chunk} {e : MapEntry} (hm : P.underlying mt = some (.map kt et)) (hkt : P.underlying kt = some (.int .u64)) (hx : ev M x = some (.map (some b))) (hy : ev M y = some (.int .u64 (k : Int)))
    (hf : Fnd L b (.map es c)) (hr : MiR E es G Cs) (hi : es[i]? = some e) (he : e.key = .int .u64 (k : Int)) : EV P n ⟨some d, .lookup mt x y false, ty, ps, af, g⟩ M L d e.val :=
  ⟨rfl, fun a w ha hw => by
    have hb := hf.get hw
    have hik : IsKey (.int .u64) (Value.int .u64 (k : Int)) := rfl
    have hc := run_checkKey (P := P) (w := w) hkt hik es.isEmpty 9999
    rcases findNow_spec hik es.toList 0 hr.isKey with ⟨h1, h2⟩ | ⟨j, e', h1, h3, h4⟩
    · exact absurd he (h2 e (List.mem_of_getElem? (by rw [Array.getElem?_toList]; exact hi)))
    · have hfk := run_findKey (P := P) (w := w) hkt h1
      have h5 : es[j]? = some e' := by simpa using h3
      have hij := hr.uniq hi h5 (by rw [he, h4])
      subst hij
      rw [hi] at h5
      cases h5
      simp only [execOp, ha.eval hx, ha.eval hy, Instr.lookup, Sem.run_bind, run_underlying hm, Go.MapKept.run_getObj_map hb, Result.andThen_ok, Sem.run_pure, hc, hfk]
      rfl⟩
theorem OW_mapUpI {mt kt et b c k : Nat} {es : Array MapEntry} {A B : List Chunk} (hm : P.underlying mt = some (.map kt et)) (hkt : P.underlying kt = some (.int .u64)) (hx : ev M x = some (.map (some b))) (hy : ev M y = some (.int .u64 (k : Int))) (hz : ev M z = some v)
    (hk : ∀ x ∈ es.toList, IsKey (.int .u64) x.key) (hzip : Zip [(b, .map es c)] L A B)
    (h1 : (∀ x ∈ es.toList, x.key ≠ .int .u64 (k : Int)) → K M (A ++ [(b, .map (es.push { key := .int .u64 (k : Int), val := v, born := c }) (c + 1))] :: B))
    (h2 : ∀ j e, es[j]? = some e → e.key = .int .u64 (k : Int) → K M (A ++ [(b, .map (es.modify j fun e => { e with key := .int .u64 (k : Int), val := v }) c)] :: B)) : OW P n ⟨none, .mapUpdate mt x y z, ty, ps, af, g⟩ K M L := ⟨fun a w next Q ha hw hk' => by
  have hL := hzip.eq
  subst hL
  have hw' := hw.perm List.perm_middle
  have hb : w.heap[b]? = some (.map es c) := (Fnd.here (L := A ++ B)).get hw'
  have hlt : b < w.heap.size := by
    rcases Nat.lt_or_ge b w.heap.size with h' | h'
    · exact h'
    · simp [Array.getElem?_eq_none h'] at hb
  have hik : IsKey (.int .u64) (Value.int .u64 (k : Int)) := rfl
  have hc := run_checkKey (P := P) (w := w) hkt hik false 9999
  have hst := run_keyThatStays (P := P) (w := w) hik
  obtain ⟨es', c', hrun, hK⟩ : ∃ es' c', (execOp a.eval ⟨none, .mapUpdate mt x y z, ty, ps, af, g⟩).run P w = .ok .skip { w with heap := w.heap.setIfInBounds b (.map es' c') } ∧ K M (A ++ [(b, .map es' c')] :: B) := by
    rcases findNow_spec hik es.toList 0 hk with ⟨g1, g2⟩ | ⟨j, e0, g1, g3, g4⟩
    · have hf := run_findKey (P := P) (w := w) hkt g1
      refine ⟨_, _, ?_, h1 g2⟩
      simp only [execOp, ha.eval hx, ha.eval hy, ha.eval hz, Instr.mapUpdate, Sem.run_bind, run_underlying hm, Go.MapKept.run_getObj_map hb, Result.andThen_ok, Sem.run_pure, hc, hf, Go.MapKept.run_setObj_map _ hb]
    · have h5 : es[j]? = some e0 := by simpa using g3
      have hf := run_findKey (P := P) (w := w) hkt g1
      refine ⟨_, _, ?_, h2 j e0 h5 g4⟩
      simp only [execOp, ha.eval hx, ha.eval hy, ha.eval hz, Instr.mapUpdate, Sem.run_bind, run_underlying hm, Go.MapKept.run_getObj_map hb, Result.andThen_ok, Sem.run_pure, hc, hf, Nat.zero_add, h5, Option.map_some, Option.getD_some, g4, hst, Go.MapKept.run_setObj_map _ hb]
  unfold Oper.wp
  rw [hrun, Oper.upon_skip]
  refine (hk' _ _ hK).out _ _ ha (Holds.perm (L := [(b, .map es' c')] :: (A ++ B)) ?_ List.perm_middle.symm)
  refine hw'.upd Upd.front ?_ (fun c2 hc2 => ?_) rfl rfl
  · show (w.heap.setIfInBounds b _)[b]? = _
    rw [Array.getElem?_setIfInBounds_self_of_lt hlt]
  · show (w.heap.setIfInBounds b _)[c2]? = _
    rw [Array.getElem?_setIfInBounds_ne (fun hh => hc2 hh.symm)]⟩
end
end Go.Vx
