/- The layer's bytes made of a string: a row that bears a mark behind its end, and what is put behind it. It proves no statement by itself. No conditions. -/
import Derived.Test.YtckelgpocplplaaWa
import Derived.Laws.IdiomStrings
import Derived.ArgAppend
import Derived.Deep.Upon
namespace Go.Vx
open Go
set_option linter.all false
variable [W0]

omit [W0] in
/-- No cell of the row is marked. -/
def FrOk (fr : Nat × Nat) (n : Nat) : Prop := ∀ j, j < n → ¬ (fr.1 ≤ j ∧ j < fr.2)
theorem FrOk.zero (n : Nat) : FrOk (0, 0) n := fun j _ h => by simp at h
theorem FrOk.behind (n : Nat) : FrOk (n, n + 1) n := fun j hj h => by simp at h; omega

omit [W0] in
/-- A slice of the call's own whose row may bear a mark. -/
def OwF (e k : Nat) (v : Value) (m : Nat) (xs : List Value) (C : Chunk) : Prop :=
  ∃ b cap rest fr, v = .slice (some ⟨b, 0, none⟩) m cap ∧ C = [(b, .cells (xs ++ rest).toArray e fr)] ∧ xs.length = m * k ∧ rest.length = (cap - m) * k ∧ m ≤ cap ∧ cap ≤ maxLen ∧ FrOk fr (xs ++ rest).length

theorem owf_sl {e k m : Nat} {v : Value} {xs : List Value} {C : Chunk} {L : List Chunk} (h : OwF e k v m xs C) : Sl (C :: L) k v m xs := by
  obtain ⟨b, cap, rest, fr, rfl, rfl, hxl, hrl, hmc, hcm, hfr⟩ := h
  exact .inr ⟨_, _, rfl, .inr ⟨b, 0, _, _, _, rfl, .here, fun j u hj => by rw [Nat.zero_add]; simpa using getE_app hj⟩, hxl⟩

theorem setCells_at {b : Nat} {T : TypeId} {fr : Nat × Nat} : ∀ (vs : List Value) (off : Nat) (c : Array Value) (w : World), w.heap[b]? = some (.cells c T fr) → off + vs.length ≤ c.size →
    (w.setCells b off vs).heap[b]? = some (.cells (patch c.toList off vs).toArray T fr)
  | [], off, c, w, h, _ => by simpa [World.setCells, patch] using h
  | v :: r, off, c, w, h, hf => by
    simp only [List.length_cons] at hf
    have h1 := setCell_at (off := off) (v := v) h
    have h2 := setCells_at r (off + 1) _ _ h1 (by simp; omega)
    rw [World.setCells, h2]
    congr 2
    have e := list_seg_step c.toList off v r (by simp; omega)
    simpa [patch, Array.toList_setIfInBounds, Nat.add_assoc, Nat.add_comm 1] using e
theorem setCells_ne {b : Nat} : ∀ (vs : List Value) (off : Nat) (w : World) (c : Nat), c ≠ b → (w.setCells b off vs).heap[c]? = w.heap[c]?
  | [], _, _, _, _ => rfl
  | v :: r, off, w, c, h => by
    rw [World.setCells, setCells_ne r _ _ _ h, setCell_ne h]
theorem setCells_out {b : Nat} : ∀ (vs : List Value) (off : Nat) (w : World), (w.setCells b off vs).os = w.os ∧ (w.setCells b off vs).output = w.output
  | [], _, _ => ⟨rfl, rfl⟩
  | v :: r, off, w => by rw [World.setCells]; exact setCells_out r _ _

section
variable {P : Program} {n : Nat} {M : List (Nat × Value)} {L : List Chunk} {K : List (Nat × Value) → List Chunk → Prop}
variable {d : Nat} {ty : TypeId} {ps : String} {af : Array Edge} {g : Option (Nat × Bool)} {x y : Operand} {v : Value}

theorem bytesRow_eq {s : ByteArray} {cap : Nat} : bytesRow s cap = (bsv s.data.toList ++ List.replicate (cap - s.size) (Value.int .u8 0)).toArray := by
  apply Array.ext'
  simp [bytesRow, bsv]
/-- []byte(s) -/
theorem OW_convBytes {s t e by_ : Nat} [hs : ST P s] [ht : SL P t e 1 by_] [he : IK P e .u8] {str : ByteArray} (hx : ev M x = some (.string str)) (hm : str.size ≤ maxLen) (hn : Nat.blt d n = true)
    (h : ∀ v C, OwF e 1 v str.size (bsv str.data.toList) C → K ((d, v) :: M) (C :: L)) : OW P n ⟨some d, .convert s t x, ty, ps, af, g⟩ K M L := ⟨fun a w next Q ha hw hk => by
  have hr := run_bytes_of_string (P := P) w s t e str hs.out (slcOf_und ht.out) he.out
  have hrun : (execOp a.eval ⟨some d, .convert s t x, ty, ps, af, g⟩).run P w = .ok (.value (.slice (some ⟨w.heap.size, 0, none⟩) str.size (grownCap w str.size 0 e)))
      (w.drew.alloc (.cells (bytesRow str (grownCap w str.size 0 e)) e ((bytesRow str (grownCap w str.size 0 e)).size, (bytesRow str (grownCap w str.size 0 e)).size + 1))) := by
    simp only [execOp, Sem.run_bind, ha.eval hx, hr, Result.andThen_ok, Sem.run_pure]
  unfold Oper.wp
  rw [hrun, Oper.upon_value]
  have hH := (hw.same (w' := w.drew) rfl rfl rfl).alloc (.cells (bytesRow str (grownCap w str.size 0 e)) e ((bytesRow str (grownCap w str.size 0 e)).size, (bytesRow str (grownCap w str.size 0 e)).size + 1))
  rw [bytesRow_eq] at hH ⊢
  have hge := grownCap_ge w str.size 0 e
  refine (hk _ _ (h _ _ ⟨w.heap.size, grownCap w str.size 0 e, List.replicate (grownCap w str.size 0 e - str.size) (Value.int .u8 0), (_, _), rfl, rfl, ?_, by simp, hge, grownCap_le_maxLen w str.size 0 e hm, ?_⟩)).out _ _ (ha.put _ hn) hH
  · rw [bsv_length, Nat.mul_one]; rfl
  · simp only [List.size_toArray]
    exact FrOk.behind _⟩

theorem OW_appendF {t e k by_ : Nat} [hs : SL P t e k by_] {z : Value} [hz : ZV P e z] {v r : Value} {m c : Nat} {xs ys : List Value} {C : Chunk} {A B : List Chunk} (hx : ev M x = some v) (hy : ev M y = some r) (hown : OwF e k v m xs C)
    (hsl : Sl L k r c ys) (hzip : Zip C L A B) (hzk : z.cells.size = k) (h1 : ones ys = true) (hb : (m + c) * by_ ≤ 140737488355328) (h63 : m + c ≤ maxLen)
    (hn : Nat.blt d n = true) (h : ∀ v' C', OwF e k v' (m + c) (xs ++ ys) C' → K ((d, v') :: M) (A ++ C' :: B)) :
    OW P n ⟨some d, .call ⟨.builtin .append, #[x, y], #[t, t]⟩, ty, ps, af, g⟩ K M L := ⟨fun a w next Q ha hw0 hk => by
  have hL := hzip.eq
  subst hL
  have hw := hw0.perm List.perm_middle
  replace hsl := hsl.perm (List.perm_middle (a := C) (l₁ := A) (l₂ := B))
  obtain ⟨ht, i, hi, hik, hib, hk0⟩ := hs.parts
  have hzz : i.zero = some z := by have := hz.out; rw [hi] at this; simpa using this
  subst hik hib
  have hsmall : m + c ≤ 9223372036854775807 := by simpa [maxLen] using h63
  obtain ⟨b, cap, rest, fr, rfl, rfl, hxl, hrl, hmc, hcm, hfr⟩ := hown
  have main : ∃ v' C' w', (Builtin.append_ #[t, t] ty #[.slice (some ⟨b, 0, none⟩) m cap, r]).run P w = .ok v' w' ∧ OwF e i.size v' (m + c) (xs ++ ys) C' ∧ Holds w' (C' :: (A ++ B)) := by
    have hfnd : w.heap[b]? = some (.cells (xs ++ rest).toArray e fr) := (Fnd.here : Fnd ([(b, .cells (xs ++ rest).toArray e fr)] :: (A ++ B)) b _).get hw
    rcases hsl with ⟨c', rfl, rfl, rfl⟩ | ⟨a', c', rfl, hrd, hyl⟩
    · refine ⟨.slice (some ⟨b, 0, none⟩) m cap, _, w, ?_, ⟨b, cap, rest, fr, by simp, rfl, by simpa using hxl, by simpa using hrl, by simpa using hmc, hcm, by simpa using hfr⟩, by simpa using hw⟩
      simp [Builtin.append_, run_underlying ht, sizeOf, typeInfo, hi, Builtin.lenOf, Builtin.firstCells, hmc, storeCells]
    · by_cases hroom : m + c ≤ cap
      · have hlen : m * i.size + ys.length ≤ (xs ++ rest).length := by
          simp only [List.length_append, hxl, hrl, hyl, ← Nat.add_mul]
          exact Nat.mul_le_mul_right _ (by omega)
        have hr := run_append_room_cells (P := P) (w := w) t ty e i ht hi b 0 m cap a' c c' ys hyl (hrd.cells hw) (ones_mem h1) hroom
          (fun j hj => by rw [cell_of hfnd]; simp; simp at hlen; omega)
          (fun j hj => by
            have := hfr (0 + m * i.size + j) (by omega)
            simp only [World.frozen?, hfnd]
            cases hd : (decide (fr.1 ≤ 0 + m * i.size + j) && decide (0 + m * i.size + j < fr.2)) with
            | false => rfl
            | true => simp at hd; exact absurd (by simpa using hd) this)
        rw [Nat.zero_add] at hr
        have hx1 : patch (xs ++ rest).toArray.toList (m * i.size) ys = (xs ++ ys) ++ rest.drop ys.length := by
          simp only [List.toList_toArray, patch]
          rw [← hxl, List.take_left]
          congr 1
          rw [List.drop_append]
          simp
        have hat := setCells_at (T := e) (fr := fr) ys (m * i.size) _ w hfnd (by simpa using hlen)
        rw [hx1] at hat
        refine ⟨_, [(b, .cells ((xs ++ ys) ++ rest.drop ys.length).toArray e fr)], _, hr, ⟨b, cap, rest.drop ys.length, fr, rfl, rfl, ?_, ?_, hroom, hcm, ?_⟩, ?_⟩
        · rw [List.length_append, hxl, hyl, Nat.add_mul]
        · rw [List.length_drop, hrl, hyl, ← Nat.sub_mul]; congr 1; omega
        · intro j hj
          refine hfr j ?_
          simp at hj hlen ⊢
          omega
        · exact hw.upd .here hat (fun q hq => setCells_ne _ _ _ _ hq) (setCells_out _ _ _).1 (setCells_out _ _ _).2
      · have hrd0 : RdAt ([(b, .cells (xs ++ rest).toArray e fr)] :: (A ++ B)) ⟨b, 0, none⟩ xs := .inr ⟨b, 0, _, _, _, rfl, .here, fun j u hj => by rw [Nat.zero_add]; simpa using getE_app hj⟩
        have hr := run_append_grow (P := P) w t ty e i z ht hi hzz ⟨b, 0, none⟩ m cap xs hxl (hrd0.cells hw) a' c c' ys hyl (hrd.cells hw) (by omega) (by omega) (growslice_fits (by omega) hb)
        refine ⟨_, [(w.heap.size, .cells ((xs ++ ys) ++ (Builtin.zeroCells z.cells (grownCap w (m + c) cap e - (m + c))).toList).toArray e (0, 0))], _, hr, ⟨w.heap.size, _, _, (0, 0), rfl, rfl, ?_, ?_, grownCap_ge w (m + c) cap e, grownCap_le_maxLen w (m + c) cap e h63, FrOk.zero _⟩, ?_⟩
        · rw [List.length_append, hxl, hyl, Nat.add_mul]
        · simp [size_zeroCells, hzk]
        · have h0 := (hw.drop.same (w' := w.drew) rfl rfl rfl).alloc (.cells (xs.toArray ++ ys.toArray ++ Builtin.zeroCells z.cells (grownCap w (m + c) cap e - (m + c))) e)
          have e1 : (xs ++ ys ++ (Builtin.zeroCells z.cells (grownCap w (m + c) cap e - (m + c))).toList).toArray = xs.toArray ++ ys.toArray ++ Builtin.zeroCells z.cells (grownCap w (m + c) cap e - (m + c)) := by
            apply Array.ext'; simp
          rw [e1]; exact h0
  obtain ⟨v', C', w', hr, ho, hw'⟩ := main
  unfold Oper.wp
  have hrun : (execOp a.eval ⟨some d, .call ⟨.builtin .append, #[x, y], #[t, t]⟩, ty, ps, af, g⟩).run P w = .ok (.value v') w' := by
    simp only [execOp, resolve, invoke, builtin, Sem.run_bind, Sem.run_pure, Result.andThen_ok, List.map_toArray, List.map_cons, List.map_nil, ha.eval hx, ha.eval hy, hr]
  rw [hrun, Oper.upon_value]
  exact (hk _ _ (h v' C' ho)).out _ _ (ha.put v' hn) (hw'.perm List.perm_middle.symm)⟩
end
end Go.Vx
