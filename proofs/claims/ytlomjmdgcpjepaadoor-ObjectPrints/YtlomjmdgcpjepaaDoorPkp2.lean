/- ObjectPrints returns true and leaves its arguments as they were, wherever what it reads is of bulk at most 1048576; the table that the program reads is tied to its text (the card). Condition: that bound. -/
import Derived.Test.YtlomjmdgcpjepaaDoorPkp1
namespace Go.Vx
open Go
set_option linter.all false
variable [W0]
omit [W0] in
/-- No cell of the row is marked. -/
def FrOk (fr : Nat × Nat) (n : Nat) : Prop := ∀ j, j < n → ¬ (fr.1 ≤ j ∧ j < fr.2)
theorem FrOk.zero (n : Nat) : FrOk (0, 0) n := fun j _ h => by simp at h
theorem FrOk.behind (n : Nat) : FrOk (n, n + 1) n := fun j hj h => by simp at h; omega
omit [W0] in
/-- A slice of the call's own whose row may bear a mark. -/
def OwF (e k : Nat) (v : Value) (m : Nat) (xs : List Value) (C : Chunk) : Prop :=
  ∃ b cap rest fr, v = .slice (some ⟨b, 0, none⟩) m cap ∧ C = [(b, .cells (xs ++ rest).toArray e fr)] ∧ xs.length = m * k ∧ rest.length = (cap - m) * k ∧ m ≤ cap ∧ cap ≤ maxLen ∧ FrOk fr (xs ++ rest).length
theorem owf_sl {e k m : Nat} {v : Value} {xs : List Value} {C : Chunk} {L : List Chunk} (h : OwF e k v m xs C) : Sl (C :: L) k v m xs := by
  obtain ⟨b, cap, rest, fr, rfl, rfl, hxl, hrl, hmc, hcm, hfr⟩ := h
  exact .inr ⟨_, _, rfl, .inr ⟨b, 0, _, _, _, rfl, .here, fun j u hj => by rw [Nat.zero_add]; simpa using getE_app hj⟩, hxl⟩
theorem setCells_at {b : Nat} {T : TypeId} {fr : Nat × Nat} : ∀ (vs : List Value) (off : Nat) (c : Array Value) (w : World), w.heap[b]? = some (.cells c T fr) → off + vs.length ≤ c.size →
    (w.setCells b off vs).heap[b]? = some (.cells (patch c.toList off vs).toArray T fr)
  | [], off, c, w, h, _ => by simpa [World.setCells, patch] using h
  | v :: r, off, c, w, h, hf => by
    simp only [List.length_cons] at hf
    have h1 := setCell_at (off := off) (v := v) h
    have h2 := setCells_at r (off + 1) _ _ h1 (by simp; omega)
    rw [World.setCells, h2]
    congr 2
    have e := list_seg_step c.toList off v r (by simp; omega)
    simpa [patch, Array.toList_setIfInBounds, Nat.add_assoc, Nat.add_comm 1] using e
theorem setCells_ne {b : Nat} : ∀ (vs : List Value) (off : Nat) (w : World) (c : Nat), c ≠ b → (w.setCells b off vs).heap[c]? = w.heap[c]?
  | [], _, _, _, _ => rfl
  | v :: r, off, w, c, h => by
    rw [World.setCells, setCells_ne r _ _ _ h, setCell_ne h]
theorem setCells_out {b : Nat} : ∀ (vs : List Value) (off : Nat) (w : World), (w.setCells b off vs).os = w.os ∧ (w.setCells b off vs).output = w.output
  | [], _, _ => ⟨rfl, rfl⟩
  | v :: r, off, w => by rw [World.setCells]; exact setCells_out r _ _
section
variable {P : Program} {n : Nat} {M : List (Nat × Value)} {L : List Chunk} {K : List (Nat × Value) → List Chunk → Prop}
variable {d : Nat} {ty : TypeId} {ps : String} {af : Array Edge} {g : Option (Nat × Bool)} {x y : Operand} {v : Value}
theorem bytesRow_eq {s : ByteArray} {cap : Nat} : bytesRow s cap = (bsv s.data.toList ++ List.replicate (cap - s.size) (Value.int .u8 0)).toArray := by
  apply Array.ext'
  simp [bytesRow, bsv]
theorem OW_convBytes {s t e by_ : Nat} [hs : ST P s] [ht : SL P t e 1 by_] [he : IK P e .u8] {str : ByteArray} (hx : ev M x = some (.string str)) (hm : str.size ≤ maxLen) (hn : Nat.blt d n = true)
    (h : ∀ v C, OwF e 1 v str.size (bsv str.data.toList) C → K ((d, v) :: M) (C :: L)) : OW P n ⟨some d, .convert s t x, ty, ps, af, g⟩ K M L := ⟨fun a w next Q ha hw hk => by
  have hr := run_bytes_of_string (P := P) w s t e str hs.out (slcOf_und ht.out) he.out
  have hrun : (execOp a.eval ⟨some d, .convert s t x, ty, ps, af, g⟩).run P w = .ok (.value (.slice (some ⟨w.heap.size, 0, none⟩) str.size (grownCap w str.size 0 e)))
      (w.drew.alloc (.cells (bytesRow str (grownCap w str.size 0 e)) e ((bytesRow str (grownCap w str.size 0 e)).size, (bytesRow str (grownCap w str.size 0 e)).size + 1))) := by
    simp only [execOp, Sem.run_bind, ha.eval hx, hr, Result.andThen_ok, Sem.run_pure]
  unfold Oper.wp
  rw [hrun, Oper.upon_value]
  have hH := (hw.same (w' := w.drew) rfl rfl rfl).alloc (.cells (bytesRow str (grownCap w str.size 0 e)) e ((bytesRow str (grownCap w str.size 0 e)).size, (bytesRow str (grownCap w str.size 0 e)).size + 1))
  rw [bytesRow_eq] at hH ⊢
  have hge := grownCap_ge w str.size 0 e
  refine (hk _ _ (h _ _ ⟨w.heap.size, grownCap w str.size 0 e, List.replicate (grownCap w str.size 0 e - str.size) (Value.int .u8 0), (_, _), rfl, rfl, ?_, by simp, hge, grownCap_le_maxLen w str.size 0 e hm, ?_⟩)).out _ _ (ha.put _ hn) hH
  · rw [bsv_length, Nat.mul_one]; rfl
  · simp only [List.size_toArray]
    exact FrOk.behind _⟩
theorem OW_appendF {t e k by_ : Nat} [hs : SL P t e k by_] {z : Value} [hz : ZV P e z] {v r : Value} {m c : Nat} {xs ys : List Value} {C : Chunk} {A B : List Chunk} (hx : ev M x = some v) (hy : ev M y = some r) (hown : OwF e k v m xs C)
    (hsl : Sl L k r c ys) (hzip : Zip C L A B) (hzk : z.cells.size = k) (h1 : ones ys = true) (hb : (m + c) * by_ ≤ 140737488355328) (h63 : m + c ≤ maxLen)
    (hn : Nat.blt d n = true) (h : ∀ v' C', OwF e k v' (m + c) (xs ++ ys) C' → K ((d, v') :: M) (A ++ C' :: B)) :
    OW P n ⟨some d, .call ⟨.builtin .append, #[x, y], #[t, t]⟩, ty, ps, af, g⟩ K M L := ⟨fun a w next Q ha hw0 hk => by
  have hL := hzip.eq
  subst hL
  have hw := hw0.perm List.perm_middle
  replace hsl := hsl.perm (List.perm_middle (a := C) (l₁ := A) (l₂ := B))
  obtain ⟨ht, i, hi, hik, hib, hk0⟩ := hs.parts
  have hzz : i.zero = some z := by have := hz.out; rw [hi] at this; simpa using this
  subst hik hib
  have hsmall : m + c ≤ 9223372036854775807 := by simpa [maxLen] using h63
  obtain ⟨b, cap, rest, fr, rfl, rfl, hxl, hrl, hmc, hcm, hfr⟩ := hown
  have main : ∃ v' C' w', (Builtin.append_ #[t, t] ty #[.slice (some ⟨b, 0, none⟩) m cap, r]).run P w = .ok v' w' ∧ OwF e i.size v' (m + c) (xs ++ ys) C' ∧ Holds w' (C' :: (A ++ B)) := by
    have hfnd : w.heap[b]? = some (.cells (xs ++ rest).toArray e fr) := (Fnd.here : Fnd ([(b, .cells (xs ++ rest).toArray e fr)] :: (A ++ B)) b _).get hw
    rcases hsl with ⟨c', rfl, rfl, rfl⟩ | ⟨a', c', rfl, hrd, hyl⟩
    · refine ⟨.slice (some ⟨b, 0, none⟩) m cap, _, w, ?_, ⟨b, cap, rest, fr, by simp, rfl, by simpa using hxl, by simpa using hrl, by simpa using hmc, hcm, by simpa using hfr⟩, by simpa using hw⟩
      simp [Builtin.append_, run_underlying ht, sizeOf, typeInfo, hi, Builtin.lenOf, Builtin.firstCells, hmc, storeCells]
    · by_cases hroom : m + c ≤ cap
      · have hlen : m * i.size + ys.length ≤ (xs ++ rest).length := by
          simp only [List.length_append, hxl, hrl, hyl, ← Nat.add_mul]
          exact Nat.mul_le_mul_right _ (by omega)
        have hr := run_append_room_cells (P := P) (w := w) t ty e i ht hi b 0 m cap a' c c' ys hyl (hrd.cells hw) (ones_mem h1) hroom
          (fun j hj => by rw [cell_of hfnd]; simp; simp at hlen; omega)
          (fun j hj => by
            have := hfr (0 + m * i.size + j) (by omega)
            simp only [World.frozen?, hfnd]
            cases hd : (decide (fr.1 ≤ 0 + m * i.size + j) && decide (0 + m * i.size + j < fr.2)) with
            | false => rfl
            | true => simp at hd; exact absurd (by simpa using hd) this)
        rw [Nat.zero_add] at hr
        have hx1 : patch (xs ++ rest).toArray.toList (m * i.size) ys = (xs ++ ys) ++ rest.drop ys.length := by
          simp only [List.toList_toArray, patch]
          rw [← hxl, List.take_left]
          congr 1
          rw [List.drop_append]
          simp
        have hat := setCells_at (T := e) (fr := fr) ys (m * i.size) _ w hfnd (by simpa using hlen)
        rw [hx1] at hat
        refine ⟨_, [(b, .cells ((xs ++ ys) ++ rest.drop ys.length).toArray e fr)], _, hr, ⟨b, cap, rest.drop ys.length, fr, rfl, rfl, ?_, ?_, hroom, hcm, ?_⟩, ?_⟩
        · rw [List.length_append, hxl, hyl, Nat.add_mul]
        · rw [List.length_drop, hrl, hyl, ← Nat.sub_mul]; congr 1; omega
        · intro j hj
          refine hfr j ?_
          simp at hj hlen ⊢
          omega
        · exact hw.upd .here hat (fun q hq => setCells_ne _ _ _ _ hq) (setCells_out _ _ _).1 (setCells_out _ _ _).2
      · have hrd0 : RdAt ([(b, .cells (xs ++ rest).toArray e fr)] :: (A ++ B)) ⟨b, 0, none⟩ xs := .inr ⟨b, 0, _, _, _, rfl, .here, fun j u hj => by rw [Nat.zero_add]; simpa using getE_app hj⟩
        have hr := run_append_grow (P := P) w t ty e i z ht hi hzz ⟨b, 0, none⟩ m cap xs hxl (hrd0.cells hw) a' c c' ys hyl (hrd.cells hw) (by omega) (by omega) (growslice_fits (by omega) hb)
        refine ⟨_, [(w.heap.size, .cells ((xs ++ ys) ++ (Builtin.zeroCells z.cells (grownCap w (m + c) cap e - (m + c))).toList).toArray e (0, 0))], _, hr, ⟨w.heap.size, _, _, (0, 0), rfl, rfl, ?_, ?_, grownCap_ge w (m + c) cap e, grownCap_le_maxLen w (m + c) cap e h63, FrOk.zero _⟩, ?_⟩
        · rw [List.length_append, hxl, hyl, Nat.add_mul]
        · simp [size_zeroCells, hzk]
        · have h0 := (hw.drop.same (w' := w.drew) rfl rfl rfl).alloc (.cells (xs.toArray ++ ys.toArray ++ Builtin.zeroCells z.cells (grownCap w (m + c) cap e - (m + c))) e)
          have e1 : (xs ++ ys ++ (Builtin.zeroCells z.cells (grownCap w (m + c) cap e - (m + c))).toList).toArray = xs.toArray ++ ys.toArray ++ Builtin.zeroCells z.cells (grownCap w (m + c) cap e - (m + c)) := by
            apply Array.ext'; simp
          rw [e1]; exact h0
  obtain ⟨v', C', w', hr, ho, hw'⟩ := main
  unfold Oper.wp
  have hrun : (execOp a.eval ⟨some d, .call ⟨.builtin .append, #[x, y], #[t, t]⟩, ty, ps, af, g⟩).run P w = .ok (.value v') w' := by
    simp only [execOp, resolve, invoke, builtin, Sem.run_bind, Sem.run_pure, Result.andThen_ok, List.map_toArray, List.map_cons, List.map_nil, ha.eval hx, ha.eval hy, hr]
  rw [hrun, Oper.upon_value]
  exact (hk _ _ (h v' C' ho)).out _ _ (ha.put v' hn) (hw'.perm List.perm_middle.symm)⟩
end
end Go.Vx
namespace Go.Proofs.YtlomjmdgcpjepaaDoor
open Go Go.Vx
variable [W0]
set_option maxRecDepth 4000
set_option linter.all false
omit [W0] in
/-- A text as the model has it. -/
def str (t : List UInt8) : ByteArray := ⟨t.toArray⟩
theorem str_size (t : List UInt8) : (str t).size = t.length := rfl
theorem str_get {t : List UInt8} {k : Nat} (h : k < t.length) : (str t)[k]? = some (t.getD k 0) := by
  show (str t).data[k]? = _
  simp [str, List.getD, h]
theorem str_data (t : List UInt8) : (str t).data.toList = t := rfl
end Go.Proofs.YtlomjmdgcpjepaaDoor
namespace Go.Proofs.YtlomjmdgcpjepaaDoor
open Go Go.Vx
variable [W0]
set_option maxRecDepth 4000
set_option linter.all false
theorem owf_slc {e k m : Nat} {v : Value} {xs : List Value} {C : Chunk} (h : OwF e k v m xs C) : ∃ b c, v = .slice (some ⟨b, 0, none⟩) m c := by
  obtain ⟨b, cap, rest, fr, rfl, _⟩ := h
  exact ⟨_, _, rfl⟩
omit [W0] in
def hcs (h : H5) : List Value := [w32 h.a, w32 h.b, w32 h.c, w32 h.d, w32 h.e]
end Go.Proofs.YtlomjmdgcpjepaaDoor
namespace Go.Proofs.YtlomjmdgcpjepaaDoor
open Go Go.Vx
variable [W0]
set_option maxRecDepth 4000
set_option linter.all false
omit [W0] in
/-- A digit's number; -1: it is none. -/
def dv (d : UInt8) : Int := if 48 ≤ d.toNat ∧ d.toNat ≤ 57 then (d.toNat : Int) - 48 else if 97 ≤ d.toNat ∧ d.toNat ≤ 102 then (d.toNat : Int) - 87 else -1
theorem dv_lt (d : UInt8) : dv d < 16 := by
  unfold dv; split
  · omega
  · split <;> omega
theorem dv_dig {i : Nat} (h : i < 16) : dv (dig i) = (i : Int) := by
  have : ∀ i : Fin 16, dv (dig i.val) = (i.val : Int) := by decide
  exact this ⟨i, h⟩
theorem dv_none (d : UInt8) (h : ∀ j, j < 16 → dig j ≠ d) : dv d = -1 := by
  have : ∀ n : Fin 256, (∀ j : Fin 16, dig j.val ≠ UInt8.ofNat n.val) → dv (UInt8.ofNat n.val) = -1 := by decide +kernel
  have h2 := this ⟨d.toNat, d.toNat_lt⟩
  simp only [UInt8.ofNat_toNat] at h2
  exact h2 fun j => h j.val j.isLt
omit [W0] in
def halfV (d : UInt8) : Value := if 0 ≤ dv d then .tuple #[.int .u8 (dv d), .bool true] else .tuple #[.int .u8 0, .bool false]
theorem half_n (d : UInt8) (L : List Chunk) : GvP Tryd.prog 48 [.int .u8 (d.toNat : Int)].toArray L (halfV d) := by
  refine Gv.of_body Tryd.func48 rfl rfl ?_
  have hd := d.toNat_lt
  (repeat' first|refine kX ?_|refine kU fun bk=>?_|refine kV fun hc=>?_|refine kZ (fun hc=>?_) fun hc=>?_|fail)
  · refine OW_EV (EV_ari rfl rfl rfl) rfl ?_
    have e : dv d = (d.toNat : Int) - 48 := by unfold dv; rw [if_pos (by omega)]
    have h0 : halfV d = .tuple #[.int .u8 ((d.toNat : Int) - 48), .bool true] := by unfold halfV; rw [if_pos (by omega), e]
    rw [wrap_u8, show (((d.toNat : Int) - 48) % 256).toNat = (d.toNat - 48 : Nat) from by omega, h0]
    (repeat' first|refine kX ?_|refine kU fun bk=>?_|refine kV fun hc=>?_|refine kZ (fun hc=>?_) fun hc=>?_|fail)
    refine kR ?_
    refine ⟨L, iC, ?_, rfl⟩
    rw [show ((d.toNat - 48 : Nat) : Int) = (d.toNat : Int) - 48 from by omega]
    rfl
  · refine OW_EV (EV_ari rfl rfl rfl) rfl ?_
    have e : dv d = (d.toNat : Int) - 87 := by unfold dv; rw [if_neg (by omega), if_pos (by omega)]
    have h0 : halfV d = .tuple #[.int .u8 ((d.toNat : Int) - 87), .bool true] := by unfold halfV; rw [if_pos (by omega), e]
    rw [wrap_u8, show (((d.toNat : Int) - 97) % 256).toNat = (d.toNat - 97 : Nat) from by omega, h0]
    (repeat' first|refine kX ?_|refine kU fun bk=>?_|refine kV fun hc=>?_|refine kZ (fun hc=>?_) fun hc=>?_|fail)
    refine OW_EV (EV_ari rfl rfl rfl) rfl ?_
    rw [wrap_u8, show ((((d.toNat - 97 : Nat) : Int) + 10) % 256).toNat = (d.toNat - 87 : Nat) from by omega]
    (repeat' first|refine kX ?_|refine kU fun bk=>?_|refine kV fun hc=>?_|refine kZ (fun hc=>?_) fun hc=>?_|fail)
    refine kR ?_
    refine ⟨L, iC, ?_, rfl⟩
    rw [show ((d.toNat - 87 : Nat) : Int) = (d.toNat : Int) - 87 from by omega]
    rfl
  all_goals
    have e : dv d = -1 := by unfold dv; rw [if_neg (by omega), if_neg (by omega)]
    have h0 : halfV d = .tuple #[.int .u8 0, .bool false] := by unfold halfV; rw [if_neg (by omega)]
    rw [h0]
    refine kR ?_
    exact ⟨L, iC, rfl, rfl⟩
theorem digit_n (d : UInt8) (L : List Chunk) : GvP Tryd.prog 49 [.int .u8 (d.toNat : Int)].toArray L (.int .i64 (dv d)) := by
  refine Gv.of_body Tryd.func49 rfl rfl ?_
  (repeat' first|refine kX ?_|refine kU fun bk=>?_|refine kV fun hc=>?_|refine kZ (fun hc=>?_) fun hc=>?_|fail)
  refine WC_loop (X := Nat) (fun k => [(0, .int .u8 (d.toNat : Int)), (3, .int .i64 (k : Int))]) (fun k => L) (fun k => k ≤ 16 ∧ ∀ j, j < k → dig j ≠ d) (fun k => 16 - k) 0 ⟨Nat.zero_le _, fun j h => by omega⟩ iS (fun w h => h) ?_
  intro k ⟨hk, hall⟩
  (repeat' first|refine kX ?_|refine kU fun bk=>?_|refine kV fun hc=>?_|refine kZ (fun hc=>?_) fun hc=>?_|fail)
  · have hlt : k < 16 := by omega
    refine OW_EV (EV_indexStr (s := digS) (j := k) rfl rfl rfl (dig_get hlt)) rfl ?_
    (repeat' first|refine kX ?_|refine kU fun bk=>?_|refine kV fun hc=>?_|refine kZ (fun hc=>?_) fun hc=>?_|fail)
    · have he : dig k = d := by
        apply UInt8.toNat_inj.1
        omega
      refine kR ?_
      refine ⟨L, iC, ?_, rfl⟩
      rw [← he, dv_dig hlt]
      rfl
    · have hne : dig k ≠ d := fun he => hc (by rw [he])
      refine WQ_round (X := Nat) (J := fun k => k ≤ 16 ∧ ∀ j, j < k → dig j ≠ d) (μ := fun k => 16 - k) (x := k) (k + 1) (by omega) ⟨by omega, fun j hj => ?_⟩ iS (fun w h => h)
      rcases Nat.lt_or_ge j k with h' | h'
      · exact hall j h'
      · rw [show j = k from by omega]; exact hne
  · have hk2 : k = 16 := by omega
    subst hk2
    refine kR ?_
    refine ⟨L, iC, ?_, rfl⟩
    rw [dv_none d hall]
    rfl
end Go.Proofs.YtlomjmdgcpjepaaDoor
namespace Go.Proofs.YtlomjmdgcpjepaaDoor
open Go Go.Vx
variable [W0]
set_option maxRecDepth 4000
set_option linter.all false
omit [W0] in
/-- Two digits, and what they are. -/
def okAt (t : List UInt8) (i : Nat) : Bool := decide (0 ≤ dv (t.getD (2 * i) 0)) && decide (0 ≤ dv (t.getD (2 * i + 1) 0))
omit [W0] in
def byAt (t : List UInt8) (i : Nat) : UInt8 := UInt8.ofNat (16 * (dv (t.getD (2 * i) 0)).toNat + (dv (t.getD (2 * i + 1) 0)).toNat)
omit [W0] in
def outN (t : List UInt8) (k : Nat) : List UInt8 := (List.range k).map (byAt t)
theorem outN_length (t : List UInt8) (k : Nat) : (outN t k).length = k := by simp [outN]
theorem outN_succ (t : List UInt8) (k : Nat) : outN t (k + 1) = outN t k ++ [byAt t k] := by simp [outN, List.range_succ]
omit [W0] in
def unB (t : List UInt8) : Bool := decide (t.length % 2 = 0) && (List.range (t.length / 2)).all (okAt t)
omit [W0] in
def unL (t : List UInt8) : List UInt8 := if unB t then outN t (t.length / 2) else []
theorem unB_odd {t : List UInt8} (h : t.length % 2 ≠ 0) : unB t = false := by simp [unB, h]
theorem unB_bad {t : List UInt8} {i : Nat} (h : i < t.length / 2) (hk : okAt t i = false) : unB t = false := by
  simp only [unB, Bool.and_eq_false_iff]
  refine .inr ?_
  rw [List.all_eq_false]
  exact ⟨i, List.mem_range.2 h, by simp [hk]⟩
theorem unB_good {t : List UInt8} (h : t.length % 2 = 0) (hk : ∀ i, i < t.length / 2 → okAt t i = true) : unB t = true := by
  simp only [unB, h, decide_true, Bool.true_and, List.all_eq_true]
  exact fun i hi => hk i (List.mem_range.1 hi)
theorem halfV_yes {d : UInt8} (h : 0 ≤ dv d) : halfV d = .tuple #[.int .u8 (dv d), .bool true] := if_pos h
theorem halfV_no {d : UInt8} (h : ¬ 0 ≤ dv d) : halfV d = .tuple #[.int .u8 0, .bool false] := if_neg h
theorem byAt_val {t : List UInt8} {i : Nat} (h1 : 0 ≤ dv (t.getD (2 * i) 0)) (h2 : 0 ≤ dv (t.getD (2 * i + 1) 0)) : ((byAt t i).toNat : Int) = 16 * dv (t.getD (2 * i) 0) + dv (t.getD (2 * i + 1) 0) := by
  have a1 := dv_lt (t.getD (2 * i) 0)
  have a2 := dv_lt (t.getD (2 * i + 1) 0)
  simp only [byAt, UInt8.toNat_ofNat']
  omega
theorem halves {a b : Nat} (ha : a < 16) (hb : b < 16) : bitI .or .u8 (IntKind.u8.wrap ((a : Int) * 2 ^ (min ((4 : Int)).toNat IntKind.u8.bits))) (b : Int) = some ((16 * a + b : Nat) : Int) := by
  have : ∀ a b : Fin 16, bitI .or .u8 (IntKind.u8.wrap ((a.val : Int) * 2 ^ (min ((4 : Int)).toNat IntKind.u8.bits))) (b.val : Int) = some ((16 * a.val + b.val : Nat) : Int) := by decide +kernel
  exact this ⟨a, ha⟩ ⟨b, hb⟩
set_option maxHeartbeats 2000000 in
theorem unhex_n (t : List UInt8) (L : List Chunk) (hlen : t.length ≤ 70368744177664) :
    Gv Tryd.prog 29 [.string (str t)].toArray L (fun r L' => ∃ v C, r = .tuple #[v, .bool (unB t)] ∧ L' = C :: L ∧ Ow 5 1 v (unL t).length (bsv (unL t)) C) := by
  refine Gv.of_body Tryd.func29 rfl rfl ?_
  have hno : unB t = false → Ow 5 1 (.slice none 0 0) (unL t).length (bsv (unL t)) [] := fun h => by
    unfold unL; rw [h]; exact .inl ⟨rfl, rfl, rfl, rfl⟩
  (repeat' first|refine kX ?_|refine kU fun bk=>?_|refine kV fun hc=>?_|refine kZ (fun hc=>?_) fun hc=>?_|fail)
  refine OW_EV (EV_rem rfl rfl (by decide)) rfl ?_
  rw [show (((str t).size : Nat) : Int).tmod 2 = ((t.length % 2 : Nat) : Int) from by rw [str_size, Int.tmod_eq_emod_of_nonneg (by omega)]; omega]
  (repeat' first|refine kX ?_|refine kU fun bk=>?_|refine kV fun hc=>?_|refine kZ (fun hc=>?_) fun hc=>?_|fail)
  · have hb := unB_odd (t := t) (by omega)
    refine WQ_holds (L' := [] :: L) (fun w h => Holds.nil.2 h) ?_
    refine kR ?_
    exact ⟨[] :: L, iC, .slice none 0 0, [], by rw [hb]; rfl, rfl, hno hb⟩
  · have hev : t.length % 2 = 0 := by omega
    refine OW_EV (EV_quo rfl rfl (by decide)) rfl ?_
    rw [show IntKind.i64.wrap ((((str t).size : Nat) : Int).tdiv 2) = ((t.length / 2 : Nat) : Int) from by
      rw [str_size, Int.tdiv_eq_ediv_of_nonneg (by omega), wrap_i64 (by omega) (by omega)]; omega]
    (repeat' first|refine kX ?_|refine kU fun bk=>?_|refine kV fun hc=>?_|refine kZ (fun hc=>?_) fun hc=>?_|fail)
    refine OW_makeSlice (m := 0) rfl rfl (by rfl) (by omega) (by omega) (by omega) rfl (fun bn => ?_)
    (repeat' first|refine kX ?_|refine kU fun bk=>?_|refine kV fun hc=>?_|refine kZ (fun hc=>?_) fun hc=>?_|fail)
    have ho : Ow 5 1 (.slice (some ⟨bn, 0, none⟩) 0 (t.length / 2)) 0 (bsv (outN t 0)) [(bn, cl (zeros [.int .u8 0] (t.length / 2)) 5)] :=
      .inr ⟨bn, t.length / 2, zeros [.int .u8 0] (t.length / 2), rfl, rfl, rfl, by simp [zeros_length], by omega, by simp [maxLen]; omega⟩
    refine WC_loop (X := Nat × Value × Chunk) (fun x => [(0, .string (str t)), (4, x.2.1), (5, .int .i64 ((2 * x.1 : Nat) : Int))])
      (fun x => x.2.2 :: L) (fun x => 2 * x.1 ≤ t.length ∧ (∀ i, i < x.1 → okAt t i = true) ∧ Ow 5 1 x.2.1 x.1 (bsv (outN t x.1)) x.2.2) (fun x => t.length - x.1) (0, _, _) ⟨Nat.zero_le _, fun i h => by omega, ho⟩ iS (fun w h => h) ?_
    intro x ⟨hx1, hx2, hx3⟩
    obtain ⟨k, s, C⟩ := x
    simp only at hx1 hx2 hx3 ⊢
    (repeat' first|refine kX ?_|refine kU fun bk=>?_|refine kV fun hc=>?_|refine kZ (fun hc=>?_) fun hc=>?_|fail)
    · rw [str_size] at hc
      have h0 : 2 * k + 1 < t.length := by omega
      obtain ⟨a, haq⟩ : ∃ a, a = t.getD (2 * k) 0 := ⟨_, rfl⟩
      obtain ⟨b, hbq⟩ : ∃ b, b = t.getD (2 * k + 1) 0 := ⟨_, rfl⟩
      have hal := dv_lt a
      have hbl := dv_lt b
      refine OW_EV (EV_indexStr (s := str t) (j := 2 * k) rfl rfl rfl (str_get (by omega))) rfl ?_
      rw [← haq]
      (repeat' first|refine kX ?_|refine kU fun bk=>?_|refine kV fun hc=>?_|refine kZ (fun hc=>?_) fun hc=>?_|fail)
      refine OW_callP rfl rfl rfl (half_n a _) rfl ?_
      by_cases ha : 0 ≤ dv a
      · rw [halfV_yes ha]
        (repeat' first|refine kX ?_|refine kU fun bk=>?_|refine kV fun hc=>?_|refine kZ (fun hc=>?_) fun hc=>?_|fail)
        refine OW_EV (EV_indexStr (s := str t) (j := 2 * k + 1) rfl rfl (by omega) (str_get h0)) rfl ?_
        rw [← hbq]
        (repeat' first|refine kX ?_|refine kU fun bk=>?_|refine kV fun hc=>?_|refine kZ (fun hc=>?_) fun hc=>?_|fail)
        refine OW_callP rfl rfl rfl (half_n b _) rfl ?_
        by_cases hb : 0 ≤ dv b
        · rw [halfV_yes hb]
          have hok : okAt t k = true := by unfold okAt; rw [← haq, ← hbq]; simp [ha, hb]
          have hby := byAt_val (t := t) (i := k) (by rw [← haq]; exact ha) (by rw [← hbq]; exact hb)
          rw [← haq, ← hbq] at hby
          (repeat' first|refine kX ?_|refine kU fun bk=>?_|refine kV fun hc=>?_|refine kZ (fun hc=>?_) fun hc=>?_|fail)
          refine OW_EV (EV_shl rfl rfl (by omega) rfl) rfl ?_
          (repeat' first|refine kX ?_|refine kU fun bk=>?_|refine kV fun hc=>?_|refine kZ (fun hc=>?_) fun hc=>?_|fail)
          have hh : bitI .or .u8 (IntKind.u8.wrap (dv a * 2 ^ (min ((4 : Int)).toNat IntKind.u8.bits))) (dv b) = some ((byAt t k).toNat : Int) := by
            have := halves (a := (dv a).toNat) (b := (dv b).toNat) (by omega) (by omega)
            rw [Int.toNat_of_nonneg ha, Int.toNat_of_nonneg hb] at this
            rw [this]
            congr 1
            omega
          refine OW_EV (EV_bit rfl rfl hh) rfl ?_
          (repeat' first|refine kX ?_|refine kU fun bk=>?_|refine kV fun hc=>?_|refine kZ (fun hc=>?_) fun hc=>?_|fail)
          refine OW_buildSlice (cs := bsv [byAt t k]) rfl (by rfl) (by simp [fillL, patch, Value.cells, zeros]; rfl) (by omega) rfl rfl (fun bk => ?_)
          (repeat' first|refine kX ?_|refine kU fun bk=>?_|refine kV fun hc=>?_|refine kZ (fun hc=>?_) fun hc=>?_|fail)
          refine OW_append rfl rfl hx3 (sl_cells (c := (bsv [byAt t k]).toArray) (xs := bsv [byAt t k]) (m := 1) Fnd.here rfl (by simp)) (by repeat (first | exact Zip.here _ | apply Zip.there)) (by rfl) bsv_ones (by omega) (by simp [maxLen]; omega) rfl (fun v' C' ho1 h1 h2 => ?_)
          rw [← bsv_append, ← outN_succ] at ho1
          (repeat' first|refine kX ?_|refine kU fun bk=>?_|refine kV fun hc=>?_|refine kZ (fun hc=>?_) fun hc=>?_|fail)
          refine WQ_round (X := Nat × Value × Chunk) (μ := fun x => t.length - x.1) (x := (k, s, C)) (k + 1, v', C') (by simp only; omega)
            ⟨by simp only; omega, fun i hi => ?_, ho1⟩ iS (fun w h => iH h)
          rcases Nat.lt_or_ge i k with h' | h'
          · exact hx2 i h'
          · rw [show i = k from by simp only at hi; omega]; exact hok
        · rw [halfV_no hb]
          have hbad := unB_bad (t := t) (i := k) (by omega) (by unfold okAt; rw [← haq, ← hbq, decide_eq_false hb]; simp)
          (repeat' first|refine kX ?_|refine kU fun bk=>?_|refine kV fun hc=>?_|refine kZ (fun hc=>?_) fun hc=>?_|fail)
          refine WQ_holds (L' := [] :: L) (fun w h => Holds.nil.2 h.drop) ?_
          refine kR ?_
          exact ⟨[] :: L, iC, .slice none 0 0, [], by rw [hbad]; rfl, rfl, hno hbad⟩
      · rw [halfV_no ha]
        (repeat' first|refine kX ?_|refine kU fun bk=>?_|refine kV fun hc=>?_|refine kZ (fun hc=>?_) fun hc=>?_|fail)
        refine OW_EV (EV_indexStr (s := str t) (j := 2 * k + 1) rfl rfl (by omega) (str_get h0)) rfl ?_
        rw [← hbq]
        (repeat' first|refine kX ?_|refine kU fun bk=>?_|refine kV fun hc=>?_|refine kZ (fun hc=>?_) fun hc=>?_|fail)
        refine OW_callP rfl rfl rfl (half_n b _) rfl ?_
        have hx : ∃ x y, halfV b = .tuple #[.int .u8 x, .bool y] := by
          unfold halfV; split <;> exact ⟨_, _, rfl⟩
        obtain ⟨x, y, hxy⟩ := hx
        rw [hxy]
        have hbad := unB_bad (t := t) (i := k) (by omega) (by unfold okAt; rw [← haq, ← hbq, decide_eq_false ha]; simp)
        (repeat' first|refine kX ?_|refine kU fun bk=>?_|refine kV fun hc=>?_|refine kZ (fun hc=>?_) fun hc=>?_|fail)
        refine WQ_holds (L' := [] :: L) (fun w h => Holds.nil.2 h.drop) ?_
        refine kR ?_
        exact ⟨[] :: L, iC, .slice none 0 0, [], by rw [hbad]; rfl, rfl, hno hbad⟩
    · rw [str_size] at hc
      have hk : k = t.length / 2 := by omega
      have hb : unB t = true := unB_good hev fun i hi => hx2 i (by omega)
      have hl : unL t = outN t k := by unfold unL; rw [hb, hk]; rfl
      refine kR ?_
      refine ⟨C :: L, iC, s, C, by rw [hb]; rfl, rfl, ?_⟩
      rw [hl, outN_length]
      exact hx3
end Go.Proofs.YtlomjmdgcpjepaaDoor
namespace Go.Proofs.YtlomjmdgcpjepaaDoor
open Go Go.Vx
variable [W0]
set_option maxRecDepth 4000
set_option linter.all false
set_option maxHeartbeats 2000000 in
theorem refunhex_n (t : List UInt8) (L : List Chunk) (hlen : t.length ≤ 70368744177664) :
    Gv Tryd.prog 30 [.string (str t)].toArray L (fun r L' => ∃ v C, r = .tuple #[v, .bool (unB t)] ∧ L' = C :: L ∧ Ow 5 1 v (unL t).length (bsv (unL t)) C) := by
  refine Gv.of_body Tryd.func30 rfl rfl ?_
  have hno : unB t = false → Ow 5 1 (.slice none 0 0) (unL t).length (bsv (unL t)) [] := fun h => by
    unfold unL; rw [h]; exact .inl ⟨rfl, rfl, rfl, rfl⟩
  (repeat' first|refine kX ?_|refine kU fun bk=>?_|refine kV fun hc=>?_|refine kZ (fun hc=>?_) fun hc=>?_|fail)
  refine OW_EV (EV_rem rfl rfl (by decide)) rfl ?_
  rw [show (((str t).size : Nat) : Int).tmod 2 = ((t.length % 2 : Nat) : Int) from by rw [str_size, Int.tmod_eq_emod_of_nonneg (by omega)]; omega]
  (repeat' first|refine kX ?_|refine kU fun bk=>?_|refine kV fun hc=>?_|refine kZ (fun hc=>?_) fun hc=>?_|fail)
  · have hb := unB_odd (t := t) (by omega)
    refine WQ_holds (L' := [] :: L) (fun w h => Holds.nil.2 h) ?_
    refine kR ?_
    exact ⟨[] :: L, iC, .slice none 0 0, [], by rw [hb]; rfl, rfl, hno hb⟩
  · have hev : t.length % 2 = 0 := by omega
    apply OW_buildSlice (parts := []) rfl (by rfl) (by simp [fillL]; rfl) (by omega) rfl rfl (fun bn => ?_)
    (repeat' first|refine kX ?_|refine kU fun bk=>?_|refine kV fun hc=>?_|refine kZ (fun hc=>?_) fun hc=>?_|fail)
    have ho : Ow 5 1 (.slice (some ⟨bn, 0, none⟩) 0 0) 0 (bsv (outN t 0)) [(bn, cl [] 5)] :=
      .inr ⟨bn, 0, [], rfl, rfl, rfl, rfl, Nat.le_refl _, by simp [maxLen]⟩
    refine WC_loop (X := Nat × Value × Chunk) (fun x => [(0, .string (str t)), (4, x.2.1), (5, .int .i64 ((2 * x.1 : Nat) : Int))])
      (fun x => x.2.2 :: L) (fun x => 2 * x.1 ≤ t.length ∧ (∀ i, i < x.1 → okAt t i = true) ∧ Ow 5 1 x.2.1 x.1 (bsv (outN t x.1)) x.2.2) (fun x => t.length - x.1) (0, _, _) ⟨Nat.zero_le _, fun i h => by omega, ho⟩ iS (fun w h => h) ?_
    intro x ⟨hx1, hx2, hx3⟩
    obtain ⟨k, s, C⟩ := x
    simp only at hx1 hx2 hx3 ⊢
    (repeat' first|refine kX ?_|refine kU fun bk=>?_|refine kV fun hc=>?_|refine kZ (fun hc=>?_) fun hc=>?_|fail)
    · rw [str_size] at hc
      have h0 : 2 * k + 1 < t.length := by omega
      obtain ⟨a, haq⟩ : ∃ a, a = t.getD (2 * k) 0 := ⟨_, rfl⟩
      obtain ⟨b, hbq⟩ : ∃ b, b = t.getD (2 * k + 1) 0 := ⟨_, rfl⟩
      have hal := dv_lt a
      have hbl := dv_lt b
      have hal0 : -1 ≤ dv a := by unfold dv; split; omega; split <;> omega
      have hbl0 : -1 ≤ dv b := by unfold dv; split; omega; split <;> omega
      refine OW_EV (EV_indexStr (s := str t) (j := 2 * k) rfl rfl rfl (str_get (by omega))) rfl ?_
      rw [← haq]
      (repeat' first|refine kX ?_|refine kU fun bk=>?_|refine kV fun hc=>?_|refine kZ (fun hc=>?_) fun hc=>?_|fail)
      refine OW_callP rfl rfl rfl (digit_n a _) rfl ?_
      (repeat' first|refine kX ?_|refine kU fun bk=>?_|refine kV fun hc=>?_|refine kZ (fun hc=>?_) fun hc=>?_|fail)
      refine OW_EV (EV_indexStr (s := str t) (j := 2 * k + 1) rfl rfl (by omega) (str_get h0)) rfl ?_
      rw [← hbq]
      (repeat' first|refine kX ?_|refine kU fun bk=>?_|refine kV fun hc=>?_|refine kZ (fun hc=>?_) fun hc=>?_|fail)
      refine OW_callP rfl rfl rfl (digit_n b _) rfl ?_
      (repeat' first|refine kX ?_|refine kU fun bk=>?_|refine kV fun hc=>?_|refine kZ (fun hc=>?_) fun hc=>?_|fail)
      · have hbad := unB_bad (t := t) (i := k) (by omega) (by unfold okAt; rw [← haq, ← hbq, decide_eq_false (by omega)]; simp)
        refine WQ_holds (L' := [] :: L) (fun w h => Holds.nil.2 h.drop) ?_
        refine kR ?_
        exact ⟨[] :: L, iC, .slice none 0 0, [], by rw [hbad]; rfl, rfl, hno hbad⟩
      · have hbad := unB_bad (t := t) (i := k) (by omega) (by unfold okAt; rw [← haq, ← hbq, decide_eq_false (p := 0 ≤ dv b) (by omega)]; simp)
        refine WQ_holds (L' := [] :: L) (fun w h => Holds.nil.2 h.drop) ?_
        refine kR ?_
        exact ⟨[] :: L, iC, .slice none 0 0, [], by rw [hbad]; rfl, rfl, hno hbad⟩
      · have ha : 0 ≤ dv a := by omega
        have hb : 0 ≤ dv b := by omega
        have hok : okAt t k = true := by unfold okAt; rw [← haq, ← hbq]; simp [ha, hb]
        have hby := byAt_val (t := t) (i := k) (by rw [← haq]; exact ha) (by rw [← hbq]; exact hb)
        rw [← haq, ← hbq] at hby
        have hh : IntKind.u8.wrap (16 * dv a + dv b) = ((byAt t k).toNat : Int) := by
          rw [hby, wrap_u8]; omega
        rw [hh]
        refine OW_buildSlice (cs := bsv [byAt t k]) rfl (by rfl) (by simp [fillL, patch, Value.cells, zeros]; rfl) (by omega) rfl rfl (fun bk => ?_)
        (repeat' first|refine kX ?_|refine kU fun bk=>?_|refine kV fun hc=>?_|refine kZ (fun hc=>?_) fun hc=>?_|fail)
        refine OW_append rfl rfl hx3 (sl_cells (c := (bsv [byAt t k]).toArray) (xs := bsv [byAt t k]) (m := 1) Fnd.here rfl (by simp)) (by repeat (first | exact Zip.here _ | apply Zip.there)) (by rfl) bsv_ones (by omega) (by simp [maxLen]; omega) rfl (fun v' C' ho1 h1 h2 => ?_)
        rw [← bsv_append, ← outN_succ] at ho1
        (repeat' first|refine kX ?_|refine kU fun bk=>?_|refine kV fun hc=>?_|refine kZ (fun hc=>?_) fun hc=>?_|fail)
        refine WQ_round (X := Nat × Value × Chunk) (μ := fun x => t.length - x.1) (x := (k, s, C)) (k + 1, v', C') (by simp only; omega)
          ⟨by simp only; omega, fun i hi => ?_, ho1⟩ iS (fun w h => iH h)
        rcases Nat.lt_or_ge i k with h' | h'
        · exact hx2 i h'
        · rw [show i = k from by simp only at hi; omega]; exact hok
    · rw [str_size] at hc
      have hk : k = t.length / 2 := by omega
      have hb : unB t = true := unB_good hev fun i hi => hx2 i (by omega)
      have hl : unL t = outN t k := by unfold unL; rw [hb, hk]; rfl
      refine kR ?_
      refine ⟨C :: L, iC, s, C, by rw [hb]; rfl, rfl, ?_⟩
      rw [hl, outN_length]
      exact hx3
end Go.Proofs.YtlomjmdgcpjepaaDoor
namespace Go.Vx
open Go
set_option linter.all false
variable [W0]
section
variable {P : Program} {n : Nat} {M : List (Nat × Value)} {L : List Chunk} {K : List (Nat × Value) → List Chunk → Prop}
variable {d : Nat} {ty : TypeId} {ps : String} {af : Array Edge} {g : Option (Nat × Bool)} {x y : Operand} {v : Value}
theorem OW_rangeS {t : TypeId} [hst : ST P t] {s : ByteArray} (hx : ev M x = some (.string s)) (hn : Nat.blt d n = true) (h : ∀ b, K ((d, .pointer (some ⟨b, 0, none⟩)) :: M) ([(b, .stringIter s 0)] :: L)) :
    OW P n ⟨some d, .range t x, ty, ps, af, g⟩ K M L :=
  OW_newval (f := fun b => .pointer (some ⟨b, 0, none⟩)) rfl hn (fun a w ha hw => by
    simp [execOp, Instr.range, ha.eval hx, underlying, hst.out, newObj, Sem.run, Result.andThen]) h
theorem OW_nextS {b pos : Nat} {s : ByteArray} {L' : List Chunk} (hx : ev M x = some (.pointer (some ⟨b, 0, none⟩))) (hp : pos < s.size) (hu : Upd L b (.stringIter s pos) (.stringIter s (pos + (Utf8.decode s pos).2)) L') (hn : Nat.blt d n = true)
    (h : K ((d, .tuple #[.bool true, .int .i64 (pos : Int), .int .i32 ((Utf8.decode s pos).1 : Int)]) :: M) L') :
    OW P n ⟨some d, .next x true, ty, ps, af, g⟩ K M L := ⟨fun a w nx Q ha hw hk => by
  have hb := hu.fnd.get hw
  have hlt : b < w.heap.size := (Array.getElem?_eq_some_iff.1 hb).1
  have hrun : (execOp a.eval ⟨some d, .next x true, ty, ps, af, g⟩).run P w = .ok (.value (.tuple #[.bool true, .int .i64 (pos : Int), .int .i32 ((Utf8.decode s pos).1 : Int)])) { w with heap := w.heap.setIfInBounds b (.stringIter s (pos + (Utf8.decode s pos).2)) } := by
    simp [execOp, ha.eval hx, Instr.next, getObj, setObj, Sem.run, hb, hp, goInt]
  unfold Oper.wp
  rw [hrun, Oper.upon_value]
  refine (hk _ _ h).out _ _ (ha.put _ hn) (hw.upd hu ?_ ?_ rfl rfl)
  · simp [hlt]
  · intro c hc; simp [Ne.symm hc]⟩
theorem EV_endS {b pos : Nat} {s : ByteArray} (hx : ev M x = some (.pointer (some ⟨b, 0, none⟩))) (hf : Fnd L b (.stringIter s pos)) (hp : ¬ pos < s.size) :
    EV P n ⟨some d, .next x true, ty, ps, af, g⟩ M L d (.tuple #[.bool false]) :=
  ⟨rfl, fun a w ha hw => by
    have hb := hf.get hw
    simp [execOp, ha.eval hx, Instr.next, getObj, Sem.run, hb, hp]⟩
end
end Go.Vx
namespace Go.Ob
open Go Go.Lib Go.Vx
set_option linter.all false
set_option maxRecDepth 4000
def sCommit : List UInt8 := [99, 111, 109, 109, 105, 116]
def sTree : List UInt8 := [116, 114, 101, 101]
def sBlob : List UInt8 := [98, 108, 111, 98]
def sTag : List UInt8 := [116, 97, 103]
def wTree : List UInt8 := [116, 114, 101, 101, 32]
def wParent : List UInt8 := [112, 97, 114, 101, 110, 116, 32]
def wAuthor : List UInt8 := [97, 117, 116, 104, 111, 114, 32]
def wCommitter : List UInt8 := [99, 111, 109, 109, 105, 116, 116, 101, 114, 32]
def wObject : List UInt8 := [111, 98, 106, 101, 99, 116, 32]
def wType : List UInt8 := [116, 121, 112, 101, 32]
def wTag : List UInt8 := [116, 97, 103, 32]
def wTagger : List UInt8 := [116, 97, 103, 103, 101, 114, 32]
open Go.Proofs.YtlomjmdgcpjepaaDoor
def nmL : Nat → List UInt8
  | 1 => sCommit
  | 2 => sTree
  | 3 => sBlob
  | 4 => sTag
  | _ => []
def nmI (k : Int) : List UInt8 := if 1 ≤ k ∧ k ≤ 4 then nmL k.toNat else []
def kdL (s : List UInt8) : Nat := if s = sCommit then 1 else if s = sTree then 2 else if s = sBlob then 3 else if s = sTag then 4 else 0
def dgF : Nat → Nat → List UInt8
  | 0, _ => []
  | f + 1, n => if n < 10 then [UInt8.ofNat (48 + n)] else dgF f (n / 10) ++ [UInt8.ofNat (48 + n % 10)]
def dgL (n : Nat) : List UInt8 := dgF 20 n
def hdL (k size : Int) : List UInt8 := nmI k ++ [32] ++ dgL (max size 0).toNat ++ [0]
def idL (k : Int) (body : List UInt8) : List UInt8 := hexL (shaN (hdL k (body.length : Int) ++ body))
def hshB (s : List UInt8) : Bool := decide (s.length = 40) && unB s
def zrL : List UInt8 := List.replicate 40 48
def rawL (s : List UInt8) : List UInt8 := if hshB s then unL s else List.replicate 20 0
def inP (c : Nat) : Bool := decide (c ≠ 60) && decide (c ≠ 62) && decide (c ≠ 10) && decide (c ≠ 0)
def inD (c : Nat) : Bool := decide (48 ≤ c) && decide (c ≤ 57)
def cutN (c : UInt8) : List UInt8 → List UInt8 × List UInt8
  | [] => ([], [])
  | x :: t => if x = c then ([], t) else (x :: (cutN c t).1, (cutN c t).2)
def cutT (a b : UInt8) : List UInt8 → List UInt8 × List UInt8
  | [] => ([], [])
  | x :: t => if x = a ∧ t.head? = some b then ([], t.tail) else (x :: (cutT a b t).1, (cutT a b t).2)
def timB (s : List UInt8) : Bool := decide (s ≠ []) && decide (s.length ≤ 12) && (decide (s.length ≤ 1) || decide (s.getD 0 0 ≠ 48)) && s.all (fun b => inD b.toNat)
def zonB (s : List UInt8) : Bool := decide (s.length = 5) && (decide (s.getD 0 0 = 43) || decide (s.getD 0 0 = 45)) && (s.drop 1).all (fun b => inD b.toNat)
def perB (s : List UInt8) : Bool :=
  let p1 := cutT 32 60 s
  let p2 := cutT 62 32 p1.2
  let p3 := cutN 32 p2.2
  consB inP p1.1 && consB inP p2.1 && timB p3.1 && zonB p3.2
structure Et where
  m : List UInt8
  n : List UInt8
  i : List UInt8
def prE (x : Et) : List UInt8 := x.m ++ [32] ++ x.n ++ [0] ++ rawL x.i
def prT : List Et → List UInt8
  | [] => []
  | x :: r => prE x ++ prT r
theorem prT_app : ∀ a b : List Et, prT (a ++ b) = prT a ++ prT b
  | [], b => rfl
  | x :: r, b => by simp [prT, prT_app r b]
structure Co where
  t : List UInt8
  ps : List (List UInt8)
  a : List UInt8
  c : List UInt8
  m : List UInt8
def lnL (w x : List UInt8) : List UInt8 := w ++ x ++ [10]
def prP : List (List UInt8) → List UInt8
  | [] => []
  | p :: r => lnL wParent p ++ prP r
theorem prP_app : ∀ a b : List (List UInt8), prP (a ++ b) = prP a ++ prP b
  | [], b => rfl
  | x :: r, b => by simp [prP, prP_app r b]
def prC (o : Co) : List UInt8 := lnL wTree o.t ++ prP o.ps ++ lnL wAuthor o.a ++ lnL wCommitter o.c ++ [10] ++ o.m
structure Tg where
  o : List UInt8
  k : Int
  n : List UInt8
  t : List UInt8
  m : List UInt8
def prG (o : Tg) : List UInt8 := lnL wObject o.o ++ lnL wType (nmI o.k) ++ lnL wTag o.n ++ lnL wTagger o.t ++ [10] ++ o.m
end Go.Ob
namespace Go.Ob
open Go Go.Lib Go.Vx
set_option linter.all false
set_option maxRecDepth 4000
theorem cutN_spec (c : UInt8) : ∀ s : List UInt8, (c ∉ s ∧ cutN c s = (s, [])) ∨ ∃ a t, c ∉ a ∧ s = a ++ c :: t ∧ cutN c s = (a, t)
  | [] => .inl ⟨by simp, rfl⟩
  | x :: s => by
    unfold cutN
    by_cases hx : x = c
    · subst hx
      exact .inr ⟨[], s, by simp, rfl, by rw [if_pos rfl]⟩
    · rw [if_neg hx]
      rcases cutN_spec c s with ⟨h1, h2⟩ | ⟨a, t, h1, h2, h3⟩
      · exact .inl ⟨by simp [h1, Ne.symm hx], by rw [h2]⟩
      · exact .inr ⟨x :: a, t, by simp [h1, Ne.symm hx], by rw [h2]; rfl, by rw [h3]⟩
theorem cutT_spec (a b : UInt8) : ∀ s : List UInt8, cutT a b s = (s, []) ∨ ∃ x t, s = x ++ a :: b :: t ∧ cutT a b s = (x, t)
  | [] => .inl rfl
  | x :: s => by
    unfold cutT
    by_cases hx : x = a ∧ s.head? = some b
    · rw [if_pos hx]
      obtain ⟨rfl, hx⟩ := hx
      cases s with
      | nil => simp at hx
      | cons y s =>
        simp only [List.head?_cons, Option.some.injEq] at hx
        subst hx
        exact .inr ⟨[], s, rfl, rfl⟩
    · rw [if_neg hx]
      rcases cutT_spec a b s with h | ⟨y, t, h1, h2⟩
      · left; rw [h]
      · exact .inr ⟨x :: y, t, by rw [h1]; rfl, by rw [h2]⟩
theorem inD_lo (c : Nat) (h : 128 ≤ c) : inD c = false := by unfold inD; simp; omega
end Go.Ob
namespace Go.Vx
open Go Go.Lib Go.RowKit
set_option linter.all false
variable [W0]
omit [W0] in
/-- A slice of bytes of the call's own: none, or a row that may bear a mark. -/
def OwG (e : Nat) (v : Value) (m : Nat) (xs : List Value) (C : Chunk) : Prop := (v = .slice none 0 0 ∧ m = 0 ∧ xs = [] ∧ C = []) ∨ OwF e 1 v m xs C
theorem OwG.nil {e : Nat} : OwG e (.slice none 0 0) 0 [] [] := .inl ⟨rfl, rfl, rfl, rfl⟩
theorem OwG.f {e m : Nat} {v : Value} {xs : List Value} {C : Chunk} (h : OwF e 1 v m xs C) : OwG e v m xs C := .inr h
theorem OwG.ow {e m : Nat} {v : Value} {xs : List Value} {C : Chunk} (h : Ow e 1 v m xs C) : OwG e v m xs C := by
  rcases h with h | ⟨b, cap, rest, rfl, rfl, h1, h2, h3, h4⟩
  · exact .inl h
  · exact .inr ⟨b, cap, rest, (0, 0), rfl, rfl, h1, h2, h3, h4, FrOk.zero _⟩
theorem OwG.sl {e m : Nat} {v : Value} {xs : List Value} {C : Chunk} {L : List Chunk} (h : OwG e v m xs C) : Sl (C :: L) 1 v m xs := by
  rcases h with ⟨rfl, rfl, rfl, rfl⟩ | h
  · exact .inl ⟨0, rfl, rfl, rfl⟩
  · exact owf_sl h
theorem OwG.room {e m : Nat} {v : Value} {xs : List Value} {C : Chunk} (h : OwG e v m xs C) : ∃ a c, v = .slice a m c ∧ m ≤ c := by
  rcases h with ⟨rfl, rfl, rfl, rfl⟩ | ⟨b, cap, rest, fr, rfl, rfl, h1, h2, h3, h4, _⟩
  · exact ⟨_, _, rfl, Nat.le_refl _⟩
  · exact ⟨_, _, rfl, h3⟩
theorem OwG.len {e m : Nat} {v : Value} {xs : List Value} {C : Chunk} (h : OwG e v m xs C) : xs.length = m := by
  rcases h with ⟨rfl, rfl, rfl, rfl⟩ | ⟨b, cap, rest, fr, rfl, rfl, h1, h2, h3, h4, _⟩
  · rfl
  · simpa using h1
section
variable {P : Program} {n : Nat} {M : List (Nat × Value)} {L : List Chunk} {K : List (Nat × Value) → List Chunk → Prop}
variable {d : Nat} {ty : TypeId} {ps : String} {af : Array Edge} {g : Option (Nat × Bool)} {x y : Operand} {v : Value}
theorem OW_appG {t e by_ : Nat} [hs : SL P t e 1 by_] {z : Value} [hz : ZV P e z] {v r : Value} {m c : Nat} {xs ys : List Value} {C : Chunk} {A B : List Chunk} (hx : ev M x = some v) (hy : ev M y = some r) (hown : OwG e v m xs C)
    (hsl : Sl L 1 r c ys) (hzip : Zip C L A B) (hzk : z.cells.size = 1) (h1 : ones ys = true) (hb : (m + c) * by_ ≤ 140737488355328) (h63 : m + c ≤ maxLen)
    (hn : Nat.blt d n = true) (h : ∀ v' C', OwG e v' (m + c) (xs ++ ys) C' → K ((d, v') :: M) (A ++ C' :: B)) :
    OW P n ⟨some d, .call ⟨.builtin .append, #[x, y], #[t, t]⟩, ty, ps, af, g⟩ K M L := by
  rcases hown with ⟨rfl, rfl, rfl, rfl⟩ | hown
  · exact OW_append hx hy (.inl ⟨rfl, rfl, rfl, rfl⟩) hsl hzip hzk h1 hb h63 hn (fun v' C' ho _ _ => h v' C' (OwG.ow ho))
  · exact OW_appendF hx hy hown hsl hzip hzk h1 hb h63 hn (fun v' C' ho => h v' C' (.inr ho))
omit [W0] in
theorem strCells_bsv (q : ByteArray) : strCells q = bsv q.data.toList := rfl
theorem OW_appGS {t s e by_ : Nat} [hs : SL P t e 1 by_] [hst : ST P s] [hz : ZV P e (.int .u8 0)] {v : Value} {m : Nat} {xs : List Value} {C : Chunk} {A B : List Chunk} {q : ByteArray} (hx : ev M x = some v) (hy : ev M y = some (.string q)) (hown : OwG e v m xs C)
    (hzip : Zip C L A B) (hb : (m + q.size) * by_ ≤ 140737488355328) (h63 : m + q.size ≤ maxLen)
    (hn : Nat.blt d n = true) (h : ∀ v' C', OwG e v' (m + q.size) (xs ++ bsv q.data.toList) C' → K ((d, v') :: M) (A ++ C' :: B)) :
    OW P n ⟨some d, .call ⟨.builtin .append, #[x, y], #[t, s]⟩, ty, ps, af, g⟩ K M L := ⟨fun a w next Q ha hw0 hk => by
  have hL := hzip.eq
  subst hL
  have hw := hw0.perm List.perm_middle
  obtain ⟨ht, i, hi, hik, hib, hk0⟩ := hs.parts
  have hu := hst.out
  have hzz : i.zero = some (.int .u8 0) := by have := hz.out; rw [hi] at this; simpa using this
  subst hib
  have hsmall : m + q.size ≤ 9223372036854775807 := by simpa [maxLen] using h63
  have main : ∃ v' C' w', (Builtin.append_ #[t, s] ty #[v, .string q]).run P w = .ok v' w' ∧ OwG e v' (m + q.size) (xs ++ bsv q.data.toList) C' ∧ Holds w' (C' :: (A ++ B)) := by
    rcases hown with ⟨rfl, rfl, rfl, rfl⟩ | ⟨b, cap, rest, fr, rfl, rfl, hxl, hrl, hmc, hcm, hfr⟩
    · by_cases hm : q.size = 0
      · have hn : strCells q = [] := List.eq_nil_of_length_eq_zero (by rw [strCells_length]; exact hm)
        refine ⟨.slice none 0 0, [], w, ?_, ?_, hw⟩
        · have hf := run_firstCells_string (P := P) w 1 q
          rw [hm] at hf
          simp [Builtin.append_, run_underlying ht, run_underlying hu, sizeOf, typeInfo, hi, hik, Builtin.lenOf, hm, hf]
        · rw [← strCells_bsv, hn, hm]; exact OwG.nil
      · have hr := run_append_nil_string (P := P) w t s ty e i (.int .u8 0) ht hu hi hzz q (by omega) (by omega) (by have h2 := hb; simp only [Nat.zero_add] at h2; omega)
        have e0 : (q.data.map fun b => Value.int .u8 b.toNat) = (strCells q).toArray := by
          apply Array.ext'
          simp [strCells]
        rw [e0] at hr
        refine ⟨_, [(w.heap.size, .cells (bsv q.data.toList ++ (Builtin.zeroCells (Value.int .u8 0).cells (grownCap w q.size 0 e - q.size)).toList).toArray e (0, 0))], _, hr, .inr ⟨w.heap.size, grownCap w q.size 0 e, (Builtin.zeroCells (Value.int .u8 0).cells (grownCap w q.size 0 e - q.size)).toList, (0, 0), by rw [Nat.zero_add], rfl, ?_, ?_, ?_, grownCap_le_maxLen w q.size 0 e (by omega), FrOk.zero _⟩, ?_⟩
        · rw [List.nil_append, ← strCells_bsv, strCells_length]; omega
        · simp [size_zeroCells, Value.cells]
        · rw [Nat.zero_add]; exact grownCap_ge w q.size 0 e
        · have h0 := (hw.drop.same (w' := w.drew) rfl rfl rfl).alloc (.cells ((strCells q).toArray ++ Builtin.zeroCells (Value.int .u8 0).cells (grownCap w q.size 0 e - q.size)) e)
          have e1 : (bsv q.data.toList ++ (Builtin.zeroCells (Value.int .u8 0).cells (grownCap w q.size 0 e - q.size)).toList).toArray = (strCells q).toArray ++ Builtin.zeroCells (Value.int .u8 0).cells (grownCap w q.size 0 e - q.size) := by
            apply Array.ext'; simp [strCells_bsv]
          rw [e1]; exact h0
    · have hfnd : w.heap[b]? = some (.cells (xs ++ rest).toArray e fr) := (Fnd.here : Fnd ([(b, .cells (xs ++ rest).toArray e fr)] :: (A ++ B)) b _).get hw
      by_cases hroom : m + q.size ≤ cap
      · have hxl' : xs.length = m := by simpa using hxl
        have hrl' : rest.length = cap - m := by simpa using hrl
        have hlen : m + (strCells q).length ≤ (xs ++ rest).length := by
          simp only [List.length_append, hxl', hrl', strCells_length]; omega
        have hf := run_firstCells_string (P := P) w 1 q
        have hst := run_storeCells_cells (P := P) b m (strCells q) 0 w
          (fun j hj => by rw [cell_of hfnd]; simp; simp at hlen; omega)
          (fun j hj => by
            have := hfr (m + 0 + j) (by omega)
            simp only [World.frozen?, hfnd]
            cases hd : (decide (fr.1 ≤ m + 0 + j) && decide (m + 0 + j < fr.2)) with
            | false => simpa using hd
            | true => simp at hd; exact absurd (by simpa using hd) this)
          (strCells_oneCell q)
        simp only [Nat.add_zero] at hst
        have hr : (Builtin.append_ #[t, s] ty #[.slice (some ⟨b, 0, none⟩) m cap, .string q]).run P w = .ok (.slice (some ⟨b, 0, none⟩) (m + q.size) cap) (w.setCells b m (strCells q)) := by
          simp [Builtin.append_, run_underlying ht, run_underlying hu, sizeOf, typeInfo, hi, hik, Builtin.lenOf, hroom, hf, Addr.add_lit, hst]
        have hx1 : patch (xs ++ rest).toArray.toList m (strCells q) = (xs ++ bsv q.data.toList) ++ rest.drop (strCells q).length := by
          simp only [List.toList_toArray, patch]
          rw [← hxl', List.take_left]
          congr 1
          rw [List.drop_append]
          simp
        have hat := setCells_at (T := e) (fr := fr) (strCells q) m _ w hfnd (by simpa using hlen)
        rw [hx1] at hat
        refine ⟨_, [(b, .cells ((xs ++ bsv q.data.toList) ++ rest.drop (strCells q).length).toArray e fr)], _, hr, .inr ⟨b, cap, rest.drop (strCells q).length, fr, rfl, rfl, ?_, ?_, hroom, hcm, ?_⟩, ?_⟩
        · rw [List.length_append, hxl', ← strCells_bsv, strCells_length]; omega
        · rw [List.length_drop, hrl', strCells_length]; omega
        · intro j hj
          refine hfr j ?_
          simp only [List.length_append, List.length_drop, ← strCells_bsv] at hj hlen ⊢
          omega
        · exact hw.upd .here hat (fun q hq => setCells_ne _ _ _ _ hq) (setCells_out _ _ _).1 (setCells_out _ _ _).2
      · have hrd0 : RdAt ([(b, .cells (xs ++ rest).toArray e fr)] :: (A ++ B)) ⟨b, 0, none⟩ xs := .inr ⟨b, 0, _, _, _, rfl, .here, fun j u hj => by rw [Nat.zero_add]; simpa using getE_app hj⟩
        have hr := run_append_grow_string (P := P) w t s ty e i (.int .u8 0) ht hu hi hzz ⟨b, 0, none⟩ m cap xs (by rw [hik]; exact hxl) (hrd0.cells hw) q (by omega) (by omega) (growslice_fits (by omega) hb)
        refine ⟨_, [(w.heap.size, .cells ((xs ++ bsv q.data.toList) ++ (Builtin.zeroCells (Value.int .u8 0).cells (grownCap w (m + q.size) cap e - (m + q.size))).toList).toArray e (0, 0))], _, hr, .inr ⟨w.heap.size, _, _, (0, 0), rfl, rfl, ?_, ?_, grownCap_ge w (m + q.size) cap e, grownCap_le_maxLen w (m + q.size) cap e h63, FrOk.zero _⟩, ?_⟩
        · have hxl' : xs.length = m := by simpa using hxl
          rw [List.length_append, hxl', ← strCells_bsv, strCells_length]; omega
        · simp [size_zeroCells, Value.cells]
        · have h0 := (hw.drop.same (w' := w.drew) rfl rfl rfl).alloc (.cells (xs.toArray ++ (strCells q).toArray ++ Builtin.zeroCells (Value.int .u8 0).cells (grownCap w (m + q.size) cap e - (m + q.size))) e)
          have e1 : (xs ++ bsv q.data.toList ++ (Builtin.zeroCells (Value.int .u8 0).cells (grownCap w (m + q.size) cap e - (m + q.size))).toList).toArray = xs.toArray ++ (strCells q).toArray ++ Builtin.zeroCells (Value.int .u8 0).cells (grownCap w (m + q.size) cap e - (m + q.size)) := by
            apply Array.ext'; simp [strCells_bsv]
          rw [e1]; exact h0
  obtain ⟨v', C', w', hr, ho, hw'⟩ := main
  unfold Oper.wp
  have hrun : (execOp a.eval ⟨some d, .call ⟨.builtin .append, #[x, y], #[t, s]⟩, ty, ps, af, g⟩).run P w = .ok (.value v') w' := by
    simp only [execOp, resolve, invoke, builtin, Sem.run_bind, Sem.run_pure, Result.andThen_ok, List.map_toArray, List.map_cons, List.map_nil, ha.eval hx, ha.eval hy, hr]
  rw [hrun, Oper.upon_value]
  exact (hk _ _ (h v' C' ho)).out _ _ (ha.put v' hn) (hw'.perm List.perm_middle.symm)⟩
end
end Go.Vx
namespace Go.Ob
open Go Go.Vx Go.Proofs.YtlomjmdgcpjepaaDoor Go.Lib
set_option linter.all false
variable [W0]
theorem str_app (a b : List UInt8) : str a ++ str b = str (a ++ b) := by
  apply ByteArray.ext
  simp [str]
theorem str_inj {a b : List UInt8} : str a = str b ↔ a = b := by
  constructor
  · intro h
    have := congrArg (fun s => s.data.toList) h
    simpa [str] using this
  · rintro rfl; rfl
theorem str_ext (t : List UInt8) (l h : Nat) : (str t).extract l h = str ((t.drop l).take (h - l)) := by
  apply ByteArray.ext
  apply Array.ext'
  simp [str, List.drop_take]
theorem str_dec (t : List UInt8) (pos : Nat) : Utf8.decode (str t) pos = decodeL (t.drop pos) := (decodeL_drop (str t) pos).symm
section
variable {P : Program} {n : Nat} {M : List (Nat × Value)} {L : List Chunk} {K : List (Nat × Value) → List Chunk → Prop}
variable {d : Nat} {ty : TypeId} {ps : String} {af : Array Edge} {g : Option (Nat × Bool)} {x y : Operand} {v : Value}
theorem EV_catL (a b : List UInt8) {t u : TypeId} (hx : ev M x = some (.string (str a))) (hy : ev M y = some (.string (str b))) (hs : a.length + b.length ≤ 9223372036854775807) :
    EV P n ⟨some d, .binOp .add t x y u, ty, ps, af, g⟩ M L d (.string (str (a ++ b))) := by
  have := EV_strCat (P := P) (n := n) (M := M) (L := L) (d := d) (ty := ty) (ps := ps) (af := af) (g := g) (t := t) (u := u) hx hy (by simpa [str_size] using hs)
  rw [str_app] at this
  exact this
theorem EV_eqL (a b : List UInt8) {t u : TypeId} (hx : ev M x = some (.string (str a))) (hy : ev M y = some (.string (str b))) :
    EV P n ⟨some d, .binOp .eql t x y u, ty, ps, af, g⟩ M L d (.bool (decide (a = b))) := by
  have := EV_strEq (P := P) (n := n) (M := M) (L := L) (d := d) (ty := ty) (ps := ps) (af := af) (g := g) (t := t) (u := u) hx hy
  simpa only [str_inj] using this
theorem EV_cutL (t : List UInt8) (l h : Nat) {T : Nat} [hs : ST P T] {lo hi : Option Operand} (hx : ev M x = some (.string (str t))) (hl : bnd M lo 0 = some (l : Int)) (hh : bnd M hi t.length = some (h : Int))
    (h1 : l ≤ h) (h2 : h ≤ t.length) : EV P n ⟨some d, .slice T x lo hi none, ty, ps, af, g⟩ M L d (.string (str ((t.drop l).take (h - l)))) := by
  have := EV_sliceStr (P := P) (n := n) (M := M) (L := L) (d := d) (ty := ty) (ps := ps) (af := af) (g := g) (T := T) hx hl hh h1 h2
  rw [str_ext] at this
  exact this
end
omit [W0] in
theorem kdL_hit {k : Nat} (h1 : 1 ≤ k) (h2 : k ≤ 4) : kdL (nmL k) = k := by
  match k, h1, h2 with
  | 1, _, _ => decide
  | 2, _, _ => decide
  | 3, _, _ => decide
  | 4, _, _ => decide
omit [W0] in
theorem kdL_miss {s : List UInt8} (h : ∀ j, 1 ≤ j → j ≤ 4 → nmL j ≠ s) : kdL s = 0 := by
  have h1 := h 1 (by decide) (by decide)
  have h2 := h 2 (by decide) (by decide)
  have h3 := h 3 (by decide) (by decide)
  have h4 := h 4 (by decide) (by decide)
  unfold kdL
  exact (if_neg (Ne.symm h1)).trans ((if_neg (Ne.symm h2)).trans ((if_neg (Ne.symm h3)).trans (if_neg (Ne.symm h4))))
omit [W0] in
theorem nmI_nat {k : Nat} (h1 : 1 ≤ k) (h2 : k ≤ 4) : nmI (k : Int) = nmL k := by
  unfold nmI
  rw [if_pos (by omega)]
  rfl
omit [W0] in
theorem nmI_no {k : Int} (h : ¬ (1 ≤ k ∧ k ≤ 4)) : nmI k = [] := if_neg h
omit [W0] in
theorem nmI_len (k : Int) : (nmI k).length ≤ 6 := by
  unfold nmI
  split
  · rename_i h
    obtain ⟨n, rfl⟩ : ∃ n : Nat, k = n := ⟨k.toNat, by omega⟩
    match n, h with
    | 1, _ => decide
    | 2, _ => decide
    | 3, _ => decide
    | 4, _ => decide
    | 0, h => exact absurd h.1 (by decide)
    | n + 5, h => omega
  · exact Nat.zero_le _
end Go.Ob
namespace Go.Proofs.YtlomjmdgcpjepaaDoor
open Go Go.Vx Go.Ob
set_option linter.all false
variable [W0]
set_option maxRecDepth 4000
theorem obname_n (k : Int) (L : List Chunk) : GvP Tryd.prog 8 [.int .i64 k].toArray L (.string (str (nmI k))) := by
  refine Gv.of_body Tryd.func8 rfl rfl ?_
  (repeat' first|refine kW ?_|refine kU fun bk=>?_|refine kV fun hc=>?_|refine kZ (fun hc=>?_) fun hc=>?_|fail)
  · subst hc; exact kE
  · subst hc; exact kE
  · subst hc; exact kE
  · subst hc; exact kE
  · refine kR ?_
    exact ⟨_, iC, by rw [nmI_no (by omega)]; rfl, rfl⟩
theorem obkind_n (s : List UInt8) (L : List Chunk) : GvP Tryd.prog 6 [.string (str s)].toArray L (.tuple #[.int .i64 (kdL s : Int), .bool (decide (kdL s ≠ 0))]) := by
  refine Gv.of_body Tryd.func6 rfl rfl ?_
  (repeat' first|refine kW ?_|refine kU fun bk=>?_|refine kV fun hc=>?_|refine kZ (fun hc=>?_) fun hc=>?_|fail)
  refine WC_loop (X := Nat) (fun k => [(0, .string (str s)), (4, .int .i64 (k : Int))]) (fun _ => L) (fun k => 1 ≤ k ∧ k ≤ 5 ∧ ∀ j, 1 ≤ j → j < k → nmL j ≠ s) (fun k => 5 - k) 1 ⟨by omega, by omega, fun j h1 h2 => by omega⟩ iS (fun w h => h) ?_
  intro k ⟨h1, h2, h3⟩
  (repeat' first|refine kW ?_|refine kU fun bk=>?_|refine kV fun hc=>?_|refine kZ (fun hc=>?_) fun hc=>?_|fail)
  · refine OW_callP rfl rfl rfl (obname_n _ _) rfl ?_
    rw [nmI_nat h1 (by omega)]
    (repeat' first|refine kW ?_|refine kU fun bk=>?_|refine kV fun hc=>?_|refine kZ (fun hc=>?_) fun hc=>?_|fail)
    (repeat' first|refine kW ?_|refine kU fun bk=>?_|refine kV fun hc=>?_|refine kZ (fun hc=>?_) fun hc=>?_|fail)
    · have hc := str_inj.1 hc
      refine kR ?_
      refine ⟨_, iC, ?_, rfl⟩
      rw [← hc, kdL_hit h1 (by omega), decide_eq_true (by omega)]
      rfl
    · refine WQ_round (X := Nat) (μ := fun k => 5 - k) (x := k) (k + 1) (by omega) ⟨by omega, by omega, fun j g1 g2 => ?_⟩ iS (fun w h => h)
      rcases Nat.lt_or_ge j k with h | h
      · exact h3 j g1 h
      · rw [show j = k from by omega]; exact fun hh => hc (str_inj.2 hh)
  · refine kR ?_
    refine ⟨_, iC, ?_, rfl⟩
    rw [kdL_miss (fun j g1 g2 => h3 j g1 (by omega))]
    rfl
theorem refname_n (k : Int) (L : List Chunk) : GvP Tryd.prog 9 [.int .i64 k].toArray L (.string (str (nmI k))) := by
  refine Gv.of_body Tryd.func9 rfl rfl ?_
  (repeat' first|refine kW ?_|refine kU fun bk=>?_|refine kV fun hc=>?_|refine kZ (fun hc=>?_) fun hc=>?_|fail)
  refine OW_buildSlice (cs := [.string (str (nmL 0)), .string (str (nmL 1)), .string (str (nmL 2)), .string (str (nmL 3)), .string (str (nmL 4))]) rfl (by rfl) (by simp [fillL, patch, Value.cells, zeros]; exact ⟨rfl, rfl, rfl, rfl, rfl⟩) (by omega) rfl rfl (fun bn => ?_)
  (repeat' first|refine kW ?_|refine kU fun bk=>?_|refine kV fun hc=>?_|refine kZ (fun hc=>?_) fun hc=>?_|fail)
  · refine kR ?_
    exact ⟨_, iC, by rw [nmI_no (by omega)]; rfl, rfl⟩
  · refine kR ?_
    exact ⟨_, iC, by rw [nmI_no (by omega)]; rfl, rfl⟩
  · obtain ⟨j, rfl⟩ : ∃ j : Nat, k = j := ⟨k.toNat, by omega⟩
    have hj : j < 5 := by omega
    refine OW_EV (EV_indexAddr0 (j := j) rfl rfl rfl hj) rfl ?_
    (repeat' first|refine kW ?_|refine kU fun bk=>?_|refine kV fun hc=>?_|refine kZ (fun hc=>?_) fun hc=>?_|fail)
    refine OW_EV (v := .string (str (nmI (j : Int)))) (EV_loadc rfl Fnd.here (by
      match j, hj with
      | 0, _ => rfl
      | 1, _ => rfl
      | 2, _ => rfl
      | 3, _ => rfl
      | 4, _ => rfl)) rfl ?_
    (repeat' first|refine kW ?_|refine kU fun bk=>?_|refine kV fun hc=>?_|refine kZ (fun hc=>?_) fun hc=>?_|fail)
    exact kE
end Go.Proofs.YtlomjmdgcpjepaaDoor
namespace Go.Proofs.YtlomjmdgcpjepaaDoor
open Go Go.Shelf Go.Proofs
set_option linter.all false
set_option maxRecDepth 100000
def sh_v_ren : Go.Shelf.Ren :=
  {
    f := fun x =>
      match x with
      | 196 => 51
      | 259 => 60
      | n => n,
    t := fun x =>
      match x with
      | 9 => 9
      | 4 => 4
      | 3 => 3
      | 5 => 5
      | 12 => 12
      | 119 => 91
      | 0 => 0
      | 46 => 70
      | 139 => 94
      | 138 => 93
      | 53 => 74
      | n => n,
    g := fun x =>
      match x with
      | 3 => 0
      | 4 => 1
      | n => n }
theorem sh_v : Go.Proofs.Lays.n196 Go.Proofs.Tryd.prog sh_v_ren :=
  { mixed := by kernel_rfl,
    f196 := Eq.trans Go.Proofs.Tryd.func51 (congrArg Option.some (Eq.refl (Go.Proofs.Body.n196 sh_v_ren))),
    f259 := Eq.trans Go.Proofs.Tryd.func60 (congrArg Option.some (Eq.refl (Go.Proofs.Body.n259 sh_v_ren))),
    t0 := Go.Proofs.Tryd.underlying0, a0 := Go.Proofs.Tryd.isAgg0, z0 := Go.Proofs.Tryd.sizeOf0,
    v0 := Go.Proofs.Tryd.zeroValue0, t3 := Go.Proofs.Tryd.underlying3, a3 := Go.Proofs.Tryd.isAgg3,
    z3 := Go.Proofs.Tryd.sizeOf3, v3 := Go.Proofs.Tryd.zeroValue3, t4 := Go.Proofs.Tryd.underlying4,
    a4 := Go.Proofs.Tryd.isAgg4, z4 := Go.Proofs.Tryd.sizeOf4, v4 := Go.Proofs.Tryd.zeroValue4,
    t5 := Go.Proofs.Tryd.underlying5, a5 := Go.Proofs.Tryd.isAgg5, z5 := Go.Proofs.Tryd.sizeOf5,
    v5 := Go.Proofs.Tryd.zeroValue5, t9 := Go.Proofs.Tryd.underlying9, a9 := Go.Proofs.Tryd.isAgg9,
    z9 := Go.Proofs.Tryd.sizeOf9, v9 := Go.Proofs.Tryd.zeroValue9, t12 := Go.Proofs.Tryd.underlying12,
    a12 := Go.Proofs.Tryd.isAgg12, z12 := Go.Proofs.Tryd.sizeOf12, v12 := Go.Proofs.Tryd.zeroValue12,
    t46 := Go.Proofs.Tryd.underlying70, a46 := Go.Proofs.Tryd.isAgg70, z46 := Go.Proofs.Tryd.sizeOf70,
    v46 := Go.Proofs.Tryd.zeroValue70, t53 := Go.Proofs.Tryd.underlying74, a53 := Go.Proofs.Tryd.isAgg74,
    z53 := Go.Proofs.Tryd.sizeOf74, v53 := Go.Proofs.Tryd.zeroValue74, t119 := Go.Proofs.Tryd.underlying91,
    a119 := Go.Proofs.Tryd.isAgg91, z119 := Go.Proofs.Tryd.sizeOf91, t138 := Go.Proofs.Tryd.underlying93,
    a138 := Go.Proofs.Tryd.isAgg93, z138 := Go.Proofs.Tryd.sizeOf93, v138 := Go.Proofs.Tryd.zeroValue93,
    t139 := Go.Proofs.Tryd.underlying94, a139 := Go.Proofs.Tryd.isAgg94, z139 := Go.Proofs.Tryd.sizeOf94,
    v139 := Go.Proofs.Tryd.zeroValue94, g3 := by kernel_rfl,
    g4 := by kernel_rfl }
def sh_c_ren : Go.Shelf.Ren :=
  {
    f := fun x =>
      match x with
      | 145 => 31
      | 220 => 50
      | 219 => 59
      | 217 => 68
      | 225 => 69
      | 224 => 70
      | 267 => 71
      | 266 => 81
      | 314 => 82
      | n => n,
    t := fun x =>
      match x with
      | 9 => 9
      | 4 => 4
      | 59 => 54
      | 3 => 3
      | 5 => 5
      | 46 => 70
      | 146 => 114
      | 51 => 76
      | n => n,
    g := fun x =>
      match x with
      | 1 => 2
      | n => n }
theorem sh_c : Go.Proofs.Lays.n145 Go.Proofs.Tryd.prog sh_c_ren :=
  { mixed := by kernel_rfl,
    f145 := Eq.trans Go.Proofs.Tryd.func31 (congrArg Option.some (Eq.refl (Go.Proofs.Body.n145 sh_c_ren))),
    f217 := Eq.trans Go.Proofs.Tryd.func68 (congrArg Option.some (Eq.refl (Go.Proofs.Body.n217 sh_c_ren))),
    f219 := Eq.trans Go.Proofs.Tryd.func59 (congrArg Option.some (Eq.refl (Go.Proofs.Body.n219 sh_c_ren))),
    f220 := Eq.trans Go.Proofs.Tryd.func50 (congrArg Option.some (Eq.refl (Go.Proofs.Body.n220 sh_c_ren))),
    f224 := Eq.trans Go.Proofs.Tryd.func70 (congrArg Option.some (Eq.refl (Go.Proofs.Body.n224 sh_c_ren))),
    f225 := Eq.trans Go.Proofs.Tryd.func69 (congrArg Option.some (Eq.refl (Go.Proofs.Body.n225 sh_c_ren))),
    f266 := Eq.trans Go.Proofs.Tryd.func81 (congrArg Option.some (Eq.refl (Go.Proofs.Body.n266 sh_c_ren))),
    f267 := Eq.trans Go.Proofs.Tryd.func71 (congrArg Option.some (Eq.refl (Go.Proofs.Body.n267 sh_c_ren))),
    f314 := Eq.trans Go.Proofs.Tryd.func82 (congrArg Option.some (Eq.refl (Go.Proofs.Body.n314 sh_c_ren))),
    t3 := Go.Proofs.Tryd.underlying3, a3 := Go.Proofs.Tryd.isAgg3, z3 := Go.Proofs.Tryd.sizeOf3,
    v3 := Go.Proofs.Tryd.zeroValue3, t4 := Go.Proofs.Tryd.underlying4, a4 := Go.Proofs.Tryd.isAgg4,
    z4 := Go.Proofs.Tryd.sizeOf4, v4 := Go.Proofs.Tryd.zeroValue4, t5 := Go.Proofs.Tryd.underlying5,
    a5 := Go.Proofs.Tryd.isAgg5, z5 := Go.Proofs.Tryd.sizeOf5, v5 := Go.Proofs.Tryd.zeroValue5,
    t9 := Go.Proofs.Tryd.underlying9, a9 := Go.Proofs.Tryd.isAgg9, z9 := Go.Proofs.Tryd.sizeOf9,
    v9 := Go.Proofs.Tryd.zeroValue9, t46 := Go.Proofs.Tryd.underlying70, a46 := Go.Proofs.Tryd.isAgg70,
    z46 := Go.Proofs.Tryd.sizeOf70, v46 := Go.Proofs.Tryd.zeroValue70, t51 := Go.Proofs.Tryd.underlying76,
    a51 := Go.Proofs.Tryd.isAgg76, z51 := Go.Proofs.Tryd.sizeOf76, v51 := Go.Proofs.Tryd.zeroValue76,
    t59 := Go.Proofs.Tryd.underlying54, a59 := Go.Proofs.Tryd.isAgg54, z59 := Go.Proofs.Tryd.sizeOf54,
    v59 := Go.Proofs.Tryd.zeroValue54, t146 := Go.Proofs.Tryd.underlying114, a146 := Go.Proofs.Tryd.isAgg114,
    z146 := Go.Proofs.Tryd.sizeOf114, v146 := Go.Proofs.Tryd.zeroValue114,
    g1 := by kernel_rfl }
def sh_s_ren : Go.Shelf.Ren :=
  {
    f := fun x =>
      match x with
      | 283 => 61
      | n => n,
    t := fun x =>
      match x with
      | 3 => 3
      | 9 => 9
      | 4 => 4
      | n => n,
    g := fun x =>
      have n := x;
      n }
theorem sh_s : Go.Proofs.Lays.n283 Go.Proofs.Tryd.prog sh_s_ren :=
  { mixed := by kernel_rfl,
    f283 := Eq.trans Go.Proofs.Tryd.func61 (congrArg Option.some (Eq.refl (Go.Proofs.Body.n283 sh_s_ren))),
    t3 := Go.Proofs.Tryd.underlying3, a3 := Go.Proofs.Tryd.isAgg3, z3 := Go.Proofs.Tryd.sizeOf3,
    v3 := Go.Proofs.Tryd.zeroValue3, t4 := Go.Proofs.Tryd.underlying4, a4 := Go.Proofs.Tryd.isAgg4,
    z4 := Go.Proofs.Tryd.sizeOf4, v4 := Go.Proofs.Tryd.zeroValue4, t9 := Go.Proofs.Tryd.underlying9,
    a9 := Go.Proofs.Tryd.isAgg9, z9 := Go.Proofs.Tryd.sizeOf9, v9 := Go.Proofs.Tryd.zeroValue9 }
def sh_d_ren : Go.Shelf.Ren :=
  {
    f := fun x =>
      match x with
      | 284 => 62
      | 129 => 73
      | 317 => 72
      | 318 => 74
      | n => n,
    t := fun x =>
      match x with
      | 53 => 74
      | 3 => 3
      | 212 => 110
      | 0 => 0
      | 4 => 4
      | 46 => 70
      | 5 => 5
      | 9 => 9
      | n => n,
    g := fun x =>
      match x with
      | 17 => 3
      | n => n }
theorem sh_d : Go.Proofs.LaysM.n284 Go.Proofs.Tryd.prog sh_d_ren :=
  { mixed := by kernel_rfl,
    f129 := Eq.trans Go.Proofs.Tryd.func73 (congrArg Option.some (Eq.refl (Go.Proofs.Body.n129 sh_d_ren))),
    f284 := Eq.trans Go.Proofs.Tryd.func62 (congrArg Option.some (Eq.refl (Go.Proofs.Body.n284 sh_d_ren))),
    f317 := Eq.trans Go.Proofs.Tryd.func72 (congrArg Option.some (Eq.refl (Go.Proofs.Body.n317 sh_d_ren))),
    f318 := Eq.trans Go.Proofs.Tryd.func74 (congrArg Option.some (Eq.refl (Go.Proofs.Body.n318 sh_d_ren))),
    t0 := Go.Proofs.Tryd.underlying0, a0 := Go.Proofs.Tryd.isAgg0, z0 := Go.Proofs.Tryd.sizeOf0,
    v0 := Go.Proofs.Tryd.zeroValue0, t3 := Go.Proofs.Tryd.underlying3, a3 := Go.Proofs.Tryd.isAgg3,
    z3 := Go.Proofs.Tryd.sizeOf3, v3 := Go.Proofs.Tryd.zeroValue3, t4 := Go.Proofs.Tryd.underlying4,
    a4 := Go.Proofs.Tryd.isAgg4, z4 := Go.Proofs.Tryd.sizeOf4, v4 := Go.Proofs.Tryd.zeroValue4,
    t5 := Go.Proofs.Tryd.underlying5, a5 := Go.Proofs.Tryd.isAgg5, z5 := Go.Proofs.Tryd.sizeOf5,
    v5 := Go.Proofs.Tryd.zeroValue5, t9 := Go.Proofs.Tryd.underlying9, a9 := Go.Proofs.Tryd.isAgg9,
    z9 := Go.Proofs.Tryd.sizeOf9, v9 := Go.Proofs.Tryd.zeroValue9, t46 := Go.Proofs.Tryd.underlying70,
    a46 := Go.Proofs.Tryd.isAgg70, z46 := Go.Proofs.Tryd.sizeOf70, v46 := Go.Proofs.Tryd.zeroValue70,
    t53 := Go.Proofs.Tryd.underlying74, a53 := Go.Proofs.Tryd.isAgg74, z53 := Go.Proofs.Tryd.sizeOf74,
    v53 := Go.Proofs.Tryd.zeroValue74, t212 := Go.Proofs.Tryd.underlying110, a212 := Go.Proofs.Tryd.isAgg110,
    z212 := Go.Proofs.Tryd.sizeOf110, v212 := Go.Proofs.Tryd.zeroValue110,
    g17 := by kernel_rfl,
    i0 := Eq.refl (Option.some (Option.some (Go.Value.tuple #[]), 1, 0)),
    i3 := Eq.refl (Option.some (Option.some (Go.Value.int Go.IntKind.i64 0), 1, 8)),
    i4 := Eq.refl (Option.some (Option.some (Go.Value.bool Bool.false), 1, 1)),
    i5 := Eq.refl (Option.some (Option.some (Go.Value.int Go.IntKind.u8 0), 1, 1)),
    i9 := Eq.refl (Option.some (Option.some (Go.Value.string { data := #[] }), 1, 16)),
    i46 := Eq.refl (Option.some (Option.some (Go.Value.int Go.IntKind.u64 0), 1, 8)),
    i53 := Eq.refl (Option.some (Option.some (Go.Value.int Go.IntKind.u64 0), 1, 8)),
    i212 :=
      Eq.refl
        (Option.some
          (Option.some
              (Go.Value.agg
                #[Go.Value.int Go.IntKind.u64 0, Go.Value.int Go.IntKind.u64 0, Go.Value.int Go.IntKind.u64 0,
                  Go.Value.int Go.IntKind.u64 0, Go.Value.int Go.IntKind.u64 0, Go.Value.int Go.IntKind.u64 0,
                  Go.Value.int Go.IntKind.u64 0, Go.Value.int Go.IntKind.u64 0, Go.Value.int Go.IntKind.u64 0,
                  Go.Value.int Go.IntKind.u64 0, Go.Value.int Go.IntKind.u64 0, Go.Value.int Go.IntKind.u64 0,
                  Go.Value.int Go.IntKind.u64 0, Go.Value.int Go.IntKind.u64 0, Go.Value.int Go.IntKind.u64 0,
                  Go.Value.int Go.IntKind.u64 0, Go.Value.int Go.IntKind.u64 0, Go.Value.int Go.IntKind.u64 0,
                  Go.Value.int Go.IntKind.u64 0, Go.Value.int Go.IntKind.u64 0]),
            20, 160)),
    m17 := by kernel_rfl }
def sh_b_ren : Go.Shelf.Ren :=
  {
    f := fun x =>
      match x with
      | 285 => 63
      | n => n,
    t := fun x =>
      match x with
      | 37 => 25
      | 53 => 74
      | 3 => 3
      | 4 => 4
      | 51 => 76
      | 9 => 9
      | 5 => 5
      | 0 => 0
      | n => n,
    g := fun x =>
      have n := x;
      n }
theorem sh_b : Go.Proofs.Lays.n285 Go.Proofs.Tryd.prog sh_b_ren :=
  { mixed := by kernel_rfl,
    f285 := Eq.trans Go.Proofs.Tryd.func63 (congrArg Option.some (Eq.refl (Go.Proofs.Body.n285 sh_b_ren))),
    t0 := Go.Proofs.Tryd.underlying0, a0 := Go.Proofs.Tryd.isAgg0, z0 := Go.Proofs.Tryd.sizeOf0,
    v0 := Go.Proofs.Tryd.zeroValue0, t3 := Go.Proofs.Tryd.underlying3, a3 := Go.Proofs.Tryd.isAgg3,
    z3 := Go.Proofs.Tryd.sizeOf3, v3 := Go.Proofs.Tryd.zeroValue3, t4 := Go.Proofs.Tryd.underlying4,
    a4 := Go.Proofs.Tryd.isAgg4, z4 := Go.Proofs.Tryd.sizeOf4, v4 := Go.Proofs.Tryd.zeroValue4,
    t5 := Go.Proofs.Tryd.underlying5, a5 := Go.Proofs.Tryd.isAgg5, z5 := Go.Proofs.Tryd.sizeOf5,
    v5 := Go.Proofs.Tryd.zeroValue5, t9 := Go.Proofs.Tryd.underlying9, a9 := Go.Proofs.Tryd.isAgg9,
    z9 := Go.Proofs.Tryd.sizeOf9, v9 := Go.Proofs.Tryd.zeroValue9, t37 := Go.Proofs.Tryd.underlying25,
    a37 := Go.Proofs.Tryd.isAgg25, z37 := Go.Proofs.Tryd.sizeOf25, v37 := Go.Proofs.Tryd.zeroValue25,
    t51 := Go.Proofs.Tryd.underlying76, a51 := Go.Proofs.Tryd.isAgg76, z51 := Go.Proofs.Tryd.sizeOf76,
    v51 := Go.Proofs.Tryd.zeroValue76, t53 := Go.Proofs.Tryd.underlying74, a53 := Go.Proofs.Tryd.isAgg74,
    z53 := Go.Proofs.Tryd.sizeOf74, v53 := Go.Proofs.Tryd.zeroValue74 }
end Go.Proofs.YtlomjmdgcpjepaaDoor
namespace Go.Proofs.YtlomjmdgcpjepaaDoor
open Go Go.Vx Go.Ob Go.RowKit
set_option linter.all false
set_option maxRecDepth 4000
theorem zz (n j : Nat) : (bsv (List.replicate n 0))[j]? = if j < n then some (.int .u8 0) else none := by
  unfold bsv
  rw [List.map_replicate, List.getElem?_replicate]
  rfl
variable [W0]
structure BsAt (L : List Chunk) : Prop where
  ut : ∀ w, Vx.Holds w L → Lib.Utf8Tabs (sh_v_ren.g 3) (sh_v_ren.g 4) w
  mx : ∃ m, ∀ w, Vx.Holds w L → w.cell? ⟨(sh_c_ren.g 1), 0, none⟩ = some (.int .i64 m)
  pw : ∀ w, Vx.Holds w L → Lib.TabIs Tryd.prog w "internal/strconv.uint64pow10" .u64 Lib.pow10Tab
theorem BsAt.of {S L : List Chunk} (h : BsAt S) (hi : ∀ w, Vx.Holds w L → Vx.Holds w S) : BsAt L :=
  ⟨fun w hw => h.ut w (hi w hw), h.mx.imp fun m hm w hw => hm w (hi w hw), fun w hw => h.pw w (hi w hw)⟩
theorem BsAt.inc {S L : List Chunk} (h : BsAt S) (hi : Inc S L) : BsAt L := h.of fun w hw => hi.holds hw
theorem BsAt.there {L : List Chunk} {C : Chunk} (h : BsAt L) : BsAt (C :: L) := h.of fun w hw => hw.drop
theorem GvP.of_below {P : Program} {f : FuncId} {args : Array Value} {L : List Chunk} {v : Value} (h : ∀ w, Vx.Holds w L → Calls P f args w fun e w' => e = .returned v ∧ Below w.heap.size w w') : GvP P f args L v :=
  ⟨fun w hw => (h w hw).mono fun e w' he => ⟨v, L, he.1, ⟨rfl, rfl⟩, hw.1, fun x hx => by rw [he.2.block _ (hw.lt hx)]; exact hw.2.1 x hx, he.2.os.trans hw.2.2.1, he.2.output.trans hw.2.2.2⟩⟩
theorem below_drewN (w : World) (n : Nat) : Below w.heap.size w (w.drewN n) := ⟨rfl, rfl, rfl, Nat.le_refl _, fun _ _ => rfl⟩
theorem valid_n (t : List UInt8) (L : List Chunk) (hb : BsAt L) (hl : t.length ≤ 9223372036854775807) : GvP Tryd.prog 51 [.string (str t)].toArray L (.bool (Lib.validD t)) :=
  GvP.of_below fun w hw => Any.utf8_ValidString sh_v (str t) w hl (hb.ut w hw)
theorem cut_n (s sep : List UInt8) (L : List Chunk) (hb : BsAt L) (hl : s.length < 4294967281) :
    GvP Tryd.prog 31 [.string (str s), .string (str sep)].toArray L (.tuple #[.string (str (Lib.cut s sep).1), .string (str (Lib.cut s sep).2.1), .bool (Lib.cut s sep).2.2]) := by
  obtain ⟨m, hm⟩ := hb.mx
  refine GvP.of_below fun w hw => (Any.strings_Cut sh_c (str s) (str sep) m w hl (hm w hw)).mono ?_
  rintro e w' ⟨rfl, n, rfl⟩
  exact ⟨rfl, below_drewN w n⟩
theorem small_n (i : Nat) (L : List Chunk) (h : i < 100) : GvP Tryd.prog 61 [.int .i64 (i : Int)].toArray L (.string (str (Lib.decDigits i))) :=
  GvP.of_below fun w hw => (Any.internal_strconv_small sh_s i h w).mono (by rintro e w' ⟨rfl, rfl⟩; exact ⟨rfl, Below.refl _ _⟩)
theorem numdigits_n (u : Nat) (L : List Chunk) (hb : BsAt L) (h1 : 1 ≤ u) (h2 : u < 18446744073709551616) : GvP Tryd.prog 62 [.int .u64 (u : Int)].toArray L (.int .i64 (Lib.nDigits u : Int)) :=
  GvP.of_below fun w hw => (Any.internal_strconv_numDigits sh_d u h1 h2 w (hb.pw w hw)).mono (by rintro e w' ⟨rfl, rfl⟩; exact ⟨rfl, Below.refl _ _⟩)
theorem numdigits_le {u : Nat} (h1 : 1 ≤ u) (h2 : u < 18446744073709551616) : Lib.nDigits u ≤ 20 := by
  have := Lib.numDigits_eq u h1 h2
  split at this <;> omega
theorem fmt_n (b T u : Nat) (L : List Chunk) (h1 : 1 ≤ u) (h2 : u < 18446744073709551616) :
    Gv Tryd.prog 63 [.slice (some ⟨b, 0, none⟩) (Lib.nDigits u) 24, .int .u64 (u : Int)].toArray ([(b, cl (bsv (List.replicate 24 0)) T)] :: L)
      (fun r L' => r = .tuple #[] ∧ ∃ rest, rest.length = 24 - Lib.nDigits u ∧ L' = [(b, cl (bsv (Lib.decDigits u) ++ rest) T)] :: L) := ⟨fun w hw => by
  have hnd := numdigits_le h1 h2
  have hf : w.heap[b]? = some (cl (bsv (List.replicate 24 0)) T) := (Fnd.here : Fnd ([(b, _)] :: L) b _).get hw
  have hH : Sort.Holds (fun (b : UInt8) => Value.int .u8 (b.toNat : Int)) w b 0 (Array.replicate (Lib.nDigits u) (0 : UInt8)) := fun j hj => by
    have hj' : j < Lib.nDigits u := by simpa using hj
    constructor
    · rw [Nat.zero_add, cell_of hf, getElem!_pos _ j hj, List.getElem?_toArray, zz, if_pos (by omega), Array.getElem_replicate]
      rfl
    · simp [World.frozen?, hf, cl]
  have hc := Any.internal_strconv_formatBase10 sh_b b 0 24 u (Array.replicate (Lib.nDigits u) 0) w hH (by rw [Array.size_replicate]; exact Lib.lt_pow_nDigits u) h2 (by rw [Array.size_replicate]; omega)
  rw [Array.size_replicate] at hc
  refine hc.mono ?_
  rintro e w' ⟨rfl, n, v', dk, rfl, hF⟩
  have hsz : dk.size = Lib.nDigits u := hF.size
  have hdk : dk.toList = Lib.decDigits u := by
    refine List.ext_getElem (by rw [Array.length_toList, hsz, Lib.decDigits_length]) fun j hj1 hj2 => ?_
    rw [Lib.row_is_numeral hF j hj2, getElem!_pos _ j (by simpa using hj1)]
    rfl
  have hrow : Sort.putCells (fun (b : UInt8) => Value.int .u8 (b.toNat : Int)) 0 dk (bsv (List.replicate 24 0)).toArray = (bsv (Lib.decDigits u) ++ bsv (List.replicate (24 - Lib.nDigits u) 0)).toArray := by
    apply Array.ext'
    rw [← hdk]
    refine List.ext_getElem? fun j => ?_
    unfold Sort.putCells
    simp only [Array.getElem?_toList, Array.getElem?_mapIdx, List.getElem?_toArray, List.toList_toArray]
    rw [zz]
    rcases Nat.lt_or_ge j dk.size with h | h
    · rw [List.getElem?_append_left (by simpa [bsv] using h), if_pos (by omega)]
      simp [bsv, h, Array.getElem?_eq_getElem h]
    · rw [List.getElem?_append_right (by simpa [bsv] using h), zz]
      have hl : (bsv dk.toList).length = dk.size := by simp [bsv]
      rw [hl]
      rcases Nat.lt_or_ge j 24 with h' | h'
      · rw [if_pos h', if_pos (by omega), Option.map_some, if_neg (by omega)]
      · rw [if_neg (by omega), if_neg (by omega)]
        rfl
  refine ⟨.tuple #[], _, rfl, ⟨rfl, bsv (List.replicate (24 - Lib.nDigits u) 0), by simp [bsv], rfl⟩, hw.upd .here ?_ ?_ rfl rfl⟩
  · show (w.heap.modify b _)[b]? = _
    rw [Array.getElem?_modify, if_pos rfl, hf]
    show some (Obj.cells _ _ _) = _
    rw [hrow]
    rfl
  · intro c hc
    show (w.heap.modify b _)[c]? = _
    rw [Array.getElem?_modify, if_neg (Ne.symm hc)]⟩
end Go.Proofs.YtlomjmdgcpjepaaDoor
namespace Go.Vx
open Go
set_option linter.all false
variable [W0]
omit [W0] in
def val : List UInt8 → Nat
  | [] => 0
  | b :: r => b.toNat + 256 * val r
end Go.Vx
namespace Go.Proofs.YtlomjmdgcpjepaaDoor
open Go Go.Vx Go.Ob
set_option linter.all false
variable [W0]
set_option maxRecDepth 4000
omit [W0] in
theorem dgF_eq : ∀ (f n : Nat), n < 10 ^ (f + 1) → dgF (f + 1) n = Lib.decDigits n
  | 0, n, h => by
    unfold dgF
    rw [if_pos (by simpa using h), Lib.decDigits_one (by simpa using h)]
  | f + 1, n, h => by
    rw [Lib.decDigits]
    unfold dgF
    split
    · rfl
    · rw [dgF_eq f (n / 10) (by rw [Nat.pow_succ] at h; omega)]
omit [W0] in
theorem dgL_eq {n : Nat} (h : n < 100000000000000000000) : dgL n = Lib.decDigits n := dgF_eq 19 n h
theorem numdigits_lt (u : Nat) (h : u < 18446744073709551616) : Lib.nDigits u ≤ 20 := by
  rcases Nat.eq_zero_or_pos u with rfl | h1
  · rw [Lib.nDigits_small (by decide)]; decide
  · exact numdigits_le h1 h
theorem appenduint_n (u m : Nat) (v : Value) (xs : List Value) (C : Chunk) (L : List Chunk) (hb : BsAt L) (h : OwG 5 v m xs C) (hm : m ≤ 1000000) (hu : u < 18446744073709551616) :
    Gv Tryd.prog 55 [v, .int .u64 (u : Int), .int .i64 10].toArray (C :: L) (fun r L' => ∃ C', OwG 5 r (m + (Lib.decDigits u).length) (xs ++ bsv (Lib.decDigits u)) C' ∧ L' = C' :: L) := by
  refine Gv.of_body (args := [v, .int .u64 (u : Int), .int .i64 10]) Tryd.func55 rfl rfl ?_
  (repeat' first|refine kW ?_|refine kU fun bk=>?_|refine kV fun hc=>?_|refine kZ (fun hc=>?_) fun hc=>?_|fail)
  · refine OW_callP rfl rfl rfl (small_n u _ (by omega)) rfl ?_
    (repeat' first|refine kW ?_|refine kU fun bk=>?_|refine kV fun hc=>?_|refine kZ (fun hc=>?_) fun hc=>?_|fail)
    refine OW_appGS rfl rfl h (by repeat (first | exact Zip.here _ | apply Zip.there)) (by rw [str_size, Lib.decDigits_length]; have := numdigits_lt u hu; omega) (by rw [str_size, Lib.decDigits_length]; have := numdigits_lt u hu; unfold maxLen; omega) rfl (fun v' C' ho => ?_)
    (repeat' first|refine kW ?_|refine kU fun bk=>?_|refine kV fun hc=>?_|refine kZ (fun hc=>?_) fun hc=>?_|fail)
    refine kR ?_
    exact ⟨_, iC, C', ho, rfl⟩
  · refine OW_callP rfl rfl rfl (numdigits_n u _ hb.there.there (by omega) hu) rfl ?_
    (repeat' first|refine kW ?_|refine kU fun bk=>?_|refine kV fun hc=>?_|refine kZ (fun hc=>?_) fun hc=>?_|fail)
    have hnd := numdigits_le (by omega : 1 ≤ u) hu
    refine OW_EV (EV_sliceArr (l := 0) (h := Lib.nDigits u) rfl rfl rfl (Nat.zero_le _) (by omega) (by omega)) rfl ?_
    (repeat' first|refine kW ?_|refine kU fun bk=>?_|refine kV fun hc=>?_|refine kZ (fun hc=>?_) fun hc=>?_|fail)
    refine OW_call rfl rfl rfl (fmt_n _ _ u (C :: L) (by omega) hu) rfl (fun r L' hp => ?_)
    obtain ⟨rfl, rest, hrl, rfl⟩ := hp
    (repeat' first|refine kW ?_|refine kU fun bk=>?_|refine kV fun hc=>?_|refine kZ (fun hc=>?_) fun hc=>?_|fail)
    refine OW_EV (EV_sliceArr (l := 0) (h := Lib.nDigits u) rfl rfl rfl (Nat.zero_le _) (by omega) (by omega)) rfl ?_
    (repeat' first|refine kW ?_|refine kU fun bk=>?_|refine kV fun hc=>?_|refine kZ (fun hc=>?_) fun hc=>?_|fail)
    have hdl := Lib.decDigits_length u
    refine OW_appG rfl rfl h (sl_cells (xs := bsv (Lib.decDigits u)) (m := Lib.nDigits u) Fnd.here (by rw [bsv_length, hdl]; omega) (by simp)) (by repeat (first | exact Zip.here _ | apply Zip.there)) (by rfl) bsv_ones (by omega) (by unfold maxLen; omega) rfl (fun v' C' ho => ?_)
    (repeat' first|refine kW ?_|refine kU fun bk=>?_|refine kV fun hc=>?_|refine kZ (fun hc=>?_) fun hc=>?_|fail)
    refine kR ?_
    rw [← hdl] at ho
    exact ⟨_, iC, C', ho, rfl⟩
theorem appendint_n (i m : Nat) (v : Value) (xs : List Value) (C : Chunk) (L : List Chunk) (hb : BsAt L) (h : OwG 5 v m xs C) (hm : m ≤ 1000000) (hu : i ≤ 9223372036854775807) :
    Gv Tryd.prog 23 [v, .int .i64 (i : Int), .int .i64 10].toArray (C :: L) (fun r L' => ∃ C', OwG 5 r (m + (Lib.decDigits i).length) (xs ++ bsv (Lib.decDigits i)) C' ∧ L' = C' :: L) := by
  refine Gv.of_body (args := [v, .int .i64 (i : Int), .int .i64 10]) Tryd.func23 rfl rfl ?_
  (repeat' first|refine kW ?_|refine kU fun bk=>?_|refine kV fun hc=>?_|refine kZ (fun hc=>?_) fun hc=>?_|fail)
  have hin : Gv Tryd.prog 42 [v, .int .i64 (i : Int), .int .i64 10].toArray (C :: L) (fun r L' => ∃ C', OwG 5 r (m + (Lib.decDigits i).length) (xs ++ bsv (Lib.decDigits i)) C' ∧ L' = C' :: L) := by
    refine Gv.of_body (args := [v, .int .i64 (i : Int), .int .i64 10]) Tryd.func42 rfl rfl ?_
    (repeat' first|refine kW ?_|refine kU fun bk=>?_|refine kV fun hc=>?_|refine kZ (fun hc=>?_) fun hc=>?_|fail)
    refine OW_call rfl rfl rfl (appenduint_n i m v xs C L hb h hm (by omega)) rfl (fun r L' hp => ?_)
    obtain ⟨C', ho, rfl⟩ := hp
    (repeat' first|refine kW ?_|refine kU fun bk=>?_|refine kV fun hc=>?_|refine kZ (fun hc=>?_) fun hc=>?_|fail)
    refine kR ?_
    exact ⟨_, iC, C', ho, rfl⟩
  refine OW_call rfl rfl rfl hin rfl (fun r L' hp => ?_)
  obtain ⟨C', ho, rfl⟩ := hp
  (repeat' first|refine kW ?_|refine kU fun bk=>?_|refine kV fun hc=>?_|refine kZ (fun hc=>?_) fun hc=>?_|fail)
  refine kR ?_
  exact ⟨_, iC, C', ho, rfl⟩
theorem header_n (k n : Int) (L : List Chunk) (hb : BsAt L) (hn : n ≤ 9223372036854775807) :
    Gv Tryd.prog 10 [.int .i64 k, .int .i64 n].toArray L (fun r L' => ∃ C, OwG 5 r (hdL k n).length (bsv (hdL k n)) C ∧ L' = C :: L) := by
  refine Gv.of_body (args := [.int .i64 k, .int .i64 n]) Tryd.func10 rfl rfl ?_
  (repeat' first|refine kW ?_|refine kU fun bk=>?_|refine kV fun hc=>?_|refine kZ (fun hc=>?_) fun hc=>?_|fail)
  refine OW_callP rfl rfl rfl (obname_n k _) rfl ?_
  (repeat' first|refine kW ?_|refine kU fun bk=>?_|refine kV fun hc=>?_|refine kZ (fun hc=>?_) fun hc=>?_|fail)
  have h6 := nmI_len k
  refine OW_convBytes rfl (by rw [str_size]; unfold maxLen; omega) rfl (fun v C ho => ?_)
  rw [str_size, str_data] at ho
  (repeat' first|refine kW ?_|refine kU fun bk=>?_|refine kV fun hc=>?_|refine kZ (fun hc=>?_) fun hc=>?_|fail)
  refine OW_buildSlice (cs := bsv [32]) rfl (by rfl) (by simp [fillL, patch, Value.cells, zeros]; rfl) (by omega) rfl rfl (fun b1 => ?_)
  (repeat' first|refine kW ?_|refine kU fun bk=>?_|refine kV fun hc=>?_|refine kZ (fun hc=>?_) fun hc=>?_|fail)
  refine OW_appG rfl rfl (OwG.f ho) (sl_cells (xs := bsv [32]) (m := 1) Fnd.here rfl (by simp)) (by repeat (first | exact Zip.here _ | apply Zip.there)) (by rfl) bsv_ones (by omega) (by unfold maxLen; omega) rfl (fun v1 C1 h1 => ?_)
  (repeat' first|refine kW ?_|refine kU fun bk=>?_|refine kV fun hc=>?_|refine kZ (fun hc=>?_) fun hc=>?_|fail)
  obtain ⟨i, hi⟩ : ∃ i : Nat, max n 0 = (i : Int) := ⟨(max n 0).toNat, by omega⟩
  rw [hi]
  have hi2 : i ≤ 9223372036854775807 := by omega
  refine OW_call rfl rfl rfl (Gv.take (appendint_n i _ v1 _ C1 _ (hb.there) h1 (by omega) hi2) (by repeat (first | exact Take.here | apply Take.there))) rfl (fun r L' hp => ?_)
  obtain ⟨C2, h2, rfl⟩ := hp
  (repeat' first|refine kW ?_|refine kU fun bk=>?_|refine kV fun hc=>?_|refine kZ (fun hc=>?_) fun hc=>?_|fail)
  refine OW_buildSlice (cs := bsv [0]) rfl (by rfl) (by simp [fillL, patch, Value.cells, zeros]; rfl) (by omega) rfl rfl (fun b2 => ?_)
  (repeat' first|refine kW ?_|refine kU fun bk=>?_|refine kV fun hc=>?_|refine kZ (fun hc=>?_) fun hc=>?_|fail)
  have hd := numdigits_lt i (by omega)
  rw [← Lib.decDigits_length] at hd
  refine OW_appG rfl rfl h2 (sl_cells (xs := bsv [0]) (m := 1) Fnd.here rfl (by simp)) (by repeat (first | exact Zip.here _ | apply Zip.there)) (by rfl) bsv_ones (by omega) (by unfold maxLen; omega) rfl (fun v3 C3 h3 => ?_)
  (repeat' first|refine kW ?_|refine kU fun bk=>?_|refine kV fun hc=>?_|refine kZ (fun hc=>?_) fun hc=>?_|fail)
  refine kR ?_
  have e : hdL k n = nmI k ++ [32] ++ Lib.decDigits i ++ [0] := by
    unfold hdL
    rw [hi, Int.toNat_natCast, dgL_eq (by omega)]
  refine ⟨C3 :: L, iC, C3, ?_, rfl⟩
  have e2 : (nmI k ++ [32] ++ Lib.decDigits i ++ [0]).length = (nmI k).length + 1 + (Lib.decDigits i).length + 1 := by simp only [List.length_append, List.length_cons, List.length_nil]
  rw [e, e2, bsv_append, bsv_append, bsv_append]
  exact h3
theorem hdL_len (k n : Int) (hn : n ≤ 9223372036854775807) : (hdL k n).length ≤ 28 := by
  have h6 := nmI_len k
  have hd := numdigits_lt (max n 0).toNat (by omega)
  rw [← Lib.decDigits_length] at hd
  unfold hdL
  rw [dgL_eq (by omega)]
  simp only [List.length_append, List.length_cons, List.length_nil]
  omega
theorem OwG.slc {e m : Nat} {v : Value} {xs : List Value} {C : Chunk} {L : List Chunk} (h : OwG e v m xs C) : SlC (C :: L) 1 v m xs := ⟨h.sl, h.room⟩
theorem id_n (k : Int) (v : Value) (t : List UInt8) (L : List Chunk) (hb : BsAt L) (ht : t.length ≤ 140737488351232) (hv : SlC L 1 v t.length (bsv t)) :
    GvP Tryd.prog 12 [.int .i64 k, v].toArray L (.string (str (idL k t))) := by
  obtain ⟨a, c, rfl, hac⟩ := hv.room
  refine Gv.of_body (args := [.int .i64 k, .slice a t.length c]) Tryd.func12 rfl rfl ?_
  (repeat' first|refine kW ?_|refine kU fun bk=>?_|refine kV fun hc=>?_|refine kZ (fun hc=>?_) fun hc=>?_|fail)
  refine OW_call rfl rfl rfl (header_n k t.length L hb (by omega)) rfl (fun r L' hp => ?_)
  obtain ⟨C, ho, rfl⟩ := hp
  have hl := hdL_len k t.length (by omega)
  (repeat' first|refine kW ?_|refine kU fun bk=>?_|refine kV fun hc=>?_|refine kZ (fun hc=>?_) fun hc=>?_|fail)
  refine OW_appG rfl rfl ho hv.there.sl (by repeat (first | exact Zip.here _ | apply Zip.there)) (by rfl) bsv_ones (by omega) (by unfold maxLen; omega) rfl (fun v1 C1 h1 => ?_)
  rw [← bsv_append, ← List.length_append] at h1
  (repeat' first|refine kW ?_|refine kU fun bk=>?_|refine kV fun hc=>?_|refine kZ (fun hc=>?_) fun hc=>?_|fail)
  refine OW_call rfl rfl rfl (sha1_n (hdL k t.length ++ t) v1 _ (by rw [List.length_append]; omega) (OwG.slc h1)) rfl (fun r L' hp => ?_)
  obtain ⟨C2, rfl, h2⟩ := hp
  (repeat' first|refine kW ?_|refine kU fun bk=>?_|refine kV fun hc=>?_|refine kZ (fun hc=>?_) fun hc=>?_|fail)
  refine OW_callP rfl rfl rfl (hex_n (shaN (hdL k t.length ++ t)) _ _ (by rw [shaN_length]; decide) (by rw [shaN_length]; exact SlC.ow h2)) rfl ?_
  (repeat' first|refine kW ?_|refine kU fun bk=>?_|refine kV fun hc=>?_|refine kZ (fun hc=>?_) fun hc=>?_|fail)
  exact kE
theorem hash_n (s : List UInt8) (L : List Chunk) (hs : s.length ≤ 9223372036854775807) : GvP Tryd.prog 14 [.string (str s)].toArray L (.bool (hshB s)) := by
  refine Gv.of_body Tryd.func14 rfl rfl ?_
  (repeat' first|refine kW ?_|refine kU fun bk=>?_|refine kV fun hc=>?_|refine kZ (fun hc=>?_) fun hc=>?_|fail)
  · rw [str_size] at hc
    refine kR ?_
    exact ⟨_, iC, by unfold hshB; rw [decide_eq_false (by omega)]; rfl, rfl⟩
  · rw [str_size] at hc
    refine OW_call rfl rfl rfl (unhex_n s L (by omega)) rfl (fun r L' hp => ?_)
    obtain ⟨v, C, rfl, rfl, ho⟩ := hp
    (repeat' first|refine kW ?_|refine kU fun bk=>?_|refine kV fun hc=>?_|refine kZ (fun hc=>?_) fun hc=>?_|fail)
    refine kR ?_
    exact ⟨L, iC, by unfold hshB; rw [decide_eq_true (by omega)]; rfl, rfl⟩
omit [W0] in
theorem zr_ul : unL zrL = List.replicate 20 0 := by kernel_rfl
theorem unL_len {s : List UInt8} (h : hshB s = true) : (unL s).length = 20 := by
  unfold hshB at h
  simp only [Bool.and_eq_true, decide_eq_true_eq] at h
  unfold unL
  rw [if_pos h.2, outN_length, h.1]
theorem rawL_len (s : List UInt8) : (rawL s).length = 20 := by
  unfold rawL
  split
  · rename_i h; exact unL_len h
  · simp
theorem idbytes_n (s : List UInt8) (L : List Chunk) (hs : s.length ≤ 9223372036854775807) :
    Gv Tryd.prog 104 [.string (str s)].toArray L (fun r L' => ∃ C, Ow 5 1 r 20 (bsv (rawL s)) C ∧ L' = C :: L) := by
  refine Gv.of_body Tryd.func104 rfl rfl ?_
  (repeat' first|refine kW ?_|refine kU fun bk=>?_|refine kV fun hc=>?_|refine kZ (fun hc=>?_) fun hc=>?_|fail)
  refine OW_callP rfl rfl rfl (hash_n s L hs) rfl ?_
  cases hh : hshB s with
  | true =>
    have hl : s.length = 40 := by
      unfold hshB at hh
      simp only [Bool.and_eq_true, decide_eq_true_eq] at hh
      exact hh.1
    (repeat' first|refine kW ?_|refine kU fun bk=>?_|refine kV fun hc=>?_|refine kZ (fun hc=>?_) fun hc=>?_|fail)
    refine OW_call rfl rfl rfl (unhex_n s L (by omega)) rfl (fun r L' hp => ?_)
    obtain ⟨v, C, rfl, rfl, ho⟩ := hp
    rw [unL_len hh] at ho
    (repeat' first|refine kW ?_|refine kU fun bk=>?_|refine kV fun hc=>?_|refine kZ (fun hc=>?_) fun hc=>?_|fail)
    refine kR ?_
    exact ⟨_, iC, C, by rw [rawL, if_pos hh]; exact ho, rfl⟩
  | false =>
    (repeat' first|refine kW ?_|refine kU fun bk=>?_|refine kV fun hc=>?_|refine kZ (fun hc=>?_) fun hc=>?_|fail)
    refine OW_call rfl rfl rfl (unhex_n zrL L (by decide)) rfl (fun r L' hp => ?_)
    obtain ⟨v, C, rfl, rfl, ho⟩ := hp
    rw [zr_ul] at ho
    (repeat' first|refine kW ?_|refine kU fun bk=>?_|refine kV fun hc=>?_|refine kZ (fun hc=>?_) fun hc=>?_|fail)
    refine kR ?_
    exact ⟨_, iC, C, by rw [rawL, hh]; exact ho, rfl⟩
theorem refhash_n (s : List UInt8) (L : List Chunk) (hs : s.length ≤ 70368744177664) : GvP Tryd.prog 15 [.string (str s)].toArray L (.bool (hshB s)) := by
  refine Gv.of_body Tryd.func15 rfl rfl ?_
  (repeat' first|refine kW ?_|refine kU fun bk=>?_|refine kV fun hc=>?_|refine kZ (fun hc=>?_) fun hc=>?_|fail)
  refine OW_call rfl rfl rfl (refunhex_n s L hs) rfl (fun r L' hp => ?_)
  obtain ⟨v, C, rfl, rfl, ho⟩ := hp
  obtain ⟨a, c, rfl⟩ := ow_slc ho
  cases hu : unB s with
  | true =>
    have hl : (unL s).length = s.length / 2 := by unfold unL; rw [if_pos hu, outN_length]
    have hev : s.length % 2 = 0 := by
      rcases Nat.eq_zero_or_pos (s.length % 2) with h | h
      · exact h
      · rw [unB_odd (by omega)] at hu; exact absurd hu (by decide)
    (repeat' first|refine kW ?_|refine kU fun bk=>?_|refine kV fun hc=>?_|refine kZ (fun hc=>?_) fun hc=>?_|fail)
    refine kR ?_
    refine ⟨L, iC, ?_, rfl⟩
    unfold hshB
    rw [hu, Bool.and_true, hl]
    show Value.bool _ = Value.bool _
    congr 1
    rw [Bool.eq_iff_iff]
    simp
    omega
  | false =>
    (repeat' first|refine kW ?_|refine kU fun bk=>?_|refine kV fun hc=>?_|refine kZ (fun hc=>?_) fun hc=>?_|fail)
    refine kR ?_
    exact ⟨L, iC, by unfold hshB; rw [hu, Bool.and_false]; rfl, rfl⟩
theorem refraw_n (s : List UInt8) (L : List Chunk) (hs : s.length ≤ 70368744177664) : GvP Tryd.prog 39 [.string (str s)].toArray L (.string (str (rawL s))) := by
  refine Gv.of_body Tryd.func39 rfl rfl ?_
  (repeat' first|refine kW ?_|refine kU fun bk=>?_|refine kV fun hc=>?_|refine kZ (fun hc=>?_) fun hc=>?_|fail)
  refine OW_callP rfl rfl rfl (refhash_n s L hs) rfl ?_
  cases hh : hshB s with
  | true =>
    (repeat' first|refine kW ?_|refine kU fun bk=>?_|refine kV fun hc=>?_|refine kZ (fun hc=>?_) fun hc=>?_|fail)
    refine OW_call rfl rfl rfl (refunhex_n s L hs) rfl (fun r L' hp => ?_)
    obtain ⟨v, C, rfl, rfl, ho⟩ := hp
    (repeat' first|refine kW ?_|refine kU fun bk=>?_|refine kV fun hc=>?_|refine kZ (fun hc=>?_) fun hc=>?_|fail)
    refine OW_EV (EV_convStr (b := unL s) rfl (ow_sl ho)) rfl ?_
    (repeat' first|refine kW ?_|refine kU fun bk=>?_|refine kV fun hc=>?_|refine kZ (fun hc=>?_) fun hc=>?_|fail)
    refine kR ?_
    exact ⟨_, iC, by rw [rawL, if_pos hh]; rfl, rfl⟩
  | false =>
    (repeat' first|refine kW ?_|refine kU fun bk=>?_|refine kV fun hc=>?_|refine kZ (fun hc=>?_) fun hc=>?_|fail)
    have hz : GvP Tryd.prog 54 [].toArray L (.string (str zrL)) := by
      refine Gv.of_body Tryd.func54 rfl rfl ?_
      (repeat' first|refine kW ?_|refine kU fun bk=>?_|refine kV fun hc=>?_|refine kZ (fun hc=>?_) fun hc=>?_|fail)
      exact kE
    refine OW_callP rfl rfl rfl hz rfl ?_
    (repeat' first|refine kW ?_|refine kU fun bk=>?_|refine kV fun hc=>?_|refine kZ (fun hc=>?_) fun hc=>?_|fail)
    refine OW_call rfl rfl rfl (refunhex_n zrL L (by decide)) rfl (fun r L' hp => ?_)
    obtain ⟨v, C, rfl, rfl, ho⟩ := hp
    (repeat' first|refine kW ?_|refine kU fun bk=>?_|refine kV fun hc=>?_|refine kZ (fun hc=>?_) fun hc=>?_|fail)
    refine OW_EV (EV_convStr (b := unL zrL) rfl (ow_sl ho)) rfl ?_
    (repeat' first|refine kW ?_|refine kU fun bk=>?_|refine kV fun hc=>?_|refine kZ (fun hc=>?_) fun hc=>?_|fail)
    refine kR ?_
    exact ⟨L, iC, by rw [rawL, hh, zr_ul]; rfl, rfl⟩
end Go.Proofs.YtlomjmdgcpjepaaDoor
namespace Go.Proofs.YtlomjmdgcpjepaaDoor
open Go Go.Vx Go.Ob Go.Lib
set_option linter.all false
variable [W0]
set_option maxRecDepth 4000
theorem consists_n (p : Nat → Bool) (f : FuncId) [hbd : BD Tryd.prog f] (hp : ∀ (c : Nat) (L : List Chunk), GvP Tryd.prog f [.int .i32 (c : Int)].toArray L (.bool (p c))) (s : List UInt8) (L : List Chunk) (hb : BsAt L) (hs : s.length ≤ 9223372036854775807) :
    GvP Tryd.prog 32 [.string (str s), .func (.func f) #[] #[]].toArray L (.bool (consB p s)) := by
  refine Gv.of_body (args := [.string (str s), .func (.func f) #[] #[]]) Tryd.func32 rfl rfl ?_
  (repeat' first|refine kW ?_|refine kU fun bk=>?_|refine kV fun hc=>?_|refine kZ (fun hc=>?_) fun hc=>?_|fail)
  refine OW_rangeS rfl rfl (fun b => ?_)
  (repeat' first|refine kW ?_|refine kU fun bk=>?_|refine kV fun hc=>?_|refine kZ (fun hc=>?_) fun hc=>?_|fail)
  refine WC_loop (X := Nat) (fun x => [(0, .string (str s)), (1, .func (.func f) #[] #[]), (8, .pointer (some ⟨b, 0, none⟩))]) (fun x => [(b, .stringIter (str s) x)] :: L) (fun x => x ≤ s.length ∧ rall p (s.drop x) = rall p s) (fun x => s.length - x) 0 ⟨Nat.zero_le _, rfl⟩ iS (fun w h => h) ?_
  intro k ⟨h1, h2⟩
  by_cases hk : k < s.length
  · have hne : s.drop k ≠ [] := fun h => by have := congrArg List.length h; simp at this; omega
    have hst := rall_step p _ hne
    have hle := decodeL_le _ hne
    have hwd := decodeL_width (s.drop k)
    rw [List.length_drop] at hle
    rw [h2] at hst
    (repeat' first|refine kW ?_|refine kU fun bk=>?_|refine kV fun hc=>?_|refine kZ (fun hc=>?_) fun hc=>?_|fail)
    refine OW_nextS rfl (by rw [str_size]; exact hk) .here rfl ?_
    rw [str_dec]
    generalize (decodeL (s.drop k)).1 = c at *
    generalize (decodeL (s.drop k)).2 = wd at *
    (repeat' first|refine kW ?_|refine kU fun bk=>?_|refine kV fun hc=>?_|refine kZ (fun hc=>?_) fun hc=>?_|fail)
    refine OW_callP rfl rfl rfl (hp c _) rfl ?_
    cases hc : p c with
    | true =>
      rw [hc, Bool.true_and, List.drop_drop] at hst
      (repeat' first|refine kW ?_|refine kU fun bk=>?_|refine kV fun hc=>?_|refine kZ (fun hc=>?_) fun hc=>?_|fail)
      refine WQ_round (X := Nat) (μ := fun x => s.length - x) (x := k) (k + wd) (by omega) ⟨by omega, hst.symm⟩ iS (fun w h => h)
    | false =>
      rw [hc, Bool.false_and] at hst
      (repeat' first|refine kW ?_|refine kU fun bk=>?_|refine kV fun hc=>?_|refine kZ (fun hc=>?_) fun hc=>?_|fail)
      refine kR ?_
      exact ⟨L, iC, by unfold consB; rw [hst]; rfl, rfl⟩
  · (repeat' first|refine kW ?_|refine kU fun bk=>?_|refine kV fun hc=>?_|refine kZ (fun hc=>?_) fun hc=>?_|fail)
    refine OW_EV (EV_endS rfl Fnd.here (by rw [str_size]; exact hk)) rfl ?_
    (repeat' first|refine kW ?_|refine kU fun bk=>?_|refine kV fun hc=>?_|refine kZ (fun hc=>?_) fun hc=>?_|fail)
    refine OW_callP rfl rfl rfl (valid_n s _ hb.there hs) rfl ?_
    (repeat' first|refine kW ?_|refine kU fun bk=>?_|refine kV fun hc=>?_|refine kZ (fun hc=>?_) fun hc=>?_|fail)
    refine kR ?_
    rw [List.drop_eq_nil_of_le (by omega)] at h2
    exact ⟨L, iC, by unfold consB; rw [← h2]; rfl, rfl⟩
theorem inperson_n (c : Nat) (L : List Chunk) : GvP Tryd.prog 33 [.int .i32 (c : Int)].toArray L (.bool (inP c)) := by
  refine Gv.of_body Tryd.func33 rfl rfl ?_
  (repeat' first|refine kW ?_|refine kU fun bk=>?_|refine kV fun hc=>?_|refine kZ (fun hc=>?_) fun hc=>?_|fail)
  all_goals (refine kR ?_; refine ⟨L, iC, ?_, rfl⟩; unfold inP; show Value.bool _ = Value.bool _; congr 1; rw [Bool.eq_iff_iff]; simp; omega)
theorem isdigit_n (c : Nat) (L : List Chunk) : GvP Tryd.prog 52 [.int .i32 (c : Int)].toArray L (.bool (inD c)) := by
  refine Gv.of_body Tryd.func52 rfl rfl ?_
  (repeat' first|refine kW ?_|refine kU fun bk=>?_|refine kV fun hc=>?_|refine kZ (fun hc=>?_) fun hc=>?_|fail)
  all_goals (refine kR ?_; refine ⟨L, iC, ?_, rfl⟩; unfold inD; show Value.bool _ = Value.bool _; congr 1; rw [Bool.eq_iff_iff]; simp; omega)
omit [W0] in
theorem timB_cons (a : UInt8) (t : List UInt8) : timB (a :: t) = (decide (t.length ≤ 11) && (decide (t.length = 0) || decide (a.toNat ≠ 48)) && (a :: t).all (fun b => inD b.toNat)) := by
  unfold timB
  have q : a ≠ 48 ↔ a.toNat ≠ 48 := not_congr (UInt8.toNat_inj (a := a) (b := 48)).symm
  rw [decide_eq_true (show a :: t ≠ [] by simp), Bool.true_and]
  congr 2
  · rw [Bool.eq_iff_iff]; simp
  · congr 1
    · rw [Bool.eq_iff_iff]; simp
    · exact decide_eq_decide.2 q
theorem istime_n (s : List UInt8) (L : List Chunk) (hb : BsAt L) (hs : s.length ≤ 9223372036854775807) : GvP Tryd.prog 34 [.string (str s)].toArray L (.bool (timB s)) := by
  refine Gv.of_body Tryd.func34 rfl rfl ?_
  have hcs := consists_n inD _ isdigit_n s L hb hs
  rw [cons_lo inD inD_lo] at hcs
  cases s with
  | nil =>
    (repeat' first|refine kW ?_|refine kU fun bk=>?_|refine kV fun hc=>?_|refine kZ (fun hc=>?_) fun hc=>?_|fail)
    exact kE
  | cons a t =>
    have he : ¬ str (a :: t) = str [] := fun h => by have := str_inj.1 h; simp at this
    have hl : (str (a :: t)).size = t.length + 1 := by rw [str_size]; rfl
    rw [timB_cons]
    (repeat' first|refine kW ?_|refine kU fun bk=>?_|refine kV fun hc=>?_|refine kZ (fun hc=>?_) fun hc=>?_|fail)
    · rw [hl] at hc
      refine kR ?_
      exact ⟨L, iC, by rw [decide_eq_false (by omega)]; rfl, rfl⟩
    · refine OW_EV (EV_indexStr (j := 0) (u := a) rfl rfl rfl (str_get (t := a :: t) (by simp))) rfl ?_
      have h1 := hc
      rename_i h12
      rw [hl] at h12 h1
      (repeat' first|refine kW ?_|refine kU fun bk=>?_|refine kV fun hc=>?_|refine kZ (fun hc=>?_) fun hc=>?_|fail)
      · refine kR ?_
        exact ⟨L, iC, by rw [decide_eq_false (p := t.length = 0) (by omega), decide_eq_false (p := a.toNat ≠ 48) (by omega), Bool.or_self, Bool.and_false, Bool.false_and]; rfl, rfl⟩
      · refine OW_callP rfl rfl rfl hcs rfl ?_
        (repeat' first|refine kW ?_|refine kU fun bk=>?_|refine kV fun hc=>?_|refine kZ (fun hc=>?_) fun hc=>?_|fail)
        refine kR ?_
        exact ⟨L, iC, by rw [decide_eq_true (p := t.length ≤ 11) (by omega), decide_eq_true (p := a.toNat ≠ 48) (by omega), Bool.or_true]; rfl, rfl⟩
    · rename_i h12 
      rw [hl] at h12 hc
      refine OW_callP rfl rfl rfl hcs rfl ?_
      (repeat' first|refine kW ?_|refine kU fun bk=>?_|refine kV fun hc=>?_|refine kZ (fun hc=>?_) fun hc=>?_|fail)
      refine kR ?_
      exact ⟨L, iC, by rw [decide_eq_true (p := t.length ≤ 11) (by omega), decide_eq_true (p := t.length = 0) (by omega)]; rfl, rfl⟩
theorem iszone_n (s : List UInt8) (L : List Chunk) (hb : BsAt L) (hs : s.length ≤ 9223372036854775807) : GvP Tryd.prog 35 [.string (str s)].toArray L (.bool (zonB s)) := by
  refine Gv.of_body Tryd.func35 rfl rfl ?_
  by_cases h5 : s.length = 5
  · match s, h5 with
    | [c0, c1, c2, c3, c4], _ =>
      have hcs := consists_n inD _ isdigit_n [c1, c2, c3, c4] L hb (by simp)
      rw [cons_lo inD inD_lo] at hcs
      have q43 : c0 = 43 ↔ c0.toNat = 43 := (UInt8.toNat_inj (a := c0) (b := 43)).symm
      have q45 : c0 = 45 ↔ c0.toNat = 45 := (UInt8.toNat_inj (a := c0) (b := 45)).symm
      have hz : zonB [c0, c1, c2, c3, c4] = ((decide (c0.toNat = 43) || decide (c0.toNat = 45)) && [c1, c2, c3, c4].all (fun b => inD b.toNat)) := by
        unfold zonB
        rw [decide_eq_true (show [c0, c1, c2, c3, c4].length = 5 from rfl), Bool.true_and]
        show ((decide (c0 = 43) || decide (c0 = 45)) && _) = _
        rw [decide_eq_decide.2 q43, decide_eq_decide.2 q45]
        rfl
      have hl : (str [c0, c1, c2, c3, c4]).size = 5 := rfl
      rw [hz]
      (repeat' first|refine kW ?_|refine kU fun bk=>?_|refine kV fun hc=>?_|refine kZ (fun hc=>?_) fun hc=>?_|fail)
      refine OW_EV (EV_indexStr (j := 0) (u := c0) rfl rfl rfl (str_get (t := [c0, c1, c2, c3, c4]) (by simp))) rfl ?_
      (repeat' first|refine kW ?_|refine kU fun bk=>?_|refine kV fun hc=>?_|refine kZ (fun hc=>?_) fun hc=>?_|fail)
      · refine OW_EV (EV_cutL [c0, c1, c2, c3, c4] 1 5 rfl rfl rfl (by decide) (Nat.le_refl 5)) rfl ?_
        (repeat' first|refine kW ?_|refine kU fun bk=>?_|refine kV fun hc=>?_|refine kZ (fun hc=>?_) fun hc=>?_|fail)
        refine OW_callP rfl rfl rfl hcs rfl ?_
        (repeat' first|refine kW ?_|refine kU fun bk=>?_|refine kV fun hc=>?_|refine kZ (fun hc=>?_) fun hc=>?_|fail)
        refine kR ?_
        exact ⟨L, iC, by rw [decide_eq_true (p := c0.toNat = 43) (by omega)]; rfl, rfl⟩
      · refine OW_EV (EV_indexStr (j := 0) (u := c0) rfl rfl rfl (str_get (t := [c0, c1, c2, c3, c4]) (by simp))) rfl ?_
        (repeat' first|refine kW ?_|refine kU fun bk=>?_|refine kV fun hc=>?_|refine kZ (fun hc=>?_) fun hc=>?_|fail)
        · refine OW_EV (EV_cutL [c0, c1, c2, c3, c4] 1 5 rfl rfl rfl (by decide) (Nat.le_refl 5)) rfl ?_
          (repeat' first|refine kW ?_|refine kU fun bk=>?_|refine kV fun hc=>?_|refine kZ (fun hc=>?_) fun hc=>?_|fail)
          refine OW_callP rfl rfl rfl hcs rfl ?_
          (repeat' first|refine kW ?_|refine kU fun bk=>?_|refine kV fun hc=>?_|refine kZ (fun hc=>?_) fun hc=>?_|fail)
          refine kR ?_
          exact ⟨L, iC, by rw [decide_eq_true (p := c0.toNat = 45) (by omega), Bool.or_true]; rfl, rfl⟩
        · rename_i h43
          refine kR ?_
          exact ⟨L, iC, by rw [decide_eq_false (p := c0.toNat = 43) (by omega), decide_eq_false (p := c0.toNat = 45) (by omega)]; rfl, rfl⟩
  · have h6 : ¬ ((str s).size : Int) = 5 := by rw [str_size]; omega
    (repeat' first|refine kW ?_|refine kU fun bk=>?_|refine kV fun hc=>?_|refine kZ (fun hc=>?_) fun hc=>?_|fail)
    refine kR ?_
    exact ⟨L, iC, by unfold zonB; rw [decide_eq_false h5]; rfl, rfl⟩
omit [W0] in
theorem index_ge : ∀ s sub : List UInt8, -1 ≤ Lib.index s sub
  | [], sub => by unfold Lib.index; split <;> decide
  | x :: t, sub => by
    have := index_ge t sub
    unfold Lib.index
    split
    · decide
    · split <;> omega
omit [W0] in
theorem cut_cons (x : UInt8) (t sep : List UInt8) : Lib.cut (x :: t) sep = if sep.isPrefixOf (x :: t) then ([], (x :: t).drop sep.length, true) else (x :: (Lib.cut t sep).1, (Lib.cut t sep).2.1, (Lib.cut t sep).2.2) := by
  have hge := index_ge t sep
  by_cases hp : sep.isPrefixOf (x :: t) = true
  · rw [if_pos hp]
    unfold Lib.cut
    rw [show Lib.index (x :: t) sep = 0 from by rw [Lib.index, if_pos hp]]
    rw [if_pos (by decide)]
    simp
  · rw [if_neg hp]
    rcases Int.lt_or_le (Lib.index t sep) 0 with h | h
    · have h1 : Lib.index t sep = -1 := by omega
      unfold Lib.cut
      rw [show Lib.index (x :: t) sep = -1 from by rw [Lib.index, if_neg hp, h1]; rfl, h1]
      simp
    · unfold Lib.cut
      rw [show Lib.index (x :: t) sep = Lib.index t sep + 1 from by rw [Lib.index, if_neg hp, if_neg (by simp; omega)]]
      obtain ⟨k, hk⟩ : ∃ k : Nat, Lib.index t sep = k := ⟨(Lib.index t sep).toNat, by omega⟩
      rw [hk, if_pos (by omega), if_pos (by omega)]
      simp [show ((k : Int) + 1).toNat = k + 1 from by omega, show k + 1 + sep.length = (k + sep.length) + 1 from by omega]
omit [W0] in
theorem cut_one (c : UInt8) : ∀ s : List UInt8, (Lib.cut s [c]).1 = (cutN c s).1 ∧ (Lib.cut s [c]).2.1 = (cutN c s).2
  | [] => by simp [Lib.cut, Lib.index, cutN]
  | x :: t => by
    obtain ⟨h1, h2⟩ := cut_one c t
    rw [cut_cons]
    unfold cutN
    by_cases h : x = c
    · subst h
      simp
    · rw [if_neg h, if_neg (by simp [List.isPrefixOf, Ne.symm h])]
      exact ⟨by rw [h1], h2⟩
omit [W0] in
theorem cut_two (a b : UInt8) : ∀ s : List UInt8, (Lib.cut s [a, b]).1 = (cutT a b s).1 ∧ (Lib.cut s [a, b]).2.1 = (cutT a b s).2
  | [] => by simp [Lib.cut, Lib.index, cutT]
  | x :: t => by
    obtain ⟨h1, h2⟩ := cut_two a b t
    rw [cut_cons]
    unfold cutT
    by_cases h : x = a ∧ t.head? = some b
    · obtain ⟨rfl, h⟩ := h
      cases t with
      | nil => simp at h
      | cons y t =>
        simp only [List.head?_cons, Option.some.injEq] at h
        subst h
        simp
    · rw [if_neg h, if_neg ?_]
      · exact ⟨by rw [h1], h2⟩
      · intro hh
        cases t with
        | nil => simp [List.isPrefixOf] at hh
        | cons y t =>
          simp only [List.isPrefixOf, Bool.and_eq_true, beq_iff_eq, Bool.and_true] at hh
          exact h ⟨hh.1.symm, by simp [hh.2]⟩
omit [W0] in
theorem cutT_len (a b : UInt8) (s : List UInt8) : (cutT a b s).1.length ≤ s.length ∧ (cutT a b s).2.length ≤ s.length := by
  rcases cutT_spec a b s with h | ⟨x, t, h1, h2⟩
  · rw [h]; simp
  · rw [h2, h1]; simp; omega
omit [W0] in
theorem cutN_len2 (c : UInt8) (s : List UInt8) : (cutN c s).1.length ≤ s.length ∧ (cutN c s).2.length ≤ s.length := by
  rcases cutN_spec c s with ⟨_, h⟩ | ⟨x, t, _, h1, h2⟩
  · rw [h]; simp
  · rw [h2, h1]; simp; omega
theorem person_n (s : List UInt8) (L : List Chunk) (hb : BsAt L) (hs : s.length < 4294967281) : GvP Tryd.prog 16 [.string (str s)].toArray L (.bool (perB s)) := by
  refine Gv.of_body Tryd.func16 rfl rfl ?_
  unfold perB
  simp only
  have l1 := cutT_len 32 60 s
  have l2 := cutT_len 62 32 (cutT 32 60 s).2
  have l3 := cutN_len2 32 (cutT 62 32 (cutT 32 60 s).2).2
  have c1 := cut_n s [32, 60] L hb hs
  rw [(cut_two 32 60 s).1, (cut_two 32 60 s).2] at c1
  have c2 := cut_n (cutT 32 60 s).2 [62, 32] L hb (by omega)
  rw [(cut_two 62 32 _).1, (cut_two 62 32 _).2] at c2
  have c3 := cut_n (cutT 62 32 (cutT 32 60 s).2).2 [32] L hb (by omega)
  rw [(cut_one 32 _).1, (cut_one 32 _).2] at c3
  have k1 := consists_n inP _ inperson_n (cutT 32 60 s).1 L hb (by omega)
  have k2 := consists_n inP _ inperson_n (cutT 62 32 (cutT 32 60 s).2).1 L hb (by omega)
  have k3 := istime_n (cutN 32 (cutT 62 32 (cutT 32 60 s).2).2).1 L hb (by omega)
  have k4 := iszone_n (cutN 32 (cutT 62 32 (cutT 32 60 s).2).2).2 L hb (by omega)
  generalize (Lib.cut s [32, 60]).2.2 = f1 at c1
  generalize (Lib.cut (cutT 32 60 s).2 [62, 32]).2.2 = f2 at c2
  generalize (Lib.cut (cutT 62 32 (cutT 32 60 s).2).2 [32]).2.2 = f3 at c3
  generalize (cutN 32 (cutT 62 32 (cutT 32 60 s).2).2).1 = q at *
  generalize (cutN 32 (cutT 62 32 (cutT 32 60 s).2).2).2 = z at *
  generalize (cutT 62 32 (cutT 32 60 s).2).1 = m at *
  generalize (cutT 62 32 (cutT 32 60 s).2).2 = r2 at *
  generalize (cutT 32 60 s).1 = n at *
  generalize (cutT 32 60 s).2 = r1 at *
  (repeat' first|refine kW ?_|refine kU fun bk=>?_|refine kV fun hc=>?_|refine kZ (fun hc=>?_) fun hc=>?_|fail)
  refine OW_callP rfl rfl rfl c1 rfl ?_
  (repeat' first|refine kW ?_|refine kU fun bk=>?_|refine kV fun hc=>?_|refine kZ (fun hc=>?_) fun hc=>?_|fail)
  refine OW_callP rfl rfl rfl c2 rfl ?_
  (repeat' first|refine kW ?_|refine kU fun bk=>?_|refine kV fun hc=>?_|refine kZ (fun hc=>?_) fun hc=>?_|fail)
  refine OW_callP rfl rfl rfl c3 rfl ?_
  (repeat' first|refine kW ?_|refine kU fun bk=>?_|refine kV fun hc=>?_|refine kZ (fun hc=>?_) fun hc=>?_|fail)
  refine OW_callP rfl rfl rfl k1 rfl ?_
  cases consB inP n with
  | false =>
    (repeat' first|refine kW ?_|refine kU fun bk=>?_|refine kV fun hc=>?_|refine kZ (fun hc=>?_) fun hc=>?_|fail)
    exact kE
  | true =>
    (repeat' first|refine kW ?_|refine kU fun bk=>?_|refine kV fun hc=>?_|refine kZ (fun hc=>?_) fun hc=>?_|fail)
    refine OW_callP rfl rfl rfl k2 rfl ?_
    cases consB inP m with
    | false =>
      (repeat' first|refine kW ?_|refine kU fun bk=>?_|refine kV fun hc=>?_|refine kZ (fun hc=>?_) fun hc=>?_|fail)
      exact kE
    | true =>
      (repeat' first|refine kW ?_|refine kU fun bk=>?_|refine kV fun hc=>?_|refine kZ (fun hc=>?_) fun hc=>?_|fail)
      refine OW_callP rfl rfl rfl k3 rfl ?_
      cases timB q with
      | false =>
        (repeat' first|refine kW ?_|refine kU fun bk=>?_|refine kV fun hc=>?_|refine kZ (fun hc=>?_) fun hc=>?_|fail)
        exact kE
      | true =>
        (repeat' first|refine kW ?_|refine kU fun bk=>?_|refine kV fun hc=>?_|refine kZ (fun hc=>?_) fun hc=>?_|fail)
        refine OW_callP rfl rfl rfl k4 rfl ?_
        cases zonB z with
        | false =>
          (repeat' first|refine kW ?_|refine kU fun bk=>?_|refine kV fun hc=>?_|refine kZ (fun hc=>?_) fun hc=>?_|fail)
          exact kE
        | true =>
          (repeat' first|refine kW ?_|refine kU fun bk=>?_|refine kV fun hc=>?_|refine kZ (fun hc=>?_) fun hc=>?_|fail)
          exact kE
end Go.Proofs.YtlomjmdgcpjepaaDoor
namespace Go.Proofs.YtlomjmdgcpjepaaDoor
open Go Go.Vx Go.Ob Go.Lib
set_option linter.all false
set_option maxRecDepth 4000
theorem idBlob : idL 3 [] = [101, 54, 57, 100, 101, 50, 57, 98, 98, 50, 100, 49, 100, 54, 52, 51, 52, 98, 56, 98, 50, 57, 97, 101, 55, 55, 53, 97, 100, 56, 99, 50, 101, 52, 56, 99, 53, 51, 57, 49] := by kernel_rfl
theorem idTree : idL 2 [] = [52, 98, 56, 50, 53, 100, 99, 54, 52, 50, 99, 98, 54, 101, 98, 57, 97, 48, 54, 48, 101, 53, 52, 98, 102, 56, 100, 54, 57, 50, 56, 56, 102, 98, 101, 101, 52, 57, 48, 52] := by kernel_rfl
theorem perYes : perB [65, 32, 60, 97, 62, 32, 49, 32, 43, 48, 48, 48, 48] = true := by kernel_rfl
theorem perNo : perB [65, 32, 60, 97, 62, 32, 48, 49, 32, 43, 48, 48, 48, 48] = false := by kernel_rfl
theorem hdTag : hdL 4 7 = [116, 97, 103, 32, 55, 0] := by kernel_rfl
variable [W0]
theorem slcNil (L : List Chunk) : SlC L 1 (.slice none 0 0) 0 [] := ⟨.inl ⟨0, rfl, rfl, rfl⟩, _, _, rfl, Nat.le_refl _⟩
set_option maxHeartbeats 1000000 in
theorem awake8_n (L : List Chunk) (hb : BsAt L) : GvP Tryd.prog 18 [].toArray L (.bool true) := by
  refine Gv.of_body Tryd.func18 rfl rfl ?_
  (repeat' first|refine kW ?_|refine kU fun bk=>?_|refine kV fun hc=>?_|refine kZ (fun hc=>?_) fun hc=>?_|fail)
  refine OW_callP rfl rfl rfl (obkind_n sTree L) rfl ?_
  rw [show kdL sTree = 2 from rfl]
  (repeat' first|refine kW ?_|refine kU fun bk=>?_|refine kV fun hc=>?_|refine kZ (fun hc=>?_) fun hc=>?_|fail)
  refine OW_callP rfl rfl rfl (id_n 3 (.slice none 0 0) [] L hb (by decide) (slcNil L)) rfl ?_
  rw [idBlob]
  (repeat' first|refine kW ?_|refine kU fun bk=>?_|refine kV fun hc=>?_|refine kZ (fun hc=>?_) fun hc=>?_|fail)
  all_goals (try exact absurd rfl hc)
  refine OW_callP rfl rfl rfl (id_n 2 (.slice none 0 0) [] L hb (by decide) (slcNil L)) rfl ?_
  rw [idTree]
  (repeat' first|refine kW ?_|refine kU fun bk=>?_|refine kV fun hc=>?_|refine kZ (fun hc=>?_) fun hc=>?_|fail)
  all_goals (try exact absurd rfl hc)
  refine OW_callP rfl rfl rfl (person_n [65, 32, 60, 97, 62, 32, 49, 32, 43, 48, 48, 48, 48] L hb (by decide)) rfl ?_
  rw [perYes]
  (repeat' first|refine kW ?_|refine kU fun bk=>?_|refine kV fun hc=>?_|refine kZ (fun hc=>?_) fun hc=>?_|fail)
  refine OW_callP rfl rfl rfl (person_n [65, 32, 60, 97, 62, 32, 48, 49, 32, 43, 48, 48, 48, 48] L hb (by decide)) rfl ?_
  rw [perNo]
  (repeat' first|refine kW ?_|refine kU fun bk=>?_|refine kV fun hc=>?_|refine kZ (fun hc=>?_) fun hc=>?_|fail)
  refine OW_call rfl rfl rfl (header_n 4 7 L hb (by decide)) rfl (fun r L' hp => ?_)
  obtain ⟨C, ho, rfl⟩ := hp
  rw [hdTag] at ho
  (repeat' first|refine kW ?_|refine kU fun bk=>?_|refine kV fun hc=>?_|refine kZ (fun hc=>?_) fun hc=>?_|fail)
  refine OW_EV (EV_convStr (b := [116, 97, 103, 32, 55, 0]) rfl ho.sl) rfl ?_
  (repeat' first|refine kW ?_|refine kU fun bk=>?_|refine kV fun hc=>?_|refine kZ (fun hc=>?_) fun hc=>?_|fail)
  refine kR ?_
  exact ⟨L, iC, by rw [decide_eq_true rfl]; rfl, rfl⟩
end Go.Proofs.YtlomjmdgcpjepaaDoor
namespace Go.Proofs.YtlomjmdgcpjepaaDoor
open Go Go.Vx Go.Ob Go.Lib
set_option linter.all false
set_option maxRecDepth 4000
def etc : List Et → List Value
  | [] => []
  | x :: r => .string (str x.m) :: .string (str x.n) :: .string (str x.i) :: etc r
theorem etc_at : ∀ {l : List Et} {k : Nat} {x : Et}, l[k]? = some x → (etc l)[k * 3]? = some (.string (str x.m)) ∧ (etc l)[k * 3 + 1]? = some (.string (str x.n)) ∧ (etc l)[k * 3 + 2]? = some (.string (str x.i))
  | [], _, _, h => by simp at h
  | x :: r, 0, e, h => by simp at h; subst h; simp [etc]
  | x :: r, k + 1, e, h => by
    have := etc_at (l := r) (k := k) (by simpa using h)
    simpa [etc, Nat.add_mul, Nat.add_assoc] using this
def ssv (l : List (List UInt8)) : List Value := l.map fun s => .string (str s)
theorem prT_take {l : List Et} {k : Nat} {x : Et} (h : l[k]? = some x) : prT (l.take (k + 1)) = prT (l.take k) ++ prE x := by
  rw [List.take_add_one, h, prT_app]
  simp [prT]
theorem prT_le (l : List Et) (k : Nat) : (prT (l.take k)).length ≤ (prT l).length := by
  conv => rhs; rw [← List.take_append_drop k l, prT_app]
  simp
theorem prP_take {l : List (List UInt8)} {k : Nat} {x : List UInt8} (h : l[k]? = some x) : prP (l.take (k + 1)) = prP (l.take k) ++ lnL wParent x := by
  rw [List.take_add_one, h, prP_app]
  simp [prP]
theorem prP_le (l : List (List UInt8)) (k : Nat) : (prP (l.take k)).length ≤ (prP l).length := by
  conv => rhs; rw [← List.take_append_drop k l, prP_app]
  simp
section
variable [W0]
theorem sl_shape {L : List Chunk} {k m : Nat} {v : Value} {xs : List Value} (h : Sl L k v m xs) : ∃ a c, v = .slice a m c := by
  rcases h with ⟨c, rfl, rfl, _⟩ | ⟨a, c, rfl, _⟩
  · exact ⟨_, _, rfl⟩
  · exact ⟨_, _, rfl⟩
theorem sl_at3 {L : List Chunk} {v : Value} {l : List Et} {k : Nat} {x : Et} (h : Sl L 3 v l.length (etc l)) (hx : l[k]? = some x) :
    ∃ b off cap c T fr, v = .slice (some ⟨b, off, none⟩) l.length cap ∧ Fnd L b (.cells c T fr) ∧ c[off + k * 3]? = some (.string (str x.m)) ∧ c[off + k * 3 + 1]? = some (.string (str x.n)) ∧ c[off + k * 3 + 2]? = some (.string (str x.i)) := by
  have hk : k < l.length := (List.getElem?_eq_some_iff.1 hx).1
  obtain ⟨h1, h2, h3⟩ := etc_at hx
  rcases h with ⟨c, rfl, h0, _⟩ | ⟨a, cap, rfl, hr, hl⟩
  · omega
  · rcases hr with hr | ⟨b, off, c, T, fr, rfl, hf, hc⟩
    · rw [hr] at h1; simp at h1
    · exact ⟨b, off, cap, c, T, fr, rfl, hf, hc _ _ h1, by rw [Nat.add_assoc]; exact hc _ _ h2, by rw [Nat.add_assoc]; exact hc _ _ h3⟩
theorem sl_at1 {L : List Chunk} {v : Value} {l : List (List UInt8)} {k : Nat} {x : List UInt8} (h : Sl L 1 v l.length (ssv l)) (hx : l[k]? = some x) :
    ∃ b off cap c T fr, v = .slice (some ⟨b, off, none⟩) l.length cap ∧ Fnd L b (.cells c T fr) ∧ c[off + k * 1]? = some (.string (str x)) := by
  have hk : k < l.length := (List.getElem?_eq_some_iff.1 hx).1
  have h1 : (ssv l)[k]? = some (.string (str x)) := by simp [ssv, hx]
  rcases h with ⟨c, rfl, h0, _⟩ | ⟨a, cap, rfl, hr, hl⟩
  · omega
  · rcases hr with hr | ⟨b, off, c, T, fr, rfl, hf, hc⟩
    · rw [hr] at h1; simp at h1
    · exact ⟨b, off, cap, c, T, fr, rfl, hf, by rw [Nat.mul_one]; exact hc _ _ h1⟩
theorem addline_n (v : Value) (b w s : List UInt8) (C : Chunk) (L : List Chunk) (h : OwG 5 v b.length (bsv b) C) (hl : b.length + w.length + s.length ≤ 100000000000) :
    Gv Tryd.prog 108 [v, .string (str w), .string (str s)].toArray (C :: L) (fun r L' => ∃ C', OwG 5 r (b ++ lnL w s).length (bsv (b ++ lnL w s)) C' ∧ L' = C' :: L) := by
  refine Gv.of_body (args := [v, .string (str w), .string (str s)]) Tryd.func108 rfl rfl ?_
  have e1 : (b ++ w).length = b.length + (str w).size := by rw [str_size, List.length_append]
  have e2 : (b ++ w ++ s).length = b.length + (str w).size + (str s).size := by rw [str_size, str_size, List.length_append, List.length_append]
  have z1 := str_size w
  have z2 := str_size s
  (repeat' first|refine kW ?_|refine kU fun bk=>?_|refine kV fun hc=>?_|refine kZ (fun hc=>?_) fun hc=>?_|fail)
  refine OW_appGS rfl rfl h (by repeat (first | exact Zip.here _ | apply Zip.there)) (by omega) (by unfold maxLen; omega) rfl (fun v1 C1 h1 => ?_)
  rw [str_data, ← bsv_append, ← e1] at h1
  (repeat' first|refine kW ?_|refine kU fun bk=>?_|refine kV fun hc=>?_|refine kZ (fun hc=>?_) fun hc=>?_|fail)
  refine OW_appGS rfl rfl h1 (by repeat (first | exact Zip.here _ | apply Zip.there)) (by omega) (by unfold maxLen; omega) rfl (fun v2 C2 h2 => ?_)
  rw [str_data, ← bsv_append, e1, ← e2] at h2
  (repeat' first|refine kW ?_|refine kU fun bk=>?_|refine kV fun hc=>?_|refine kZ (fun hc=>?_) fun hc=>?_|fail)
  refine OW_buildSlice (cs := bsv [10]) rfl (by rfl) (by simp [fillL, patch, Value.cells, zeros]; rfl) (by omega) rfl rfl (fun b1 => ?_)
  (repeat' first|refine kW ?_|refine kU fun bk=>?_|refine kV fun hc=>?_|refine kZ (fun hc=>?_) fun hc=>?_|fail)
  refine OW_appG rfl rfl h2 (sl_cells (xs := bsv [10]) (m := 1) Fnd.here rfl (by simp)) (by repeat (first | exact Zip.here _ | apply Zip.there)) (by rfl) bsv_ones (by omega) (by unfold maxLen; omega) rfl (fun v3 C3 h3 => ?_)
  rw [← bsv_append] at h3
  (repeat' first|refine kW ?_|refine kU fun bk=>?_|refine kV fun hc=>?_|refine kZ (fun hc=>?_) fun hc=>?_|fail)
  refine kR ?_
  refine ⟨C3 :: L, iC, C3, ?_, rfl⟩
  have e3 : b ++ lnL w s = b ++ w ++ s ++ [10] := by simp [lnL]
  rw [e3]
  have e4 : (b ++ w ++ s ++ [10]).length = (b ++ w ++ s).length + 1 := List.length_append
  rw [e4]
  exact h3
theorem addmessage_n (v : Value) (b s : List UInt8) (C : Chunk) (L : List Chunk) (h : OwG 5 v b.length (bsv b) C) (hl : b.length + s.length ≤ 100000000000) :
    Gv Tryd.prog 109 [v, .string (str s)].toArray (C :: L) (fun r L' => ∃ C', OwG 5 r (b ++ [10] ++ s).length (bsv (b ++ [10] ++ s)) C' ∧ L' = C' :: L) := by
  refine Gv.of_body (args := [v, .string (str s)]) Tryd.func109 rfl rfl ?_
  have e1 : (b ++ [10]).length = b.length + 1 := by simp
  have e2 : (b ++ [10] ++ s).length = b.length + 1 + (str s).size := by rw [str_size, List.length_append, List.length_append]; rfl
  have z2 := str_size s
  (repeat' first|refine kW ?_|refine kU fun bk=>?_|refine kV fun hc=>?_|refine kZ (fun hc=>?_) fun hc=>?_|fail)
  refine OW_buildSlice (cs := bsv [10]) rfl (by rfl) (by simp [fillL, patch, Value.cells, zeros]; rfl) (by omega) rfl rfl (fun b1 => ?_)
  (repeat' first|refine kW ?_|refine kU fun bk=>?_|refine kV fun hc=>?_|refine kZ (fun hc=>?_) fun hc=>?_|fail)
  refine OW_appG rfl rfl h (sl_cells (xs := bsv [10]) (m := 1) Fnd.here rfl (by simp)) (by repeat (first | exact Zip.here _ | apply Zip.there)) (by rfl) bsv_ones (by omega) (by unfold maxLen; omega) rfl (fun v3 C3 h3 => ?_)
  rw [← bsv_append, ← e1] at h3
  (repeat' first|refine kW ?_|refine kU fun bk=>?_|refine kV fun hc=>?_|refine kZ (fun hc=>?_) fun hc=>?_|fail)
  refine OW_appGS rfl rfl h3 (by repeat (first | exact Zip.here _ | apply Zip.there)) (by omega) (by unfold maxLen; omega) rfl (fun v2 C2 h2 => ?_)
  rw [str_data, ← bsv_append, e1, ← e2] at h2
  (repeat' first|refine kW ?_|refine kU fun bk=>?_|refine kV fun hc=>?_|refine kZ (fun hc=>?_) fun hc=>?_|fail)
  refine kR ?_
  exact ⟨C2 :: L, iC, C2, h2, rfl⟩
set_option maxHeartbeats 1000000 in
theorem treebytes_n (vl : Value) (l : List Et) (L : List Chunk) (h : Sl L 3 vl l.length (etc l)) (hl : (prT l).length ≤ 100000000000) (hi : ∀ x ∈ l, x.i.length ≤ 9223372036854775807) (hll : l.length ≤ 100000000000) :
    Gv Tryd.prog 101 [.agg #[vl]].toArray L (fun r L' => ∃ C, OwG 5 r (prT l).length (bsv (prT l)) C ∧ L' = C :: L) := by
  obtain ⟨a0, c0, rfl⟩ := sl_shape h
  refine Gv.of_body (args := [.agg #[.slice a0 l.length c0]]) Tryd.func101 rfl rfl ?_
  (repeat' first|refine kW ?_|refine kU fun bk=>?_|refine kV fun hc=>?_|refine kZ (fun hc=>?_) fun hc=>?_|fail)
  revert bk; intro q
  refine WC_loop (X := Nat × Value × Chunk) (fun x => [(7, .slice a0 l.length c0), (8, .int .i64 (l.length : Int)), (9, .int .i64 (x.1 : Int)), (3, x.2.1)]) (fun x => x.2.2 :: L)
    (fun x => x.1 ≤ l.length ∧ OwG 5 x.2.1 (prT (l.take x.1)).length (bsv (prT (l.take x.1))) x.2.2) (fun x => l.length - x.1) (0, .slice none 0 0, []) ⟨Nat.zero_le _, OwG.nil⟩ iS (fun w h => Holds.nil.2 h.drop) ?_
  intro x ⟨h1, h2⟩
  obtain ⟨k, v, C⟩ := x
  simp only at h1 h2 ⊢
  (repeat' first|refine kW ?_|refine kU fun bk=>?_|refine kV fun hc=>?_|refine kZ (fun hc=>?_) fun hc=>?_|fail)
  · have hk : k < l.length := by omega
    obtain ⟨e, he⟩ : ∃ e, l[k]? = some e := ⟨l[k], by simp [hk]⟩
    have htk := prT_take he
    have hle := prT_le l (k + 1)
    have him := hi e (List.mem_of_getElem? he)
    obtain ⟨b, off, cap, c, T, fr, hv, hfn, g0, g1, g2⟩ := sl_at3 h he
    injection hv with e1 _ e3
    subst e1 e3
    have hlp : (prE e).length = e.m.length + 1 + e.n.length + 1 + 20 := by simp only [prE, List.length_append, List.length_cons, List.length_nil, rawL_len]
    rw [htk, List.length_append, hlp] at hle
    refine OW_EV (EV_indexAddr (j := k) rfl rfl rfl hk) rfl ?_
    (repeat' first|refine kW ?_|refine kU fun bk=>?_|refine kV fun hc=>?_|refine kZ (fun hc=>?_) fun hc=>?_|fail)
    have hrd : RdAt (C :: L) ⟨b, off + k * 3, none⟩ [.string (str e.m), .string (str e.n), .string (str e.i)] := .inr ⟨b, off + k * 3, c, T, fr, rfl, hfn.there, fun j u hj => by
      match j, hj with
      | 0, hj => simp at hj; subst hj; exact g0
      | 1, hj => simp at hj; subst hj; exact g1
      | 2, hj => simp at hj; subst hj; exact g2
      | j + 3, hj => simp at hj⟩
    refine OW_EV (EV_loadAgg rfl hrd rfl) rfl ?_
    (repeat' first|refine kW ?_|refine kU fun bk=>?_|refine kV fun hc=>?_|refine kZ (fun hc=>?_) fun hc=>?_|fail)
    refine OW_appGS rfl rfl h2 (by repeat (first | exact Zip.here _ | apply Zip.there)) (by rw [str_size]; omega) (by rw [str_size]; unfold maxLen; omega) rfl (fun v1 C1 p1 => ?_)
    rw [str_size, str_data, ← bsv_append, ← List.length_append] at p1
    (repeat' first|refine kW ?_|refine kU fun bk=>?_|refine kV fun hc=>?_|refine kZ (fun hc=>?_) fun hc=>?_|fail)
    refine OW_buildSlice (cs := bsv [32]) rfl (by rfl) (by simp [fillL, patch, Value.cells, zeros]; rfl) (by omega) rfl rfl (fun b1 => ?_)
    (repeat' first|refine kW ?_|refine kU fun bk=>?_|refine kV fun hc=>?_|refine kZ (fun hc=>?_) fun hc=>?_|fail)
    refine OW_appG rfl rfl p1 (sl_cells (xs := bsv [32]) (m := 1) Fnd.here rfl (by simp)) (by repeat (first | exact Zip.here _ | apply Zip.there)) (by rfl) bsv_ones (by rw [List.length_append]; omega) (by rw [List.length_append]; unfold maxLen; omega) rfl (fun v2 C2 p2 => ?_)
    rw [← bsv_append] at p2
    (repeat' first|refine kW ?_|refine kU fun bk=>?_|refine kV fun hc=>?_|refine kZ (fun hc=>?_) fun hc=>?_|fail)
    refine OW_appGS rfl rfl p2 (by repeat (first | exact Zip.here _ | apply Zip.there)) (by rw [str_size, List.length_append]; omega) (by rw [str_size, List.length_append]; unfold maxLen; omega) rfl (fun v3 C3 p3 => ?_)
    rw [str_size, str_data, ← bsv_append] at p3
    (repeat' first|refine kW ?_|refine kU fun bk=>?_|refine kV fun hc=>?_|refine kZ (fun hc=>?_) fun hc=>?_|fail)
    refine OW_buildSlice (cs := bsv [0]) rfl (by rfl) (by simp [fillL, patch, Value.cells, zeros]; rfl) (by omega) rfl rfl (fun b2 => ?_)
    (repeat' first|refine kW ?_|refine kU fun bk=>?_|refine kV fun hc=>?_|refine kZ (fun hc=>?_) fun hc=>?_|fail)
    refine OW_appG rfl rfl p3 (sl_cells (xs := bsv [0]) (m := 1) Fnd.here rfl (by simp)) (by repeat (first | exact Zip.here _ | apply Zip.there)) (by rfl) bsv_ones (by rw [List.length_append]; omega) (by rw [List.length_append]; unfold maxLen; omega) rfl (fun v4 C4 p4 => ?_)
    rw [← bsv_append] at p4
    (repeat' first|refine kW ?_|refine kU fun bk=>?_|refine kV fun hc=>?_|refine kZ (fun hc=>?_) fun hc=>?_|fail)
    refine OW_call rfl rfl rfl (idbytes_n e.i _ him) rfl (fun r L' hp => ?_)
    obtain ⟨C5, ho, rfl⟩ := hp
    (repeat' first|refine kW ?_|refine kU fun bk=>?_|refine kV fun hc=>?_|refine kZ (fun hc=>?_) fun hc=>?_|fail)
    refine OW_appG rfl rfl p4 (ow_sl ho) (by repeat (first | exact Zip.here _ | apply Zip.there)) (by rfl) bsv_ones (by rw [List.length_append]; omega) (by rw [List.length_append]; unfold maxLen; omega) rfl (fun v5 C6 p5 => ?_)
    rw [← bsv_append] at p5
    (repeat' first|refine kW ?_|refine kU fun bk=>?_|refine kV fun hc=>?_|refine kZ (fun hc=>?_) fun hc=>?_|fail)
    refine WQ_round (X := Nat × Value × Chunk) (μ := fun x => l.length - x.1) (x := (k, v, C)) (k + 1, v5, C6) (by simp only; omega) ⟨by simp only; omega, ?_⟩ iS (fun w h => iH h)
    simp only
    have e6 : prT (l.take (k + 1)) = prT (l.take k) ++ e.m ++ [32] ++ e.n ++ [0] ++ rawL e.i := by rw [htk]; simp [prE]
    have e7 : (prT (l.take (k + 1))).length = (prT (l.take k) ++ e.m).length + 1 + e.n.length + 1 + 20 := by rw [e6]; simp only [List.length_append, List.length_cons, List.length_nil, rawL_len]
    rw [e7, e6]
    exact p5
  · rw [List.take_of_length_le (by omega)] at h2
    refine kR ?_
    exact ⟨_, iC, C, h2, rfl⟩
end
end Go.Proofs.YtlomjmdgcpjepaaDoor
namespace Go.Proofs.YtlomjmdgcpjepaaDoor
open Go Go.Vx Go.Ob Go.Lib
set_option linter.all false
set_option maxRecDepth 4000
def coV (vp : Value) (o : Co) : List Value := [.string (str o.t), vp, .string (str o.a), .string (str o.c), .string (str o.m)]
def tgV (o : Tg) : List Value := [.string (str o.o), .int .i64 o.k, .string (str o.n), .string (str o.t), .string (str o.m)]
theorem prC_len (o : Co) : (prC o).length = (5 + o.t.length + 1) + (prP o.ps).length + (7 + o.a.length + 1) + (10 + o.c.length + 1) + 1 + o.m.length := by
  simp only [prC, lnL, List.length_append, List.length_cons, List.length_nil]
  rfl
theorem prG_len (o : Tg) : (prG o).length = (7 + o.o.length + 1) + (5 + (nmI o.k).length + 1) + (4 + o.n.length + 1) + (7 + o.t.length + 1) + 1 + o.m.length := by
  simp only [prG, lnL, List.length_append, List.length_cons, List.length_nil]
  rfl
theorem lnL_len (w x : List UInt8) : (lnL w x).length = w.length + x.length + 1 := by simp only [lnL, List.length_append, List.length_cons, List.length_nil]
section
variable [W0]
set_option maxHeartbeats 1000000 in
theorem commitbytes_n (vp : Value) (o : Co) (L : List Chunk) (h : Sl L 1 vp o.ps.length (ssv o.ps)) (hl : (prC o).length ≤ 100000000000) (hll : o.ps.length ≤ 100000000000) :
    Gv Tryd.prog 105 [.agg (coV vp o).toArray].toArray L (fun r L' => ∃ C, OwG 5 r (prC o).length (bsv (prC o)) C ∧ L' = C :: L) := by
  obtain ⟨a0, c0, rfl⟩ := sl_shape h
  rw [prC_len] at hl
  have w1 : wTree.length = 5 := rfl
  have w2 : wParent.length = 7 := rfl
  have w3 : wAuthor.length = 7 := rfl
  have w4 : wCommitter.length = 10 := rfl
  refine Gv.of_body (args := [.agg (coV (.slice a0 o.ps.length c0) o).toArray]) Tryd.func105 rfl rfl ?_
  unfold coV
  (repeat' first|refine kW ?_|refine kU fun bk=>?_|refine kV fun hc=>?_|refine kZ (fun hc=>?_) fun hc=>?_|fail)
  revert bk; intro q
  refine OW_call rfl rfl rfl ((addline_n (.slice none 0 0) [] wTree o.t [] _ OwG.nil (by rw [w1]; simp only [List.length_nil]; omega)).holds (fun w h => Holds.nil.2 h)) rfl (fun r L' hp => ?_)
  obtain ⟨C1, p1, rfl⟩ := hp
  rw [List.nil_append] at p1
  (repeat' first|refine kW ?_|refine kU fun bk=>?_|refine kV fun hc=>?_|refine kZ (fun hc=>?_) fun hc=>?_|fail)
  refine WC_loop (X := Nat × Value × Chunk) (fun x => [(1, .pointer (some ⟨q, 0, none⟩)), (10, .slice a0 o.ps.length c0), (11, .int .i64 (o.ps.length : Int)), (12, .int .i64 (x.1 : Int)), (3, x.2.1)])
    (fun x => x.2.2 :: [(q, cl [.string (str o.t), .slice a0 o.ps.length c0, .string (str o.a), .string (str o.c), .string (str o.m)] 63)] :: L)
    (fun x => x.1 ≤ o.ps.length ∧ OwG 5 x.2.1 (lnL wTree o.t ++ prP (o.ps.take x.1)).length (bsv (lnL wTree o.t ++ prP (o.ps.take x.1))) x.2.2) (fun x => o.ps.length - x.1) (0, r, C1) ⟨Nat.zero_le _, by simp only [List.take_zero, prP, List.append_nil]; exact p1⟩ iS (fun w h => h) ?_
  intro x ⟨h1, h2⟩
  obtain ⟨k, v, C⟩ := x
  simp only at h1 h2 ⊢
  (repeat' first|refine kW ?_|refine kU fun bk=>?_|refine kV fun hc=>?_|refine kZ (fun hc=>?_) fun hc=>?_|fail)
  · have hk : k < o.ps.length := by omega
    obtain ⟨e, he⟩ : ∃ e, o.ps[k]? = some e := ⟨o.ps[k], by simp [hk]⟩
    have htk := prP_take he
    have hle := prP_le o.ps (k + 1)
    obtain ⟨b, off, cap, c, T, fr, hv, hfn, g0⟩ := sl_at1 h he
    injection hv with e1 _ e3
    subst e1 e3
    rw [htk, List.length_append, lnL_len, w2] at hle
    refine OW_EV (EV_indexAddr (j := k) rfl rfl rfl hk) rfl ?_
    (repeat' first|refine kW ?_|refine kU fun bk=>?_|refine kV fun hc=>?_|refine kZ (fun hc=>?_) fun hc=>?_|fail)
    refine OW_EV (EV_load rfl hfn.there.there g0) rfl ?_
    (repeat' first|refine kW ?_|refine kU fun bk=>?_|refine kV fun hc=>?_|refine kZ (fun hc=>?_) fun hc=>?_|fail)
    refine OW_call rfl rfl rfl (addline_n v (lnL wTree o.t ++ prP (o.ps.take k)) wParent e C _ h2 (by rw [List.length_append, lnL_len, w1, w2]; omega)) rfl (fun r L' hp => ?_)
    obtain ⟨C2, p2, rfl⟩ := hp
    (repeat' first|refine kW ?_|refine kU fun bk=>?_|refine kV fun hc=>?_|refine kZ (fun hc=>?_) fun hc=>?_|fail)
    refine WQ_round (X := Nat × Value × Chunk) (μ := fun x => o.ps.length - x.1) (x := (k, v, C)) (k + 1, r, C2) (by simp only; omega) ⟨by simp only; omega, ?_⟩ iS (fun w h => iH h)
    simp only
    rw [htk, ← List.append_assoc]
    exact p2
  · rw [List.take_of_length_le (by omega)] at h2
    refine OW_call rfl rfl rfl (addline_n v (lnL wTree o.t ++ prP o.ps) wAuthor o.a C _ h2 (by rw [List.length_append, lnL_len, w1, w3]; omega)) rfl (fun r2 L' hp => ?_)
    obtain ⟨C2, p2, rfl⟩ := hp
    (repeat' first|refine kW ?_|refine kU fun bk=>?_|refine kV fun hc=>?_|refine kZ (fun hc=>?_) fun hc=>?_|fail)
    refine OW_call rfl rfl rfl (addline_n r2 (lnL wTree o.t ++ prP o.ps ++ lnL wAuthor o.a) wCommitter o.c C2 _ p2 (by simp only [List.length_append, lnL_len, w1, w3, w4]; omega)) rfl (fun r3 L' hp => ?_)
    obtain ⟨C3, p3, rfl⟩ := hp
    (repeat' first|refine kW ?_|refine kU fun bk=>?_|refine kV fun hc=>?_|refine kZ (fun hc=>?_) fun hc=>?_|fail)
    refine OW_call rfl rfl rfl (addmessage_n r3 (lnL wTree o.t ++ prP o.ps ++ lnL wAuthor o.a ++ lnL wCommitter o.c) o.m C3 _ p3 (by simp only [List.length_append, lnL_len, w1, w3, w4]; omega)) rfl (fun r4 L' hp => ?_)
    obtain ⟨C4, p4, rfl⟩ := hp
    (repeat' first|refine kW ?_|refine kU fun bk=>?_|refine kV fun hc=>?_|refine kZ (fun hc=>?_) fun hc=>?_|fail)
    refine kR ?_
    exact ⟨C4 :: L, iC, C4, p4, rfl⟩
theorem tagbytes_n (o : Tg) (L : List Chunk) (hl : (prG o).length ≤ 100000000000) :
    Gv Tryd.prog 110 [.agg (tgV o).toArray].toArray L (fun r L' => ∃ C, OwG 5 r (prG o).length (bsv (prG o)) C ∧ L' = C :: L) := by
  rw [prG_len] at hl
  have w1 : wObject.length = 7 := rfl
  have w2 : wType.length = 5 := rfl
  have w3 : wTag.length = 4 := rfl
  have w4 : wTagger.length = 7 := rfl
  refine Gv.of_body (args := [.agg (tgV o).toArray]) Tryd.func110 rfl rfl ?_
  unfold tgV
  (repeat' first|refine kW ?_|refine kU fun bk=>?_|refine kV fun hc=>?_|refine kZ (fun hc=>?_) fun hc=>?_|fail)
  revert bk; intro q
  refine OW_call rfl rfl rfl ((addline_n (.slice none 0 0) [] wObject o.o [] _ OwG.nil (by rw [w1]; simp only [List.length_nil]; omega)).holds (fun w h => Holds.nil.2 h)) rfl (fun r L' hp => ?_)
  obtain ⟨C1, p1, rfl⟩ := hp
  rw [List.nil_append] at p1
  (repeat' first|refine kW ?_|refine kU fun bk=>?_|refine kV fun hc=>?_|refine kZ (fun hc=>?_) fun hc=>?_|fail)
  refine OW_callP rfl rfl rfl (obname_n o.k _) rfl ?_
  (repeat' first|refine kW ?_|refine kU fun bk=>?_|refine kV fun hc=>?_|refine kZ (fun hc=>?_) fun hc=>?_|fail)
  refine OW_call rfl rfl rfl (addline_n r (lnL wObject o.o) wType (nmI o.k) C1 _ p1 (by simp only [List.length_append, lnL_len, w1, w2]; omega)) rfl (fun r2 L' hp => ?_)
  obtain ⟨C2, p2, rfl⟩ := hp
  (repeat' first|refine kW ?_|refine kU fun bk=>?_|refine kV fun hc=>?_|refine kZ (fun hc=>?_) fun hc=>?_|fail)
  refine OW_call rfl rfl rfl (addline_n r2 (lnL wObject o.o ++ lnL wType (nmI o.k)) wTag o.n C2 _ p2 (by simp only [List.length_append, lnL_len, w1, w2, w3]; omega)) rfl (fun r3 L' hp => ?_)
  obtain ⟨C3, p3, rfl⟩ := hp
  (repeat' first|refine kW ?_|refine kU fun bk=>?_|refine kV fun hc=>?_|refine kZ (fun hc=>?_) fun hc=>?_|fail)
  refine OW_call rfl rfl rfl (addline_n r3 (lnL wObject o.o ++ lnL wType (nmI o.k) ++ lnL wTag o.n) wTagger o.t C3 _ p3 (by simp only [List.length_append, lnL_len, w1, w2, w3, w4]; omega)) rfl (fun r4 L' hp => ?_)
  obtain ⟨C4, p4, rfl⟩ := hp
  (repeat' first|refine kW ?_|refine kU fun bk=>?_|refine kV fun hc=>?_|refine kZ (fun hc=>?_) fun hc=>?_|fail)
  refine OW_call rfl rfl rfl (addmessage_n r4 (lnL wObject o.o ++ lnL wType (nmI o.k) ++ lnL wTag o.n ++ lnL wTagger o.t) o.m C4 _ p4 (by simp only [List.length_append, lnL_len, w1, w2, w3, w4]; omega)) rfl (fun r5 L' hp => ?_)
  obtain ⟨C5, p5, rfl⟩ := hp
  (repeat' first|refine kW ?_|refine kU fun bk=>?_|refine kV fun hc=>?_|refine kZ (fun hc=>?_) fun hc=>?_|fail)
  refine kR ?_
  exact ⟨C5 :: L, iC, C5, p5, rfl⟩
theorem blobbytes_n (v : Value) (t : List UInt8) (L : List Chunk) (h : SlC L 1 v t.length (bsv t)) (hl : t.length ≤ 100000000000) :
    Gv Tryd.prog 113 [.agg #[v]].toArray L (fun r L' => ∃ C, OwG 5 r t.length (bsv t) C ∧ L' = C :: L) := by
  obtain ⟨a0, c0, rfl, _⟩ := h.room
  refine Gv.of_body (args := [.agg #[.slice a0 t.length c0]]) Tryd.func113 rfl rfl ?_
  have hcp : ∀ L, SlC L 1 (.slice a0 t.length c0) t.length (bsv t) → Gv Tryd.prog 116 [.slice a0 t.length c0].toArray L (fun r L' => ∃ C, OwG 5 r t.length (bsv t) C ∧ L' = C :: L) := fun L h => by
    refine Gv.of_body (args := [.slice a0 t.length c0]) Tryd.func116 rfl rfl ?_
    (repeat' first|refine kW ?_|refine kU fun bk=>?_|refine kV fun hc=>?_|refine kZ (fun hc=>?_) fun hc=>?_|fail)
    refine OW_holds (L' := [] :: L) (fun w h => Holds.nil.2 h) ?_
    refine OW_appG rfl rfl OwG.nil h.there.sl (by repeat (first | exact Zip.here _ | apply Zip.there)) (by rfl) bsv_ones (by omega) (by unfold maxLen; omega) rfl (fun v1 C1 p1 => ?_)
    rw [Nat.zero_add, List.nil_append] at p1
    (repeat' first|refine kW ?_|refine kU fun bk=>?_|refine kV fun hc=>?_|refine kZ (fun hc=>?_) fun hc=>?_|fail)
    refine kR ?_
    exact ⟨C1 :: L, iC, C1, p1, rfl⟩
  (repeat' first|refine kW ?_|refine kU fun bk=>?_|refine kV fun hc=>?_|refine kZ (fun hc=>?_) fun hc=>?_|fail)
  refine OW_call rfl rfl rfl (hcp _ h.there) rfl (fun r L' hp => ?_)
  obtain ⟨C1, p1, rfl⟩ := hp
  (repeat' first|refine kW ?_|refine kU fun bk=>?_|refine kV fun hc=>?_|refine kZ (fun hc=>?_) fun hc=>?_|fail)
  refine kR ?_
  exact ⟨C1 :: L, iC, C1, p1, rfl⟩
end
end Go.Proofs.YtlomjmdgcpjepaaDoor
namespace Go.Ob
open Go Go.Vx
set_option linter.all false
def mthV (P : Program) (t : Nat) (name : String) : Option FuncId := match P.info? t with
  | some i => match i.methods.find? (·.name == name) with
    | some m => match m.path.toList, m.func, P.underlying t with
      | [], some (f, false), some (.struct _) => some f
      | _, _, _ => none
    | none => none
  | none => none
theorem methodV_run {P : Program} {t : Nat} {name : String} {f : FuncId} (h : mthV P t name = some f) (fuel : Nat) (v : Value) [W0] (w : World) : (method (fuel + 1) t v name).run P w = .ok (f, v) w := by
  unfold mthV at h
  split at h
  · rename_i i hi
    split at h
    · rename_i m hm
      split at h
      · rename_i f' e h1 h2 h3
        simp at h
        subst h
        unfold method
        simp [typeInfo, hi, hm, h1, follow, h2, receiverAt, run_underlying h3, Place.get]
      · simp at h
    · simp at h
  · simp at h
section
variable [W0]
variable {P : Program} {n : Nat} {M : List (Nat × Value)} {L : List Chunk} {K : List (Nat × Value) → List Chunk → Prop}
variable {d : Nat} {ty : TypeId} {ps : String} {af : Array Edge} {g : Option (Nat × Bool)} {x : Operand} {v : Value}
theorem OW_invokeV {t : Nat} {f : FuncId} {name : String} (hm : mthV P t name = some f) [hb : BD P f] {xs : List Operand} {ats : Array TypeId} {vs : List Value} {post : Value → List Chunk → Prop}
    (hx : ev M x = some (.iface t v)) (hvs : evs M xs = some vs) (hspec : Gv P f (v :: vs).toArray L post)
    (hn : Nat.blt d n = true) (h : ∀ v L', post v L' → K ((d, v) :: M) L') : OW P n ⟨some d, .call ⟨.invoke x name, xs.toArray, ats⟩, ty, ps, af, g⟩ K M L := ⟨fun a w next Q ha hw hk => by
  have hrun : (execOp a.eval ⟨some d, .call ⟨.invoke x name, xs.toArray, ats⟩, ty, ps, af, g⟩).run P w = .ok (.enter f (v :: vs).toArray) w := by
    have e1 : Array.map a.eval xs.toArray = vs.toArray := by rw [← ha.evals hvs]; simp
    have e2 : (#[Value.iface t v] ++ vs.toArray)[0]? = some (.iface t v) := by simp
    have e3 : (#[Value.iface t v] ++ vs.toArray).extract 1 (#[Value.iface t v] ++ vs.toArray).size = vs.toArray := by
      apply Array.ext'; simp
    have e4 : #[v] ++ vs.toArray = (v :: vs).toArray := by apply Array.ext'; simp
    have hfuel : P.types.size + Made.depth = (P.types.size + Made.depth - 1) + 1 := by
      have : 0 < Made.depth := by decide
      omega
    have hmr := methodV_run hm (P.types.size + Made.depth - 1) v w
    rw [← hfuel] at hmr
    simp only [execOp, resolve, ha.eval hx, e1, Sem.run_bind, Sem.run_pure, Result.andThen_ok, invoke, e2, e3, callMethod, run_program, hmr, e4, callFunc_run hb.out]
  unfold Oper.wp
  rw [hrun, Oper.upon_enter]
  refine (hspec.out w hw).mono fun e w' he => ?_
  obtain ⟨v, L', rfl, hp, hw'⟩ := he
  exact (hk _ _ (h v L' hp)).out _ _ (ha.put v hn) hw'⟩
end
end Go.Ob
namespace Go.Proofs.YtlomjmdgcpjepaaDoor
open Go Go.Vx Go.Ob Go.Lib
set_option linter.all false
set_option maxRecDepth 4000
structure Do where
  kind : Int
  data : List UInt8
  l : List Et
  tree : List UInt8
  ps : List (List UInt8)
  author : List UInt8
  committer : List UInt8
  object : List UInt8
  name : List UInt8
  type : Int
  tagger : List UInt8
  message : List UInt8
def Do.co (o : Do) : Co := ⟨o.tree, o.ps, o.author, o.committer, o.message⟩
def Do.tg (o : Do) : Tg := ⟨o.object, o.type, o.name, o.tagger, o.message⟩
def doV (vl vp : Value) (o : Do) : List Value := [.int .i64 o.kind, .string (str o.data), vl, .string (str o.tree), vp, .string (str o.author), .string (str o.committer), .string (str o.object), .string (str o.name), .int .i64 o.type, .string (str o.tagger), .string (str o.message)]
def Do.pr (o : Do) : List UInt8 := if o.kind = 3 then o.data else if o.kind = 2 then prT o.l else if o.kind = 1 then prC o.co else prG o.tg
section
variable [W0]
set_option maxHeartbeats 2000000 in
theorem refbytes_n (vl vp : Value) (o : Do) (L : List Chunk) (h1 : 1 ≤ o.kind) (h4 : o.kind ≤ 4) (hvl : Sl L 3 vl o.l.length (etc o.l)) (hvp : Sl L 1 vp o.ps.length (ssv o.ps))
    (hl : o.pr.length ≤ 100000000000) (hll : o.l.length ≤ 100000000000) (hlp : o.ps.length ≤ 100000000000) (hi : ∀ x ∈ o.l, x.i.length ≤ 70368744177664) :
    GvP Tryd.prog 20 [.agg (doV vl vp o).toArray].toArray L (.string (str o.pr)) := by
  obtain ⟨a0, c0, rfl⟩ := sl_shape hvl
  obtain ⟨a1, c1, rfl⟩ := sl_shape hvp
  refine Gv.of_body (args := [.agg (doV (.slice a0 o.l.length c0) (.slice a1 o.ps.length c1) o).toArray]) Tryd.func20 rfl rfl ?_
  unfold doV
  rcases (by omega : o.kind = 3 ∨ o.kind = 2 ∨ o.kind = 1 ∨ o.kind = 4) with hk | hk | hk | hk
  · have e : o.pr = o.data := by unfold Do.pr; rw [if_pos hk]
    rw [e, hk]
    (repeat' first|refine kW ?_|refine kU fun bk=>?_|refine kV fun hc=>?_|refine kZ (fun hc=>?_) fun hc=>?_|fail)
    exact kE
  · have e : o.pr = prT o.l := by unfold Do.pr; rw [if_neg (by omega), if_pos hk]
    rw [e] at hl ⊢
    rw [hk]
    (repeat' first|refine kW ?_|refine kU fun bk=>?_|refine kV fun hc=>?_|refine kZ (fun hc=>?_) fun hc=>?_|fail)
    revert bk; intro q
    refine WC_loop (X := Nat) (fun x => [(1, .pointer (some ⟨q, 0, none⟩)), (4, .int .i64 (x : Int)), (3, .string (str (prT (o.l.take x))))])
      (fun x => [(q, cl [.int .i64 2, .string (str o.data), .slice a0 o.l.length c0, .string (str o.tree), .slice a1 o.ps.length c1, .string (str o.author), .string (str o.committer), .string (str o.object), .string (str o.name), .int .i64 o.type, .string (str o.tagger), .string (str o.message)] 36)] :: L)
      (fun x => x ≤ o.l.length) (fun x => o.l.length - x) 0 (Nat.zero_le _) iS (fun w h => h) ?_
    intro k h1
    (repeat' first|refine kW ?_|refine kU fun bk=>?_|refine kV fun hc=>?_|refine kZ (fun hc=>?_) fun hc=>?_|fail)
    · have hkl : k < o.l.length := by omega
      obtain ⟨e, he⟩ : ∃ e, o.l[k]? = some e := ⟨o.l[k], by simp [hkl]⟩
      have htk := prT_take he
      have hle := prT_le o.l (k + 1)
      have him := hi e (List.mem_of_getElem? he)
      obtain ⟨b, off, cap, c, T, fr, hv, hfn, g0, g1, g2⟩ := sl_at3 hvl he
      injection hv with e1 _ e3
      subst e1 e3
      have hlp : (prE e).length = e.m.length + 1 + e.n.length + 1 + 20 := by simp only [prE, List.length_append, List.length_cons, List.length_nil, rawL_len]
      have hrl := rawL_len e.i
      rw [htk, List.length_append, hlp] at hle
      refine WC_drawAll [] mixed ?_
      (refine WR_t 0 ?_; refine WR_t 1 ?_; refine WR_t 2 ?_; refine WR_t 3 ?_)
      (refine WR_take 4 rfl rfl (by kernel_rfl) iP iC (EV_indexAddr (j := k) rfl rfl rfl hkl) (by rfl) ?_)
      (refine WR_t 5 ?_)
      (refine WR_take 6 rfl rfl (by kernel_rfl) iP iC (EV_load rfl hfn.there g0) (by rfl) ?_)
      (refine WR_take 7 rfl rfl (by kernel_rfl) iP iC (EV_catL (prT (o.l.take k)) e.m rfl rfl (by omega)) (by rfl) ?_)
      (refine WR_take 8 rfl rfl (by kernel_rfl) iP iC (EV_catL (prT (o.l.take k) ++ e.m) [32] rfl rfl (by simp only [List.length_append, List.length_cons, List.length_nil]; omega)) (by rfl) ?_)
      (refine WR_t 9 ?_; refine WR_t 10 ?_; refine WR_t 11 ?_)
      (refine WR_take 12 rfl rfl (by kernel_rfl) iP iC (EV_indexAddr (j := k) rfl rfl rfl hkl) (by rfl) ?_)
      (refine WR_t 13 ?_)
      (refine WR_take 14 rfl rfl (by kernel_rfl) iP iC (EV_load rfl hfn.there g1) (by rfl) ?_)
      (refine WR_take 15 rfl rfl (by kernel_rfl) iP iC (EV_catL (prT (o.l.take k) ++ e.m ++ [32]) e.n rfl rfl (by simp only [List.length_append, List.length_cons, List.length_nil]; omega)) (by rfl) ?_)
      (refine WR_take 16 rfl rfl (by kernel_rfl) iP iC (EV_catL (prT (o.l.take k) ++ e.m ++ [32] ++ e.n) [0] rfl rfl (by simp only [List.length_append, List.length_cons, List.length_nil]; omega)) (by rfl) ?_)
      (refine WR_t 17 ?_; refine WR_t 18 ?_; refine WR_t 19 ?_)
      (refine WR_take 20 rfl rfl (by kernel_rfl) iP iC (EV_indexAddr (j := k) rfl rfl rfl hkl) (by rfl) ?_)
      (refine WR_t 21 ?_)
      (refine WR_take 22 rfl rfl (by kernel_rfl) iP iC (EV_load rfl hfn.there g2) (by rfl) ?_)
      (refine WR_one 23 (by kernel_rfl) rfl rfl ?_)
      refine OW_callP rfl rfl rfl (refraw_n e.i _ him) rfl ?_
      refine ⟨iC, ?_⟩
      (refine WR_take 24 rfl rfl (by kernel_rfl) iP iC (EV_catL (prT (o.l.take k) ++ e.m ++ [32] ++ e.n ++ [0]) (rawL e.i) rfl rfl (by simp only [List.length_append, List.length_cons, List.length_nil]; omega)) (by rfl) ?_)
      (refine WR_t 25 ?_)
      (refine WR_done (by kernel_rfl) ?_)
      (repeat' first|refine kW ?_|refine kU fun bk=>?_|refine kV fun hc=>?_|refine kZ (fun hc=>?_) fun hc=>?_|fail)
      have e6 : prT (o.l.take (k + 1)) = prT (o.l.take k) ++ e.m ++ [32] ++ e.n ++ [0] ++ rawL e.i := by rw [htk]; simp [prE]
      rw [← e6]
      refine WQ_round (X := Nat) (μ := fun x => o.l.length - x) (x := k) (k + 1) (by omega) (by omega) iS (fun w h => h)
    · have hk2 : o.l.take k = o.l := List.take_of_length_le (by omega)
      rw [hk2]
      refine kR ?_
      exact ⟨_, iC, rfl, rfl⟩
  · have e : o.pr = prC o.co := by unfold Do.pr; rw [if_neg (by omega), if_neg (by omega), if_pos hk]
    rw [e] at hl ⊢
    rw [hk]
    rw [prC_len] at hl
    simp only [Do.co] at hl
    have w1 : wTree.length = 5 := rfl
    have w2 : wParent.length = 7 := rfl
    have w3 : wAuthor.length = 7 := rfl
    have w4 : wCommitter.length = 10 := rfl
    (repeat' first|refine kW ?_|refine kU fun bk=>?_|refine kV fun hc=>?_|refine kZ (fun hc=>?_) fun hc=>?_|fail)
    revert bk; intro q
    refine OW_EV (EV_catL wTree o.tree rfl rfl (by omega)) rfl ?_
    (repeat' first|refine kW ?_|refine kU fun bk=>?_|refine kV fun hc=>?_|refine kZ (fun hc=>?_) fun hc=>?_|fail)
    refine OW_EV (EV_catL (wTree ++ o.tree) [10] rfl rfl (by simp only [List.length_append, List.length_cons, List.length_nil, lnL_len, w1, w2, w3, w4]; omega)) rfl ?_
    (repeat' first|refine kW ?_|refine kU fun bk=>?_|refine kV fun hc=>?_|refine kZ (fun hc=>?_) fun hc=>?_|fail)
    refine WC_loop (X := Nat) (fun x => [(1, .pointer (some ⟨q, 0, none⟩)), (5, .int .i64 (x : Int)), (3, .string (str (lnL wTree o.tree ++ prP (o.ps.take x))))])
      (fun x => [(q, cl [.int .i64 1, .string (str o.data), .slice a0 o.l.length c0, .string (str o.tree), .slice a1 o.ps.length c1, .string (str o.author), .string (str o.committer), .string (str o.object), .string (str o.name), .int .i64 o.type, .string (str o.tagger), .string (str o.message)] 36)] :: L)
      (fun x => x ≤ o.ps.length) (fun x => o.ps.length - x) 0 (Nat.zero_le _) (by simp only [List.take_zero, prP, List.append_nil, lnL]; exact iS) (fun w h => h) ?_
    intro k h1
    (repeat' first|refine kW ?_|refine kU fun bk=>?_|refine kV fun hc=>?_|refine kZ (fun hc=>?_) fun hc=>?_|fail)
    · have hkl : k < o.ps.length := by omega
      obtain ⟨e, he⟩ : ∃ e, o.ps[k]? = some e := ⟨o.ps[k], by simp [hkl]⟩
      have htk := prP_take he
      have hle := prP_le o.ps (k + 1)
      obtain ⟨b, off, cap, c, T, fr, hv, hfn, g0⟩ := sl_at1 hvp he
      injection hv with e1 _ e3
      subst e1 e3
      rw [htk, List.length_append, lnL_len, w2] at hle
      refine OW_EV (EV_catL (lnL wTree o.tree ++ prP (o.ps.take k)) wParent rfl rfl (by simp only [List.length_append, List.length_cons, List.length_nil, lnL_len, w1, w2, w3, w4]; omega)) rfl ?_
      (repeat' first|refine kW ?_|refine kU fun bk=>?_|refine kV fun hc=>?_|refine kZ (fun hc=>?_) fun hc=>?_|fail)
      refine OW_EV (EV_indexAddr (j := k) rfl rfl rfl hkl) rfl ?_
      (repeat' first|refine kW ?_|refine kU fun bk=>?_|refine kV fun hc=>?_|refine kZ (fun hc=>?_) fun hc=>?_|fail)
      refine OW_EV (EV_load rfl hfn.there g0) rfl ?_
      (repeat' first|refine kW ?_|refine kU fun bk=>?_|refine kV fun hc=>?_|refine kZ (fun hc=>?_) fun hc=>?_|fail)
      refine OW_EV (EV_catL (lnL wTree o.tree ++ prP (o.ps.take k) ++ wParent) e rfl rfl (by simp only [List.length_append, List.length_cons, List.length_nil, lnL_len, w1, w2, w3, w4]; omega)) rfl ?_
      (repeat' first|refine kW ?_|refine kU fun bk=>?_|refine kV fun hc=>?_|refine kZ (fun hc=>?_) fun hc=>?_|fail)
      refine OW_EV (EV_catL (lnL wTree o.tree ++ prP (o.ps.take k) ++ wParent ++ e) [10] rfl rfl (by simp only [List.length_append, List.length_cons, List.length_nil, lnL_len, w1, w2, w3, w4]; omega)) rfl ?_
      (repeat' first|refine kW ?_|refine kU fun bk=>?_|refine kV fun hc=>?_|refine kZ (fun hc=>?_) fun hc=>?_|fail)
      have e6 : lnL wTree o.tree ++ prP (o.ps.take (k + 1)) = lnL wTree o.tree ++ prP (o.ps.take k) ++ wParent ++ e ++ [10] := by rw [htk]; simp [lnL]
      rw [← e6]
      refine WQ_round (X := Nat) (μ := fun x => o.ps.length - x) (x := k) (k + 1) (by omega) (by omega) iS (fun w h => h)
    · have hk2 : o.ps.take k = o.ps := List.take_of_length_le (by omega)
      rw [hk2]
      refine OW_EV (EV_catL (lnL wTree o.tree ++ prP o.ps) wAuthor rfl rfl (by simp only [List.length_append, List.length_cons, List.length_nil, lnL_len, w1, w2, w3, w4]; omega)) rfl ?_
      (repeat' first|refine kW ?_|refine kU fun bk=>?_|refine kV fun hc=>?_|refine kZ (fun hc=>?_) fun hc=>?_|fail)
      refine OW_EV (EV_catL (lnL wTree o.tree ++ prP o.ps ++ wAuthor) o.author rfl rfl (by simp only [List.length_append, List.length_cons, List.length_nil, lnL_len, w1, w2, w3, w4]; omega)) rfl ?_
      (repeat' first|refine kW ?_|refine kU fun bk=>?_|refine kV fun hc=>?_|refine kZ (fun hc=>?_) fun hc=>?_|fail)
      refine OW_EV (EV_catL (lnL wTree o.tree ++ prP o.ps ++ wAuthor ++ o.author) (10 :: wCommitter) rfl rfl (by simp only [List.length_append, List.length_cons, List.length_nil, lnL_len, w1, w2, w3, w4]; omega)) rfl ?_
      (repeat' first|refine kW ?_|refine kU fun bk=>?_|refine kV fun hc=>?_|refine kZ (fun hc=>?_) fun hc=>?_|fail)
      refine OW_EV (EV_catL (lnL wTree o.tree ++ prP o.ps ++ wAuthor ++ o.author ++ 10 :: wCommitter) o.committer rfl rfl (by simp only [List.length_append, List.length_cons, List.length_nil, lnL_len, w1, w2, w3, w4]; omega)) rfl ?_
      (repeat' first|refine kW ?_|refine kU fun bk=>?_|refine kV fun hc=>?_|refine kZ (fun hc=>?_) fun hc=>?_|fail)
      refine OW_EV (EV_catL (lnL wTree o.tree ++ prP o.ps ++ wAuthor ++ o.author ++ 10 :: wCommitter ++ o.committer) [10, 10] rfl rfl (by simp only [List.length_append, List.length_cons, List.length_nil, lnL_len, w1, w2, w3, w4]; omega)) rfl ?_
      (repeat' first|refine kW ?_|refine kU fun bk=>?_|refine kV fun hc=>?_|refine kZ (fun hc=>?_) fun hc=>?_|fail)
      refine OW_EV (EV_catL (lnL wTree o.tree ++ prP o.ps ++ wAuthor ++ o.author ++ 10 :: wCommitter ++ o.committer ++ [10, 10]) o.message rfl rfl (by simp only [List.length_append, List.length_cons, List.length_nil, lnL_len, w1, w2, w3, w4]; omega)) rfl ?_
      (repeat' first|refine kW ?_|refine kU fun bk=>?_|refine kV fun hc=>?_|refine kZ (fun hc=>?_) fun hc=>?_|fail)
      have e7 : prC o.co = lnL wTree o.tree ++ prP o.ps ++ wAuthor ++ o.author ++ 10 :: wCommitter ++ o.committer ++ [10, 10] ++ o.message := by simp [prC, lnL, Do.co]
      rw [e7]
      exact kE
  · have e : o.pr = prG o.tg := by unfold Do.pr; rw [if_neg (by omega), if_neg (by omega), if_neg (by omega)]
    rw [e] at hl ⊢
    rw [hk]
    rw [prG_len] at hl
    simp only [Do.tg] at hl
    have w1 : wObject.length = 7 := rfl
    have w2 : wType.length = 5 := rfl
    have w3 : wTag.length = 4 := rfl
    have w4 : wTagger.length = 7 := rfl
    (repeat' first|refine kW ?_|refine kU fun bk=>?_|refine kV fun hc=>?_|refine kZ (fun hc=>?_) fun hc=>?_|fail)
    revert bk; intro q
    refine WC_drawAll [] mixed ?_
    (refine WR_t 0 ?_; refine WR_t 1 ?_)
    (refine WR_take 2 rfl rfl (by kernel_rfl) iP iC (EV_catL wObject o.object rfl rfl (by simp only [List.length_append, List.length_cons, List.length_nil, lnL_len, w1, w2, w3, w4]; omega)) (by rfl) ?_)
    (refine WR_take 3 rfl rfl (by kernel_rfl) iP iC (EV_catL (wObject ++ o.object) (10 :: wType) rfl rfl (by simp only [List.length_append, List.length_cons, List.length_nil, lnL_len, w1, w2, w3, w4]; omega)) (by rfl) ?_)
    (refine WR_t 4 ?_; refine WR_t 5 ?_; refine WR_t 9 ?_; refine WR_t 10 ?_; refine WR_t 13 ?_; refine WR_t 14 ?_; refine WR_t 17 ?_; refine WR_t 18 ?_)
    (refine WR_one 6 (by kernel_rfl) rfl rfl ?_)
    refine OW_callP rfl rfl rfl (refname_n o.type _) rfl ?_
    refine ⟨iC, ?_⟩
    (refine WR_take 7 rfl rfl (by kernel_rfl) iP iC (EV_catL (wObject ++ o.object ++ 10 :: wType) (nmI o.type) rfl rfl (by simp only [List.length_append, List.length_cons, List.length_nil, lnL_len, w1, w2, w3, w4]; omega)) (by rfl) ?_)
    (refine WR_take 8 rfl rfl (by kernel_rfl) iP iC (EV_catL (wObject ++ o.object ++ 10 :: wType ++ nmI o.type) (10 :: wTag) rfl rfl (by simp only [List.length_append, List.length_cons, List.length_nil, lnL_len, w1, w2, w3, w4]; omega)) (by rfl) ?_)
    (refine WR_take 11 rfl rfl (by kernel_rfl) iP iC (EV_catL (wObject ++ o.object ++ 10 :: wType ++ nmI o.type ++ 10 :: wTag) o.name rfl rfl (by simp only [List.length_append, List.length_cons, List.length_nil, lnL_len, w1, w2, w3, w4]; omega)) (by rfl) ?_)
    (refine WR_take 12 rfl rfl (by kernel_rfl) iP iC (EV_catL (wObject ++ o.object ++ 10 :: wType ++ nmI o.type ++ 10 :: wTag ++ o.name) (10 :: wTagger) rfl rfl (by simp only [List.length_append, List.length_cons, List.length_nil, lnL_len, w1, w2, w3, w4]; omega)) (by rfl) ?_)
    (refine WR_take 15 rfl rfl (by kernel_rfl) iP iC (EV_catL (wObject ++ o.object ++ 10 :: wType ++ nmI o.type ++ 10 :: wTag ++ o.name ++ 10 :: wTagger) o.tagger rfl rfl (by simp only [List.length_append, List.length_cons, List.length_nil, lnL_len, w1, w2, w3, w4]; omega)) (by rfl) ?_)
    (refine WR_take 16 rfl rfl (by kernel_rfl) iP iC (EV_catL (wObject ++ o.object ++ 10 :: wType ++ nmI o.type ++ 10 :: wTag ++ o.name ++ 10 :: wTagger ++ o.tagger) [10, 10] rfl rfl (by simp only [List.length_append, List.length_cons, List.length_nil, lnL_len, w1, w2, w3, w4]; omega)) (by rfl) ?_)
    (refine WR_take 19 rfl rfl (by kernel_rfl) iP iC (EV_catL (wObject ++ o.object ++ 10 :: wType ++ nmI o.type ++ 10 :: wTag ++ o.name ++ 10 :: wTagger ++ o.tagger ++ [10, 10]) o.message rfl rfl (by simp only [List.length_append, List.length_cons, List.length_nil, lnL_len, w1, w2, w3, w4]; omega)) (by rfl) ?_)
    (refine WR_t 20 ?_)
    (refine WR_done (by kernel_rfl) ?_)
    (repeat' first|refine kW ?_|refine kU fun bk=>?_|refine kV fun hc=>?_|refine kZ (fun hc=>?_) fun hc=>?_|fail)
    have e7 : prG o.tg = wObject ++ o.object ++ 10 :: wType ++ nmI o.type ++ 10 :: wTag ++ o.name ++ 10 :: wTagger ++ o.tagger ++ [10, 10] ++ o.message := by simp [prG, lnL, Do.tg]
    rw [e7]
    exact kE
end
end Go.Proofs.YtlomjmdgcpjepaaDoor
namespace Go.Vx
open Go Go.Ob Go.Proofs.YtlomjmdgcpjepaaDoor
set_option linter.all false
section
variable [W0]
variable {P : Program} {n : Nat} {M : List (Nat × Value)} {L : List Chunk} {K : List (Nat × Value) → List Chunk → Prop}
variable {d : Nat} {ty : TypeId} {ps : String} {af : Array Edge} {g : Option (Nat × Bool)} {x y : Operand} {v : Value}
theorem EV_eqS (a : List UInt8) {t u : TypeId} (hx : ev M x = some (.string (str a))) (hy : ev M y = some (.string (str a))) : EV P n ⟨some d, .binOp .eql t x y u, ty, ps, af, g⟩ M L d (.bool true) := by
  have := EV_eqL (P := P) (n := n) (M := M) (L := L) (d := d) (ty := ty) (ps := ps) (af := af) (g := g) (t := t) (u := u) a a hx hy
  rwa [decide_eq_true rfl] at this
theorem EV_eqI {k : IntKind} (i : Int) {t u : TypeId} (hx : ev M x = some (.int k i)) (hy : ev M y = some (.int k i)) : EV P n ⟨some d, .binOp .eql t x y u, ty, ps, af, g⟩ M L d (.bool true) :=
  EV_cmp hx hy (by simp [cmpI])
end
end Go.Vx
namespace Go.Proofs.YtlomjmdgcpjepaaDoor
open Go Go.Vx Go.Ob Go.Lib
set_option linter.all false
set_option maxRecDepth 4000
theorem mth_kb : mthV Tryd.prog 67 "Kind" = some 114 := by kernel_rfl
theorem mth_kt : mthV Tryd.prog 61 "Kind" = some 102 := by kernel_rfl
theorem mth_kc : mthV Tryd.prog 63 "Kind" = some 106 := by kernel_rfl
theorem mth_kg : mthV Tryd.prog 65 "Kind" = some 111 := by kernel_rfl
theorem mth_bb : mthV Tryd.prog 67 "Bytes" = some 113 := by kernel_rfl
theorem mth_bt : mthV Tryd.prog 61 "Bytes" = some 101 := by kernel_rfl
theorem mth_bc : mthV Tryd.prog 63 "Bytes" = some 105 := by kernel_rfl
theorem mth_bg : mthV Tryd.prog 65 "Bytes" = some 110 := by kernel_rfl
section
variable [W0]
theorem kindb_n (v : Value) (L : List Chunk) : GvP Tryd.prog 114 [.agg #[v]].toArray L (.int .i64 3) := by
  refine Gv.of_body (args := [.agg #[v]]) Tryd.func114 rfl rfl ?_
  (repeat' first|refine kW ?_|refine kU fun bk=>?_|refine kV fun hc=>?_|refine kZ (fun hc=>?_) fun hc=>?_|fail)
  exact kE
theorem kindt_n (v : Value) (L : List Chunk) : GvP Tryd.prog 102 [.agg #[v]].toArray L (.int .i64 2) := by
  refine Gv.of_body (args := [.agg #[v]]) Tryd.func102 rfl rfl ?_
  (repeat' first|refine kW ?_|refine kU fun bk=>?_|refine kV fun hc=>?_|refine kZ (fun hc=>?_) fun hc=>?_|fail)
  exact kE
theorem kindc_n (v : Value) (o : Co) (L : List Chunk) : GvP Tryd.prog 106 [.agg (coV v o).toArray].toArray L (.int .i64 1) := by
  refine Gv.of_body (args := [.agg (coV v o).toArray]) Tryd.func106 rfl rfl ?_
  (repeat' first|refine kW ?_|refine kU fun bk=>?_|refine kV fun hc=>?_|refine kZ (fun hc=>?_) fun hc=>?_|fail)
  exact kE
theorem kindg_n (o : Tg) (L : List Chunk) : GvP Tryd.prog 111 [.agg (tgV o).toArray].toArray L (.int .i64 4) := by
  refine Gv.of_body (args := [.agg (tgV o).toArray]) Tryd.func111 rfl rfl ?_
  (repeat' first|refine kW ?_|refine kU fun bk=>?_|refine kV fun hc=>?_|refine kZ (fun hc=>?_) fun hc=>?_|fail)
  exact kE
def MkR (L0 : List Chunk) (vl vp : Value) (o : Do) (r : Value) (L' : List Chunk) : Prop :=
  (o.kind = 2 ∧ r = .iface 61 (.agg #[vl]) ∧ L' = L0) ∨ (o.kind = 1 ∧ r = .iface 63 (.agg (coV vp o.co).toArray) ∧ L' = L0) ∨
  (o.kind = 4 ∧ r = .iface 65 (.agg (tgV o.tg).toArray) ∧ L' = L0) ∨ (o.kind = 3 ∧ ∃ v C, r = .iface 67 (.agg #[v]) ∧ OwG 5 v o.data.length (bsv o.data) C ∧ L' = C :: L0)
theorem make_n (a0 a1 : Option Addr) (c0 c1 : Nat) (o : Do) (L : List Chunk) (h1 : 1 ≤ o.kind) (h4 : o.kind ≤ 4) (hd : o.data.length ≤ 100000000000) :
    Gv Tryd.prog 19 [.agg (doV (.slice a0 o.l.length c0) (.slice a1 o.ps.length c1) o).toArray].toArray L (MkR L (.slice a0 o.l.length c0) (.slice a1 o.ps.length c1) o) := by
  refine Gv.of_body (args := [.agg (doV (.slice a0 o.l.length c0) (.slice a1 o.ps.length c1) o).toArray]) Tryd.func19 rfl rfl ?_
  unfold doV
  rcases (by omega : o.kind = 3 ∨ o.kind = 2 ∨ o.kind = 1 ∨ o.kind = 4) with hk | hk | hk | hk
  all_goals rw [hk]
  all_goals (repeat' first|refine kW ?_|refine kU fun bk=>?_|refine kV fun hc=>?_|refine kZ (fun hc=>?_) fun hc=>?_|fail)
  · refine OW_convBytes rfl (by rw [str_size]; unfold maxLen; omega) rfl (fun v C ho => ?_)
    obtain ⟨vb, vc, rfl⟩ := owf_slc ho
    (repeat' first|refine kW ?_|refine kU fun bk=>?_|refine kV fun hc=>?_|refine kZ (fun hc=>?_) fun hc=>?_|fail)
    refine kR ?_
    exact ⟨C :: L, iC, .inr (.inr (.inr ⟨hk, _, C, rfl, OwG.f ho, rfl⟩))⟩
  · refine kR ?_
    exact ⟨L, iC, .inl ⟨hk, rfl, rfl⟩⟩
  · refine kR ?_
    exact ⟨L, iC, .inr (.inl ⟨hk, rfl, rfl⟩)⟩
  · refine kR ?_
    exact ⟨L, iC, .inr (.inr (.inl ⟨hk, rfl, rfl⟩))⟩
set_option maxHeartbeats 4000000 in
theorem objectprints_n (vl vp : Value) (o : Do) (L : List Chunk) (hb : BsAt L) (hvl : Sl L 3 vl o.l.length (etc o.l)) (hvp : Sl L 1 vp o.ps.length (ssv o.ps))
    (hl : o.pr.length ≤ 100000000000) (hll : o.l.length ≤ 100000000000) (hlp : o.ps.length ≤ 100000000000) (hi : ∀ x ∈ o.l, x.i.length ≤ 70368744177664) (hdl : o.data.length ≤ 100000000000) :
    GvP Tryd.prog 4 [.agg (doV vl vp o).toArray].toArray L (.bool true) := by
  obtain ⟨a0, c0, rfl⟩ := sl_shape hvl
  obtain ⟨a1, c1, rfl⟩ := sl_shape hvp
  refine Gv.of_body (args := [.agg (doV (.slice a0 o.l.length c0) (.slice a1 o.ps.length c1) o).toArray]) Tryd.func4 rfl rfl ?_
  unfold doV
  by_cases h14 : 1 ≤ o.kind ∧ o.kind ≤ 4
  · obtain ⟨h1, h4⟩ := h14
    have hmk := fun L => make_n a0 a1 c0 c1 o L h1 h4 hdl
    have hrb := fun L hvl hvp => refbytes_n (.slice a0 o.l.length c0) (.slice a1 o.ps.length c1) o L h1 h4 hvl hvp hl hll hlp hi
    unfold doV at hmk hrb
    (repeat' first|refine kW ?_|refine kU fun bk=>?_|refine kV fun hc=>?_|refine kZ (fun hc=>?_) fun hc=>?_|fail)
    revert bk; intro q
    refine OW_call rfl rfl rfl (hmk _) rfl (fun r L' hp => ?_)
    rcases hp with ⟨hk, rfl, rfl⟩ | ⟨hk, rfl, rfl⟩ | ⟨hk, rfl, rfl⟩ | ⟨hk, v, C0, rfl, hv, rfl⟩
    · have e : o.pr = prT o.l := by unfold Do.pr; rw [if_neg (by omega), if_pos hk]
      rw [e] at hl hrb
      (repeat' first|refine kW ?_|refine kU fun bk=>?_|refine kV fun hc=>?_|refine kZ (fun hc=>?_) fun hc=>?_|fail)
      refine WC_drawAll [] mixed ?_
      (refine WR_t 0 ?_; refine WR_t 2 ?_; refine WR_t 3 ?_)
      (refine WR_one 1 (by kernel_rfl) rfl rfl ?_)
      refine OW_invokeV mth_kt rfl rfl (kindt_n _ _) rfl (fun r L' hp => ?_)
      obtain ⟨rfl, rfl⟩ := hp
      refine ⟨iC, ?_⟩
      (refine WR_take 4 rfl rfl (by kernel_rfl) iP iC (EV_eqI 2 rfl (by rw [← hk]; rfl)) (by rfl) ?_)
      (refine WR_t 5 ?_)
      (refine WR_u 6 ?_; refine WR_u 9 ?_)
      (refine WR_oneOn 7 (by kernel_rfl) rfl rfl rfl ?_)
      refine OW_invokeV mth_bt rfl rfl (treebytes_n _ o.l _ (sl_there hvl) hl (fun x hx => by have := hi x hx; omega) hll) rfl (fun r L' hp => ?_)
      obtain ⟨C, ho, rfl⟩ := hp
      refine ⟨iC, ?_⟩
      refine WR_more (C :: [(q, cl [.int .i64 o.kind, .string (str o.data), .slice a0 o.l.length c0, .string (str o.tree), .slice a1 o.ps.length c1, .string (str o.author), .string (str o.committer), .string (str o.object), .string (str o.name), .int .i64 o.type, .string (str o.tagger), .string (str o.message)] 36)] :: L) iC ?_
      (refine WR_takeOn 8 rfl rfl rfl (by kernel_rfl) iP iC (EV_convStr (b := prT o.l) rfl ho.sl) (by rfl) ?_)
      (refine WR_oneOn 10 (by kernel_rfl) rfl rfl rfl ?_)
      refine OW_callP rfl rfl rfl (hrb _ (sl_there (sl_there hvl)) (sl_there (sl_there hvp))) rfl ?_
      refine ⟨iC, ?_⟩
      (refine WR_takeOn 11 rfl rfl rfl (by kernel_rfl) iP iC (EV_eqS (prT o.l) rfl rfl) (by rfl) ?_)
      (refine WR_t 12 ?_; refine WR_t 13 ?_)
      (refine WR_oneOn 14 (by kernel_rfl) rfl rfl rfl ?_)
      refine OW_callP rfl rfl rfl (awake8_n _ hb.there.there) rfl ?_
      refine ⟨iC, ?_⟩
      (refine WR_t 15 ?_; refine WR_t 16 ?_)
      (refine WR_done (by kernel_rfl) ?_)
      (repeat' first|refine kW ?_|refine kU fun bk=>?_|refine kV fun hc=>?_|refine kZ (fun hc=>?_) fun hc=>?_|fail)
      exact kE
    · have e : o.pr = prC o.co := by unfold Do.pr; rw [if_neg (by omega), if_neg (by omega), if_pos hk]
      rw [e] at hl hrb
      (repeat' first|refine kW ?_|refine kU fun bk=>?_|refine kV fun hc=>?_|refine kZ (fun hc=>?_) fun hc=>?_|fail)
      refine WC_drawAll [] mixed ?_
      (refine WR_t 0 ?_; refine WR_t 2 ?_; refine WR_t 3 ?_)
      (refine WR_one 1 (by kernel_rfl) rfl rfl ?_)
      refine OW_invokeV mth_kc rfl rfl (kindc_n _ o.co _) rfl (fun r L' hp => ?_)
      obtain ⟨rfl, rfl⟩ := hp
      refine ⟨iC, ?_⟩
      (refine WR_take 4 rfl rfl (by kernel_rfl) iP iC (EV_eqI 1 rfl (by rw [← hk]; rfl)) (by rfl) ?_)
      (refine WR_t 5 ?_)
      (refine WR_u 6 ?_; refine WR_u 9 ?_)
      (refine WR_oneOn 7 (by kernel_rfl) rfl rfl rfl ?_)
      refine OW_invokeV mth_bc rfl rfl (commitbytes_n _ o.co _ (sl_there hvp) hl hlp) rfl (fun r L' hp => ?_)
      obtain ⟨C, ho, rfl⟩ := hp
      refine ⟨iC, ?_⟩
      refine WR_more (C :: [(q, cl [.int .i64 o.kind, .string (str o.data), .slice a0 o.l.length c0, .string (str o.tree), .slice a1 o.ps.length c1, .string (str o.author), .string (str o.committer), .string (str o.object), .string (str o.name), .int .i64 o.type, .string (str o.tagger), .string (str o.message)] 36)] :: L) iC ?_
      (refine WR_takeOn 8 rfl rfl rfl (by kernel_rfl) iP iC (EV_convStr (b := prC o.co) rfl ho.sl) (by rfl) ?_)
      (refine WR_oneOn 10 (by kernel_rfl) rfl rfl rfl ?_)
      refine OW_callP rfl rfl rfl (hrb _ (sl_there (sl_there hvl)) (sl_there (sl_there hvp))) rfl ?_
      refine ⟨iC, ?_⟩
      (refine WR_takeOn 11 rfl rfl rfl (by kernel_rfl) iP iC (EV_eqS (prC o.co) rfl rfl) (by rfl) ?_)
      (refine WR_t 12 ?_; refine WR_t 13 ?_)
      (refine WR_oneOn 14 (by kernel_rfl) rfl rfl rfl ?_)
      refine OW_callP rfl rfl rfl (awake8_n _ hb.there.there) rfl ?_
      refine ⟨iC, ?_⟩
      (refine WR_t 15 ?_; refine WR_t 16 ?_)
      (refine WR_done (by kernel_rfl) ?_)
      (repeat' first|refine kW ?_|refine kU fun bk=>?_|refine kV fun hc=>?_|refine kZ (fun hc=>?_) fun hc=>?_|fail)
      exact kE
    · have e : o.pr = prG o.tg := by unfold Do.pr; rw [if_neg (by omega), if_neg (by omega), if_neg (by omega)]
      rw [e] at hl hrb
      (repeat' first|refine kW ?_|refine kU fun bk=>?_|refine kV fun hc=>?_|refine kZ (fun hc=>?_) fun hc=>?_|fail)
      refine WC_drawAll [] mixed ?_
      (refine WR_t 0 ?_; refine WR_t 2 ?_; refine WR_t 3 ?_)
      (refine WR_one 1 (by kernel_rfl) rfl rfl ?_)
      refine OW_invokeV mth_kg rfl rfl (kindg_n o.tg _) rfl (fun r L' hp => ?_)
      obtain ⟨rfl, rfl⟩ := hp
      refine ⟨iC, ?_⟩
      (refine WR_take 4 rfl rfl (by kernel_rfl) iP iC (EV_eqI 4 rfl (by rw [← hk]; rfl)) (by rfl) ?_)
      (refine WR_t 5 ?_)
      (refine WR_u 6 ?_; refine WR_u 9 ?_)
      (refine WR_oneOn 7 (by kernel_rfl) rfl rfl rfl ?_)
      refine OW_invokeV mth_bg rfl rfl (tagbytes_n o.tg _ hl) rfl (fun r L' hp => ?_)
      obtain ⟨C, ho, rfl⟩ := hp
      refine ⟨iC, ?_⟩
      refine WR_more (C :: [(q, cl [.int .i64 o.kind, .string (str o.data), .slice a0 o.l.length c0, .string (str o.tree), .slice a1 o.ps.length c1, .string (str o.author), .string (str o.committer), .string (str o.object), .string (str o.name), .int .i64 o.type, .string (str o.tagger), .string (str o.message)] 36)] :: L) iC ?_
      (refine WR_takeOn 8 rfl rfl rfl (by kernel_rfl) iP iC (EV_convStr (b := prG o.tg) rfl ho.sl) (by rfl) ?_)
      (refine WR_oneOn 10 (by kernel_rfl) rfl rfl rfl ?_)
      refine OW_callP rfl rfl rfl (hrb _ (sl_there (sl_there hvl)) (sl_there (sl_there hvp))) rfl ?_
      refine ⟨iC, ?_⟩
      (refine WR_takeOn 11 rfl rfl rfl (by kernel_rfl) iP iC (EV_eqS (prG o.tg) rfl rfl) (by rfl) ?_)
      (refine WR_t 12 ?_; refine WR_t 13 ?_)
      (refine WR_oneOn 14 (by kernel_rfl) rfl rfl rfl ?_)
      refine OW_callP rfl rfl rfl (awake8_n _ hb.there.there) rfl ?_
      refine ⟨iC, ?_⟩
      (refine WR_t 15 ?_; refine WR_t 16 ?_)
      (refine WR_done (by kernel_rfl) ?_)
      (repeat' first|refine kW ?_|refine kU fun bk=>?_|refine kV fun hc=>?_|refine kZ (fun hc=>?_) fun hc=>?_|fail)
      exact kE
    · have e : o.pr = o.data := by unfold Do.pr; rw [if_pos hk]
      rw [e] at hl hrb
      (repeat' first|refine kW ?_|refine kU fun bk=>?_|refine kV fun hc=>?_|refine kZ (fun hc=>?_) fun hc=>?_|fail)
      refine WC_drawAll [] mixed ?_
      (refine WR_t 0 ?_; refine WR_t 2 ?_; refine WR_t 3 ?_)
      (refine WR_one 1 (by kernel_rfl) rfl rfl ?_)
      refine OW_invokeV mth_kb rfl rfl (kindb_n _ _) rfl (fun r L' hp => ?_)
      obtain ⟨rfl, rfl⟩ := hp
      refine ⟨iC, ?_⟩
      (refine WR_take 4 rfl rfl (by kernel_rfl) iP iC (EV_eqI 3 rfl (by rw [← hk]; rfl)) (by rfl) ?_)
      (refine WR_t 5 ?_)
      (refine WR_u 6 ?_; refine WR_u 9 ?_)
      (refine WR_oneOn 7 (by kernel_rfl) rfl rfl rfl ?_)
      refine OW_invokeV mth_bb rfl rfl (blobbytes_n v o.data _ (OwG.slc hv) hdl) rfl (fun r L' hp => ?_)
      obtain ⟨C, ho, rfl⟩ := hp
      refine ⟨iC, ?_⟩
      refine WR_more (C :: C0 :: [(q, cl [.int .i64 o.kind, .string (str o.data), .slice a0 o.l.length c0, .string (str o.tree), .slice a1 o.ps.length c1, .string (str o.author), .string (str o.committer), .string (str o.object), .string (str o.name), .int .i64 o.type, .string (str o.tagger), .string (str o.message)] 36)] :: L) iC ?_
      (refine WR_takeOn 8 rfl rfl rfl (by kernel_rfl) iP iC (EV_convStr (b := o.data) rfl ho.sl) (by rfl) ?_)
      (refine WR_oneOn 10 (by kernel_rfl) rfl rfl rfl ?_)
      refine OW_callP rfl rfl rfl (hrb _ (sl_there (sl_there (sl_there hvl))) (sl_there (sl_there (sl_there hvp)))) rfl ?_
      refine ⟨iC, ?_⟩
      (refine WR_takeOn 11 rfl rfl rfl (by kernel_rfl) iP iC (EV_eqS (o.data) rfl rfl) (by rfl) ?_)
      (refine WR_t 12 ?_; refine WR_t 13 ?_)
      (refine WR_oneOn 14 (by kernel_rfl) rfl rfl rfl ?_)
      refine OW_callP rfl rfl rfl (awake8_n _ hb.there.there.there) rfl ?_
      refine ⟨iC, ?_⟩
      (refine WR_t 15 ?_; refine WR_t 16 ?_)
      (refine WR_done (by kernel_rfl) ?_)
      (repeat' first|refine kW ?_|refine kU fun bk=>?_|refine kV fun hc=>?_|refine kZ (fun hc=>?_) fun hc=>?_|fail)
      exact kE
  · (repeat' first|refine kW ?_|refine kU fun bk=>?_|refine kV fun hc=>?_|refine kZ (fun hc=>?_) fun hc=>?_|fail)
    · refine OW_callP rfl rfl rfl (awake8_n _ hb.there) rfl ?_
      (repeat' first|refine kW ?_|refine kU fun bk=>?_|refine kV fun hc=>?_|refine kZ (fun hc=>?_) fun hc=>?_|fail)
      exact kE
    · refine OW_callP rfl rfl rfl (awake8_n _ hb.there) rfl ?_
      (repeat' first|refine kW ?_|refine kU fun bk=>?_|refine kV fun hc=>?_|refine kZ (fun hc=>?_) fun hc=>?_|fail)
      exact kE
end
end Go.Proofs.YtlomjmdgcpjepaaDoor
namespace Go.Proofs.YtlomjmdgcpjepaaDoor
open Go Go.Vx Go.ChangeShapes Go.WideShapes Go.ChangeAt Go.RowKit Go.Lib
set_option maxRecDepth 100000
set_option linter.all false
def laid8 : List (String × DataW Unit) := [("math/bits.deBruijn32tab", Rows.laid_math_bits_deBruijn32tab), ("math/bits.deBruijn64tab", Rows.laid_math_bits_deBruijn64tab), ("internal/strconv.uint64pow10", Rows.laid_internal_strconv_uint64pow10), ("unicode/utf8.acceptRanges", Rows.laid_unicode_utf8_acceptRanges), ("unicode/utf8.first", Rows.laid_unicode_utf8_first)]
def nums (k : IntKind) : List (DataW Unit) → List Value
  | [] => []
  | .lit (.int _ z) :: r => .int k z :: nums k r
  | .agg [.lit (.int _ z), .lit (.int _ y)] :: r => .int k z :: .int k y :: nums k r
  | _ :: r => nums k r
def parts : DataW Unit → List (DataW Unit)
  | .agg l => l
  | _ => []
def tab32 : List Value := nums .u8 (parts Rows.laid_math_bits_deBruijn32tab)
def tab64 : List Value := nums .u8 (parts Rows.laid_math_bits_deBruijn64tab)
def tab10 : List Value := nums .u64 (parts Rows.laid_internal_strconv_uint64pow10)
def tabAc : List Value := nums .u8 (parts Rows.laid_unicode_utf8_acceptRanges)
def tabFi : List Value := nums .u8 (parts Rows.laid_unicode_utf8_first)
theorem first_eq : Rows.laid_unicode_utf8_first = firstData := by kernel_rfl
theorem accept_eq : Rows.laid_unicode_utf8_acceptRanges (H := Unit) = acceptData := by kernel_rfl
theorem pow_eq : Rows.laid_internal_strconv_uint64pow10 (H := Unit) = tabData .u64 pow10Tab := by kernel_rfl
theorem met_plain {W : World} (h : laidMetH Tryd.prog laid8 W) : laidMet Tryd.prog laid8 W := by
  have e : laid8.filter (fun x => x.2.handleName?.isSome) = [] := by kernel_rfl
  unfold laidMetH at h
  rw [e] at h
  exact h
theorem u8extra : U8Extra Tryd.prog sh_v_ren := ⟨by kernel_rfl, by kernel_rfl, by kernel_rfl, by kernel_rfl, by kernel_rfl, by kernel_rfl, by kernel_rfl⟩
theorem bs_met {W : World} (hL : laidMetH Tryd.prog laid8 W) (hsh : W.ShapedOpen Tryd.prog) [W0] : BsAt [blks W] := by
  obtain ⟨ps, hv, _⟩ := met_plain hL
  have r3 := LaidVars_reads hv "unicode/utf8.first" Rows.laid_unicode_utf8_first (by simp [laid8])
  have r4 := LaidVars_reads hv "unicode/utf8.acceptRanges" Rows.laid_unicode_utf8_acceptRanges (by simp [laid8])
  have r5 := LaidVars_reads hv "internal/strconv.uint64pow10" Rows.laid_internal_strconv_uint64pow10 (by simp [laid8])
  rw [first_eq] at r3
  rw [accept_eq] at r4
  rw [pow_eq] at r5
  have hut := utf8Tabs_of_readsT (U8Types.of196 sh_v) u8extra r3 r4
  have hmx : ∃ m, W.cell? ⟨2, 0, none⟩ = some (.int .i64 m) :=
    cell_of_shapedOpen_int (t := 3) (zero := #[.int .i64 0]) hsh (of_decide_eq_true (by kernel_rfl)) (by kernel_rfl) (by kernel_rfl) (by kernel_rfl) (by kernel_rfl) Tryd.underlying3
  have hpw : TabIs Tryd.prog W "internal/strconv.uint64pow10" .u64 pow10Tab := by
    obtain ⟨g', t', cs, fuel, p, hg', ht', hvar, hd⟩ := r5
    obtain rfl := Option.some.inj ((show Tryd.prog.globalNamed "internal/strconv.uint64pow10" = some 3 by kernel_rfl).symm.trans hg')
    obtain rfl := Option.some.inj ((show (Tryd.prog.globals[3]?).map (·.type) = some 110 by kernel_rfl).symm.trans ht')
    unfold TabIs
    rw [hvar, ← cells_of_tab Tryd.underlying110 Tryd.underlying74 (by kernel_rfl) (by kernel_rfl) hd]
  have hkeep : ∀ w, Vx.Holds w [blks W] → ∀ k, k < W.heap.size → w.heap[k]? = W.heap[k]? := fun w hw k hk => by
    have hm : W.heap[k]? = some W.heap[k] := by simp [hk]
    rw [hm]
    exact hw.2.1 (k, W.heap[k]) (by simpa using blks_mem.2 hm)
  have hlt : ∀ {a : Addr} {v : Value}, W.cell? a = some v → a.block < W.heap.size := fun {a} {v} h => by
    rcases Nat.lt_or_ge a.block W.heap.size with h' | h'
    · exact h'
    · have : W.heap[a.block]? = none := by simp; omega
      simp [World.cell?, this] at h
  have hcell : ∀ w, Vx.Holds w [blks W] → ∀ {a : Addr} {v : Value}, W.cell? a = some v → w.cell? a = some v := fun w hw {a} {v} h => by
    have hb := hkeep w hw a.block (hlt h)
    rw [← h]
    unfold World.cell?
    rw [hb]
  refine ⟨fun w hw => ⟨fun c hc => hcell w hw (hut.1 c hc), fun i hi => ⟨hcell w hw (hut.2 i hi).1, hcell w hw (hut.2 i hi).2⟩⟩, hmx.imp fun m hm w hw => hcell w hw hm, fun w hw => ?_⟩
  have h0 := hpw.cell (g := 3) (by kernel_rfl) 0 (by decide)
  have hb := hkeep w hw _ (hlt h0)
  unfold TabIs World.var? at hpw ⊢
  rw [show Tryd.prog.globalNamed "internal/strconv.uint64pow10" = some 3 from by kernel_rfl] at hpw ⊢
  simp only [Option.bind_some] at hpw ⊢
  rw [hb]
  exact hpw
end Go.Proofs.YtlomjmdgcpjepaaDoor
namespace Go.Proofs.YtlomjmdgcpjepaaDoor
open Go Go.Vx Go.Ob Go.ChangeShapes Go.WideShapes Go.ChangeAt Go.RowKit Go.Lib Go.Joins Go.Deep
set_option maxRecDepth 4000
set_option linter.all false
theorem flat_at {α β : Type} {f : α → List β} {K : Nat} (hK : 0 < K) (hf : ∀ x, (f x).length = K) : ∀ (l : List α) (j : Nat), (l.flatMap f)[j]? = (l[j / K]?).bind fun x => (f x)[j % K]?
  | [], j => by simp
  | x :: l, j => by
    rw [List.flatMap_cons]
    rcases Nat.lt_or_ge j K with h | h
    · rw [List.getElem?_append_left (by rw [hf]; exact h), Nat.div_eq_of_lt h, Nat.mod_eq_of_lt h]
      rfl
    · rw [List.getElem?_append_right (by rw [hf]; exact h), hf, flat_at hK hf l (j - K)]
      have e2 : j % K = (j - K) % K := by
        conv => lhs; rw [← Nat.sub_add_cancel h]
        simp
      rw [e2]
      have e3 : j / K = (j - K) / K + 1 := by
        conv => lhs; rw [← Nat.sub_add_cancel h]
        exact Nat.add_div_right _ hK
      rw [e3, List.getElem?_cons_succ]
theorem add_two (x : Addr) (a b : Nat) : (x.add a).add b = x.add (a + b) := by
  unfold Addr.add
  by_cases hb : b = 0
  · subst hb; simp
  · by_cases ha : a = 0
    · subst ha; simp [hb]
    · simp [ha, hb, Nat.add_assoc]
theorem open_slK {H : Type} {enc : TypeId × Value → H} {W : World} {t e fuel K : Nat} {cs : List Value} {y : DataW H × List MemPlace} {α : Type} (f : α → List Value) (dat : α → DataW H) (ht : Tryd.prog.underlying t = some (.slice e)) (hK : Tryd.prog.cellsOf e = K) (hK0 : 0 < K)
    (hf : ∀ x, (f x).length = K) (hel : ∀ n cs y, DataW.trod enc Tryd.prog W 0 (fun _ => true) true n e cs = some y → ∃ x, cs = f x ∧ y.1 = dat x)
    (h : DataW.trod enc Tryd.prog W 0 (fun _ => true) true fuel t cs = some y) :
    ∃ (v : Value) (l : List α), cs = [v] ∧ v.oneCell' = true ∧ Sl [blks W] K v l.length (l.flatMap f) ∧ ((y.1 = .nil ∧ l = []) ∨ ∃ sp, y.1 = .slice (l.map dat) sp) := by
  letI : W0 := ⟨W.os, W.output⟩
  rcases DataW.trod_slice ht h with ⟨rfl, rfl⟩ | ⟨x, len, cap, elems, rest, n, _, rfl, rfl, _, hl, _, hle, hat, _, _⟩
  · exact ⟨_, [], rfl, rfl, .inl ⟨_, rfl, rfl, rfl⟩, .inl ⟨rfl, rfl⟩⟩
  · rw [hK] at hat
    have key : ∀ i, i < len → ∃ q : α, (elems[i]?).map (·.1) = some (dat q) ∧ ∀ j, j < K → W.cell? (x.add (i * K + j)) = (f q)[j]? := by
      intro i hi
      have h1 := hat i hi
      rw [List.getElem?_eq_getElem (by omega)] at h1
      obtain ⟨cs, h2, h3⟩ := Option.bind_eq_some_iff.1 h1
      obtain ⟨_, h4, h5⟩ := World.cells?_some h2
      obtain ⟨q, rfl, hq⟩ := hel _ _ _ h3
      refine ⟨q, by rw [List.getElem?_eq_getElem (by omega), Option.map_some, hq], fun j hj => ?_⟩
      have h6 := h5 j hj
      rw [← h6, add_two]
    have hex : ∀ m, m ≤ len → ∃ l : List α, l.length = m ∧ ∀ i q, l[i]? = some q → (elems[i]?).map (·.1) = some (dat q) ∧ ∀ j, j < K → W.cell? (x.add (i * K + j)) = (f q)[j]? := by
      intro m
      induction m with
      | zero => intro _; exact ⟨[], rfl, fun i o h => by simp at h⟩
      | succ m ih =>
        intro hm
        obtain ⟨l, g1, g2⟩ := ih (by omega)
        obtain ⟨b, r1⟩ := key m (by omega)
        refine ⟨l ++ [b], by simp [g1], fun i o ho => ?_⟩
        rcases Nat.lt_or_ge i l.length with h' | h'
        · rw [List.getElem?_append_left h'] at ho; exact g2 i o ho
        · rw [List.getElem?_append_right h'] at ho
          have hi0 : i = m := by
            rcases Nat.eq_zero_or_pos (i - l.length) with h3 | h3
            · omega
            · rw [List.getElem?_eq_none (by simp; omega)] at ho; simp at ho
          subst hi0
          rw [g1] at ho
          simp at ho
          subst ho
          exact r1
    obtain ⟨l, g1, g2⟩ := hex len (Nat.le_refl _)
    refine ⟨_, l, rfl, rfl, ?_, .inr ⟨rest.map (·.1), ?_⟩⟩
    · rw [g1]
      refine .inr ⟨x, cap, rfl, ?_, ?_⟩
      · rcases Nat.eq_zero_or_pos len with h0 | h0
        · left
          rw [List.eq_nil_of_length_eq_zero (g1.trans h0)]
          rfl
        · right
          have hq0 : ∃ u, W.cell? (x.add 0) = some u := by
            obtain ⟨q, _, r⟩ := key 0 h0
            have := r 0 hK0
            rw [List.getElem?_eq_getElem (by rw [hf]; exact hK0)] at this
            exact ⟨_, by simpa using this⟩
          obtain ⟨u0, hu0⟩ := hq0
          obtain ⟨b, off, spot⟩ := x
          have hspot : spot = none := by simpa [Addr.add] using World.cell?_spot hu0
          subst hspot
          have hblk : ∃ C T fr, W.heap[b]? = some (.cells C T fr) := by
            have : (⟨b, off, none⟩ : Addr).add 0 = ⟨b, off, none⟩ := by simp [Addr.add]
            rw [this] at hu0
            unfold World.cell? at hu0
            split at hu0
            · rename_i C T fr hb; exact ⟨C, T, fr, hb⟩
            · cases hu0
          obtain ⟨C, T, fr, hb⟩ := hblk
          refine ⟨b, off, C, T, fr, rfl, by simpa [Fnd] using blks_mem.2 hb, fun j u hj => ?_⟩
          rw [flat_at hK0 hf] at hj
          obtain ⟨q, hq, hu⟩ := Option.bind_eq_some_iff.1 hj
          obtain ⟨_, r⟩ := g2 _ _ hq
          have := r (j % K) (Nat.mod_lt _ hK0)
          rw [hu, Nat.mul_comm, Nat.div_add_mod, addr_add, cell_of hb] at this
          exact this
      · have : ∀ l : List α, (l.flatMap f).length = l.length * K := fun l => by
          induction l with
          | nil => simp
          | cons a l ih => rw [List.flatMap_cons, List.length_append, hf, ih, List.length_cons, Nat.add_mul, Nat.one_mul, Nat.add_comm]
        rw [this, g1]
    · have : elems.map (·.1) = l.map dat := by
        refine List.ext_getElem? fun i => ?_
        rw [List.getElem?_map, List.getElem?_map]
        rcases Nat.lt_or_ge i len with hi | hi
        · obtain ⟨q, hq⟩ : ∃ q, l[i]? = some q := ⟨l[i], by simp [show i < l.length by omega]⟩
          rw [(g2 i q hq).1, hq]
          rfl
        · rw [List.getElem?_eq_none (by omega), List.getElem?_eq_none (by omega)]
          rfl
      rw [← this]
def etD' {H : Type} (x : Et) : DataW H := .agg [.lit (.string x.m), .lit (.string x.n), .lit (.string x.i)]
def stD {H : Type} (s : List UInt8) : DataW H := .lit (.string s)
theorem etc_flat : ∀ l : List Et, l.flatMap (fun x => [Value.string (str x.m), .string (str x.n), .string (str x.i)]) = etc l
  | [] => rfl
  | x :: r => by rw [List.flatMap_cons, etc_flat r]; rfl
theorem ssv_flat : ∀ l : List (List UInt8), l.flatMap (fun x => [Value.string (str x)]) = ssv l
  | [] => rfl
  | x :: r => by rw [List.flatMap_cons, ssv_flat r]; rfl
theorem open_ets {H : Type} {enc : TypeId × Value → H} {W : World} {fuel : Nat} {cs : List Value} {y : DataW H × List MemPlace} (h : DataW.trod enc Tryd.prog W 0 (fun _ => true) true fuel 33 cs = some y) :
    ∃ (v : Value) (l : List Et), cs = [v] ∧ v.oneCell' = true ∧ Sl [blks W] 3 v l.length (etc l) ∧ ((y.1 = .nil ∧ l = []) ∨ ∃ sp, y.1 = .slice (l.map etD') sp) := by
  have := open_slK (K := 3) (fun x : Et => [Value.string (str x.m), .string (str x.n), .string (str x.i)]) etD' Tryd.underlying33 (by kernel_rfl) (by decide) (fun _ => rfl) (fun n cs y hy => by
    obtain ⟨y0, y1, y2, n, rfl, hl, h0, h1, h2⟩ := trod_struct3 Tryd.underlying45 hy
    have k1 : Tryd.prog.cellsOf 9 = 1 := by kernel_rfl
    have k3 : Tryd.prog.cellsOf 45 = 3 := by kernel_rfl
    rw [k3] at hl
    match cs, hl with
    | [a, b, c], _ =>
      rw [k1] at h0 h1 h2
      obtain ⟨s0, e0, q0, w0⟩ := DataW.trod_string Tryd.underlying9 h0
      obtain ⟨s1, e1, q1, w1⟩ := DataW.trod_string Tryd.underlying9 h1
      obtain ⟨s2, e2, q2, w2⟩ := DataW.trod_string Tryd.underlying9 h2
      simp at e0 e1 e2
      subst e0 e1 e2 q0 q1 q2
      exact ⟨⟨s0.data.toList, s1.data.toList, s2.data.toList⟩, rfl, rfl⟩) h
  simpa only [etc_flat] using this
theorem open_sts {H : Type} {enc : TypeId × Value → H} {W : World} {fuel : Nat} {cs : List Value} {y : DataW H × List MemPlace} (h : DataW.trod enc Tryd.prog W 0 (fun _ => true) true fuel 34 cs = some y) :
    ∃ (v : Value) (l : List (List UInt8)), cs = [v] ∧ v.oneCell' = true ∧ Sl [blks W] 1 v l.length (ssv l) ∧ ((y.1 = .nil ∧ l = []) ∨ ∃ sp, y.1 = .slice (l.map stD) sp) := by
  have := open_slK (K := 1) (fun x : List UInt8 => [Value.string (str x)]) stD Tryd.underlying34 (by kernel_rfl) (by decide) (fun _ => rfl) (fun n cs y hy => by
    obtain ⟨s0, e0, q0, w0⟩ := DataW.trod_string Tryd.underlying9 hy
    subst e0 q0
    exact ⟨s0.data.toList, rfl, rfl⟩) h
  simpa only [ssv_flat] using this
theorem bulk_ets {H : Type} : ∀ l : List Et, (prT l).length ≤ 24 * Rows.uptoBulkAll (H := H) (l.map etD') ∧ l.length ≤ Rows.uptoBulkAll (H := H) (l.map etD') ∧ ∀ x ∈ l, x.i.length ≤ Rows.uptoBulkAll (H := H) (l.map etD')
  | [] => ⟨by simp [prT], by simp, fun x h => by simp at h⟩
  | x :: r => by
    obtain ⟨h1, h2, h3⟩ := bulk_ets (H := H) r
    have e : Rows.uptoBulkAll (H := H) ((x :: r).map etD') = ((x.m.length + 1) + ((x.n.length + 1) + ((x.i.length + 1) + 0)) + 1) + Rows.uptoBulkAll (H := H) (r.map etD') := by
      simp only [List.map_cons, Rows.uptoBulkAll, etD', Rows.uptoBulk]
    have hp : (prE x).length = x.m.length + 1 + x.n.length + 1 + 20 := by letI : W0 := ⟨default, #[]⟩; simp only [prE, List.length_append, List.length_cons, List.length_nil, rawL_len]
    rw [e]
    refine ⟨by simp only [prT, List.length_append, hp]; omega, by simp only [List.length_cons]; omega, fun z hz => ?_⟩
    rcases List.mem_cons.1 hz with rfl | hz
    · omega
    · have := h3 z hz; omega
theorem bulk_sts {H : Type} : ∀ l : List (List UInt8), (prP l).length ≤ 9 * Rows.uptoBulkAll (H := H) (l.map stD) ∧ l.length ≤ Rows.uptoBulkAll (H := H) (l.map stD)
  | [] => ⟨by simp [prP], by simp⟩
  | x :: r => by
    obtain ⟨h1, h2⟩ := bulk_sts (H := H) r
    have e : Rows.uptoBulkAll (H := H) ((x :: r).map stD) = (x.length + 1) + Rows.uptoBulkAll (H := H) (r.map stD) := by
      simp only [List.map_cons, Rows.uptoBulkAll, stD, Rows.uptoBulk]
    have w2 : wParent.length = 7 := rfl
    rw [e]
    refine ⟨by simp only [prP, List.length_append, lnL_len, w2]; omega, by simp only [List.length_cons]; omega⟩
theorem bulk_ets2 {H : Type} {d : DataW H} {l : List Et} (h : (d = .nil ∧ l = []) ∨ ∃ sp, d = .slice (l.map etD') sp) : (prT l).length ≤ 24 * Rows.uptoBulk d ∧ l.length ≤ Rows.uptoBulk d ∧ ∀ x ∈ l, x.i.length ≤ Rows.uptoBulk d := by
  rcases h with ⟨rfl, rfl⟩ | ⟨sp, rfl⟩
  · exact ⟨by simp [prT], by simp, fun x h => by simp at h⟩
  · obtain ⟨h1, h2, h3⟩ := bulk_ets (H := H) l
    simp only [Rows.uptoBulk]
    exact ⟨by omega, by omega, fun x hx => by have := h3 x hx; omega⟩
theorem bulk_sts2 {H : Type} {d : DataW H} {l : List (List UInt8)} (h : (d = .nil ∧ l = []) ∨ ∃ sp, d = .slice (l.map stD) sp) : (prP l).length ≤ 9 * Rows.uptoBulk d ∧ l.length ≤ Rows.uptoBulk d := by
  rcases h with ⟨rfl, rfl⟩ | ⟨sp, rfl⟩
  · exact ⟨by simp [prP], by simp⟩
  · obtain ⟨h1, h2⟩ := bulk_sts (H := H) l
    simp only [Rows.uptoBulk]
    exact ⟨by omega, by omega⟩
theorem list12 {α : Type} {l : List α} (h : l.length = 12) : ∃ c0 c1 c2 c3 c4 c5 c6 c7 c8 c9 c10 c11, l = [c0, c1, c2, c3, c4, c5, c6, c7, c8, c9, c10, c11] := by
  match l, h with
  | [c0, c1, c2, c3, c4, c5, c6, c7, c8, c9, c10, c11], _ => exact ⟨c0, c1, c2, c3, c4, c5, c6, c7, c8, c9, c10, c11, rfl⟩
set_option maxHeartbeats 2000000 in
theorem open_do {H : Type} {enc : TypeId × Value → H} {W : World} {base : Nat} {v : Value} {d : DataW H} {p : List MemPlace} (hv : Value.okWide Tryd.prog W .any base 36 v)
    (h : DataW.Trod enc Tryd.prog W 0 (fun _ => true) true 36 v d p) :
    ∃ vl vp o, v = .agg (doV vl vp o).toArray ∧ Sl [blks W] 3 vl o.l.length (etc o.l) ∧ Sl [blks W] 1 vp o.ps.length (ssv o.ps) ∧
      o.pr.length ≤ 30 * Rows.uptoBulk d + 100 ∧ o.l.length ≤ Rows.uptoBulk d ∧ o.ps.length ≤ Rows.uptoBulk d ∧ (∀ x ∈ o.l, x.i.length ≤ Rows.uptoBulk d) ∧ o.data.length ≤ Rows.uptoBulk d := by
  obtain ⟨ca, rfl, hsz⟩ := okWide_struct Tryd.underlying36 hv
  rw [show Tryd.prog.cellsOf 36 = 12 by kernel_rfl] at hsz
  obtain ⟨fuel, hf0⟩ := h
  obtain ⟨xs, n, _, hx, _, hlen, hf⟩ := DataW.trod_struct Tryd.underlying36 hf0
  have hcl : (Value.agg ca).cells.toList = ca.toList := rfl
  rw [hcl] at hf
  obtain ⟨c0, c1, c2, c3, c4, c5, c6, c7, c8, c9, c10, c11, hce⟩ := list12 (l := ca.toList) (by simpa using hsz)
  obtain ⟨y0, y1, y2, y3, y4, y5, y6, y7, y8, y9, y10, y11, rfl⟩ := list12 (l := xs) hlen
  have hca : ca = [c0, c1, c2, c3, c4, c5, c6, c7, c8, c9, c10, c11].toArray := by rw [← hce]
  rw [hce] at hf
  clear hce hcl
  have k1 : Tryd.prog.cellsOf 3 = 1 := by kernel_rfl
  have k2 : Tryd.prog.cellsOf 9 = 1 := by kernel_rfl
  have k3 : Tryd.prog.cellsOf 33 = 1 := by kernel_rfl
  have k4 : Tryd.prog.cellsOf 34 = 1 := by kernel_rfl
  have g0 : DataW.trod enc Tryd.prog W 0 (fun _ => true) true n 3 [c0] = some y0 := by
    have : DataW.trod enc Tryd.prog W 0 (fun _ => true) true n 3 (([c0, c1, c2, c3, c4, c5, c6, c7, c8, c9, c10, c11].drop 0).take (Tryd.prog.cellsOf 3)) = [y0, y1, y2, y3, y4, y5, y6, y7, y8, y9, y10, y11][0]? := hf 0 _ rfl
    rw [k1] at this
    exact this
  have g1 : DataW.trod enc Tryd.prog W 0 (fun _ => true) true n 9 [c1] = some y1 := by
    have : DataW.trod enc Tryd.prog W 0 (fun _ => true) true n 9 (([c0, c1, c2, c3, c4, c5, c6, c7, c8, c9, c10, c11].drop 1).take (Tryd.prog.cellsOf 9)) = [y0, y1, y2, y3, y4, y5, y6, y7, y8, y9, y10, y11][1]? := hf 1 _ rfl
    rw [k2] at this
    exact this
  have g2 : DataW.trod enc Tryd.prog W 0 (fun _ => true) true n 33 [c2] = some y2 := by
    have : DataW.trod enc Tryd.prog W 0 (fun _ => true) true n 33 (([c0, c1, c2, c3, c4, c5, c6, c7, c8, c9, c10, c11].drop 2).take (Tryd.prog.cellsOf 33)) = [y0, y1, y2, y3, y4, y5, y6, y7, y8, y9, y10, y11][2]? := hf 2 _ rfl
    rw [k3] at this
    exact this
  have g3 : DataW.trod enc Tryd.prog W 0 (fun _ => true) true n 9 [c3] = some y3 := by
    have : DataW.trod enc Tryd.prog W 0 (fun _ => true) true n 9 (([c0, c1, c2, c3, c4, c5, c6, c7, c8, c9, c10, c11].drop 3).take (Tryd.prog.cellsOf 9)) = [y0, y1, y2, y3, y4, y5, y6, y7, y8, y9, y10, y11][3]? := hf 3 _ rfl
    rw [k2] at this
    exact this
  have g4 : DataW.trod enc Tryd.prog W 0 (fun _ => true) true n 34 [c4] = some y4 := by
    have : DataW.trod enc Tryd.prog W 0 (fun _ => true) true n 34 (([c0, c1, c2, c3, c4, c5, c6, c7, c8, c9, c10, c11].drop 4).take (Tryd.prog.cellsOf 34)) = [y0, y1, y2, y3, y4, y5, y6, y7, y8, y9, y10, y11][4]? := hf 4 _ rfl
    rw [k4] at this
    exact this
  have g5 : DataW.trod enc Tryd.prog W 0 (fun _ => true) true n 9 [c5] = some y5 := by
    have : DataW.trod enc Tryd.prog W 0 (fun _ => true) true n 9 (([c0, c1, c2, c3, c4, c5, c6, c7, c8, c9, c10, c11].drop 5).take (Tryd.prog.cellsOf 9)) = [y0, y1, y2, y3, y4, y5, y6, y7, y8, y9, y10, y11][5]? := hf 5 _ rfl
    rw [k2] at this
    exact this
  have g6 : DataW.trod enc Tryd.prog W 0 (fun _ => true) true n 9 [c6] = some y6 := by
    have : DataW.trod enc Tryd.prog W 0 (fun _ => true) true n 9 (([c0, c1, c2, c3, c4, c5, c6, c7, c8, c9, c10, c11].drop 6).take (Tryd.prog.cellsOf 9)) = [y0, y1, y2, y3, y4, y5, y6, y7, y8, y9, y10, y11][6]? := hf 6 _ rfl
    rw [k2] at this
    exact this
  have g7 : DataW.trod enc Tryd.prog W 0 (fun _ => true) true n 9 [c7] = some y7 := by
    have : DataW.trod enc Tryd.prog W 0 (fun _ => true) true n 9 (([c0, c1, c2, c3, c4, c5, c6, c7, c8, c9, c10, c11].drop 7).take (Tryd.prog.cellsOf 9)) = [y0, y1, y2, y3, y4, y5, y6, y7, y8, y9, y10, y11][7]? := hf 7 _ rfl
    rw [k2] at this
    exact this
  have g8 : DataW.trod enc Tryd.prog W 0 (fun _ => true) true n 9 [c8] = some y8 := by
    have : DataW.trod enc Tryd.prog W 0 (fun _ => true) true n 9 (([c0, c1, c2, c3, c4, c5, c6, c7, c8, c9, c10, c11].drop 8).take (Tryd.prog.cellsOf 9)) = [y0, y1, y2, y3, y4, y5, y6, y7, y8, y9, y10, y11][8]? := hf 8 _ rfl
    rw [k2] at this
    exact this
  have g9 : DataW.trod enc Tryd.prog W 0 (fun _ => true) true n 3 [c9] = some y9 := by
    have : DataW.trod enc Tryd.prog W 0 (fun _ => true) true n 3 (([c0, c1, c2, c3, c4, c5, c6, c7, c8, c9, c10, c11].drop 9).take (Tryd.prog.cellsOf 3)) = [y0, y1, y2, y3, y4, y5, y6, y7, y8, y9, y10, y11][9]? := hf 9 _ rfl
    rw [k1] at this
    exact this
  have g10 : DataW.trod enc Tryd.prog W 0 (fun _ => true) true n 9 [c10] = some y10 := by
    have : DataW.trod enc Tryd.prog W 0 (fun _ => true) true n 9 (([c0, c1, c2, c3, c4, c5, c6, c7, c8, c9, c10, c11].drop 10).take (Tryd.prog.cellsOf 9)) = [y0, y1, y2, y3, y4, y5, y6, y7, y8, y9, y10, y11][10]? := hf 10 _ rfl
    rw [k2] at this
    exact this
  have g11 : DataW.trod enc Tryd.prog W 0 (fun _ => true) true n 9 [c11] = some y11 := by
    have : DataW.trod enc Tryd.prog W 0 (fun _ => true) true n 9 (([c0, c1, c2, c3, c4, c5, c6, c7, c8, c9, c10, c11].drop 11).take (Tryd.prog.cellsOf 9)) = [y0, y1, y2, y3, y4, y5, y6, y7, y8, y9, y10, y11][11]? := hf 11 _ rfl
    rw [k2] at this
    exact this
  obtain ⟨s0, e0, q0, _⟩ := DataW.trod_int Tryd.underlying3 g0
  obtain ⟨s1, e1, q1, _⟩ := DataW.trod_string Tryd.underlying9 g1
  obtain ⟨v2, s2, e2, _, q2, b2⟩ := open_ets g2
  obtain ⟨s3, e3, q3, _⟩ := DataW.trod_string Tryd.underlying9 g3
  obtain ⟨v4, s4, e4, _, q4, b4⟩ := open_sts g4
  obtain ⟨s5, e5, q5, _⟩ := DataW.trod_string Tryd.underlying9 g5
  obtain ⟨s6, e6, q6, _⟩ := DataW.trod_string Tryd.underlying9 g6
  obtain ⟨s7, e7, q7, _⟩ := DataW.trod_string Tryd.underlying9 g7
  obtain ⟨s8, e8, q8, _⟩ := DataW.trod_string Tryd.underlying9 g8
  obtain ⟨s9, e9, q9, _⟩ := DataW.trod_int Tryd.underlying3 g9
  obtain ⟨s10, e10, q10, _⟩ := DataW.trod_string Tryd.underlying9 g10
  obtain ⟨s11, e11, q11, _⟩ := DataW.trod_string Tryd.underlying9 g11
  simp only [List.cons.injEq, and_true] at e0 e1 e2 e3 e4 e5 e6 e7 e8 e9 e10 e11
  subst e0 e1 e2 e3 e4 e5 e6 e7 e8 e9 e10 e11
  have hd : d = .agg [y0.1, y1.1, y2.1, y3.1, y4.1, y5.1, y6.1, y7.1, y8.1, y9.1, y10.1, y11.1] := by
    simpa using (Prod.mk.inj hx).1
  refine ⟨c2, c4, ⟨s0, s1.data.toList, s2, s3.data.toList, s4, s5.data.toList, s6.data.toList, s7.data.toList, s8.data.toList, s9, s10.data.toList, s11.data.toList⟩, hca ▸ rfl, q2, q4, ?_⟩
  subst q0 q1 q3 q5 q6 q7 q8 q9 q10 q11
  obtain ⟨b21, b22, b23⟩ := bulk_ets2 b2
  obtain ⟨b41, b42⟩ := bulk_sts2 b4
  have hB : Rows.uptoBulk d = 1 + ((s1.data.toList.length + 1) + (Rows.uptoBulk y2.1 + ((s3.data.toList.length + 1) + (Rows.uptoBulk y4.1 + ((s5.data.toList.length + 1) + ((s6.data.toList.length + 1) + ((s7.data.toList.length + 1) + ((s8.data.toList.length + 1) + (1 + ((s10.data.toList.length + 1) + ((s11.data.toList.length + 1) + 0))))))))))) + 1 := by
    rw [hd]
    simp only [Rows.uptoBulk, Rows.uptoBulkAll]
  have hk6 := nmI_len s9
  refine ⟨?_, by simp only; omega, by simp only; omega, fun x hx => by have := b23 x hx; omega, by simp only; omega⟩
  unfold Do.pr
  split
  · simp only; omega
  · split
    · simp only; omega
    · split
      · rw [prC_len]; simp only [Do.co]; omega
      · rw [prG_len]; simp only [Do.tg]; omega
end Go.Proofs.YtlomjmdgcpjepaaDoor
namespace Go.Proofs.YtlomjmdgcpjepaaDoor
open Go Go.Vx Go.Ob Go.ChangeShapes Go.WideShapes Go.ChangeAt Go.RowKit
set_option linter.all false
set_option maxRecDepth 4000
theorem top_row (H : Type) (enc : TypeId × Value → H) (W : World) (base : Nat) (args : Array Value) (ds gs : List (DataW H)) (before : List MemPlace)
    (hval : ∀ (j : Nat) t v, Tryd.f4.params[j]? = some t → args[j]? = some v → Value.okWide Tryd.prog W .any base t v)
    (hW : DataW.Whole enc Tryd.prog Tryd.f4.params.toList Rows.objectPrintsSpec.vars false W args.toList ds gs before) (hk : Rows.uptoSmall H (ds ++ gs) = true)
    (hz : (DataW.weightsEach Tryd.prog (Tryd.f4.params.toList ++ Rows.objectPrintsSpec.plain.varTypes Tryd.prog) (ds ++ gs)).all (· ≤ reachBytes) = true) (hL : laidMetH Tryd.prog laid8 W) (hsh : W.ShapedOpen Tryd.prog) :
    Calls Tryd.prog 4 args W fun e W' => ∃ v, e = .returned v ∧ Rows.objectPrintsSpec.post enc Tryd.prog Tryd.f4 false true false false W args v W' := by
  have hW' := hW
  obtain ⟨p, q, hA0, hV, rfl, hfz, hnd⟩ := hW
  have hA : DataW.TrodAll enc Tryd.prog W 0 (fun _ => true) true Tryd.f4.params.toList args.toList ds p := hA0
  rw [Tryd.params4] at hA hval hz
  obtain ⟨v0, vs0, d0, ds0, p0, q0, hargs, rfl, rfl, h0, r0⟩ := trodAll_cons hA
  obtain ⟨rfl, rfl, rfl⟩ := trodAll_nil r0
  obtain rfl : args = #[v0] := by cases args; simp_all
  obtain ⟨rfl, rfl⟩ := trodVars_none hV
  obtain ⟨vl0, vp0, x0, rfl, sl0, sp0, hpr0, hl0, hp0, hi0, hd0⟩ := open_do (hval 0 _ v0 rfl rfl) h0
  clear hA0
  have lt0 : ∀ x ∈ p0, x.block < W.heap.size := by obtain ⟨m, hm⟩ := h0; exact DataW.trod_lt m _ _ _ hm
  have hbulk : Rows.uptoBulk d0 ≤ 1048576 := by
    simp only [Rows.uptoSmall, decide_eq_true_eq, List.append_nil, Rows.uptoBulkAll, Rows.uptoBulk] at hk
    omega
  have hc : Calls Tryd.prog 4 #[.agg (doV vl0 vp0 x0).toArray] W fun e W' => e = .returned (.bool true) ∧ Kept W W' := by
    refine bridge (fun {i} => ?_)
    have ht := bs_met hL hsh
    exact objectprints_n vl0 vp0 x0 _ ht sl0 sp0 (by omega) (by omega) (by omega) (fun x hx => by have := hi0 x hx; omega) (by omega)
  refine hc.mono fun e W' ⟨he, bel⟩ => ?_
  subst he
  exact ⟨_, rfl, _, _, _, [], _, [], hW', trodAll_mk1 (shut_bool Tryd.underlying4 _), (trodAll_cons_mk (Kept.trod Tryd.laidOut (by kernel_rfl) (of_decide_eq_true (by kernel_rfl)) h0 bel lt0) trodAll_mk0), rfl, bel.frame _, fun h => by cases h⟩
def putT (w : World) (g : Nat) (zs : List Value) : World := { w with heap := w.heap.modify g fun
      | .cells _ t frozen => .cells zs.toArray t frozen
      | o => o }
noncomputable def laidWorld (os : Os) : World :=
  putT (putT (putT (putT (putT (World.holding Tryd.prog os ⟨#[], #[], []⟩) 4 tab32) 5 tab64) 3 tab10) 1 tabAc) 0 tabFi
theorem laid_met (os : Os) : laidMet Tryd.prog Rows.objectPrintsUptoRow.laid ((laidWorld os).forCall (fun _ _ => 0) ⟨#[], #[.agg #[.int .i64 0, .string .empty, .slice none 0 0, .string .empty, .slice none 0 0, .string .empty, .string .empty, .string .empty, .string .empty, .int .i64 0, .string .empty, .string .empty]], []⟩).memory :=
  laidMet_of_run' 8 (by kernel_rfl) (by kernel_rfl)
theorem reads (os : Os) {H : Type} (enc : TypeId × Value → H) : ∃ places, DataW.whole enc Tryd.prog ((laidWorld os).forCall (fun _ _ => 0) ⟨#[], #[.agg #[.int .i64 0, .string .empty, .slice none 0 0, .string .empty, .slice none 0 0, .string .empty, .string .empty, .string .empty, .string .empty, .int .i64 0, .string .empty, .string .empty]], []⟩).memory Tryd.f4.params.toList Rows.objectPrintsSpec.vars false #[.agg #[.int .i64 0, .string .empty, .slice none 0 0, .string .empty, .slice none 0 0, .string .empty, .string .empty, .string .empty, .string .empty, .int .i64 0, .string .empty, .string .empty]].toList 8 = some ([.agg [.lit (.int .i64 0), .lit (.string []), .nil, .lit (.string []), .nil, .lit (.string []), .lit (.string []), .lit (.string []), .lit (.string []), .lit (.int .i64 0), .lit (.string []), .lit (.string [])]], [], places) :=
  ⟨[], by kernel_rfl⟩
set_option maxRecDepth 100000 in
theorem top_lifted (os : Os) (started : os.Started) (H : Type) (enc : TypeId × Value → H) (F : Stop.Interp) :
    ReturnsInHanded {} Tryd.checked os 4 .any ((Rows.OpenSpec.upto Rows.objectPrintsSpec).preRow enc Tryd.prog Tryd.f4 Rows.objectPrintsUptoRow.domain false Rows.objectPrintsUptoRow.laid) (((Rows.OpenSpec.upto Rows.objectPrintsSpec).at F).post enc Tryd.prog Tryd.f4 false true false false) := by
  obtain ⟨places, hx⟩ := reads os enc
  refine returnsInHanded_of_row (C := Tryd.checked) (s := (Rows.OpenSpec.upto Rows.objectPrintsSpec)) Tryd.own started (by kernel_rfl) Tryd.func4
    (witness_row_at (enc := enc) (C := Tryd.checked) false (laidWorld os) #[.agg #[.int .i64 0, .string .empty, .slice none 0 0, .string .empty, .slice none 0 0, .string .empty, .string .empty, .string .empty, .string .empty, .int .i64 0, .string .empty, .string .empty]] rfl (by kernel_rfl) (by kernel_rfl) (by kernel_rfl)
      (OpenSpec.preRow_of_cond 8 hx (by kernel_rfl) (fun k hk => by cases hk; kernel_rfl) (by kernel_rfl) (laid_met os))) ?_
  intro W base args ds gs before hval hW _ hcond hz hL hsh _
  exact top_row H enc W base args ds gs before hval hW (hcond _ rfl) hz hL hsh
theorem top_over : Rows.ObjectPrintsUptoSaid :=
  OpenClaim.holds_of_cond 4 Tryd.f4 rfl rfl rfl rfl rfl rfl rfl ⟨rfl, rfl, rfl, rfl, rfl⟩ rfl rfl rfl rfl rfl (by kernel_rfl) Tryd.func4 (by kernel_rfl)
    (of_decide_eq_true (by kernel_rfl)) (by unfold Func.isWrapper; first | (rw [if_pos (by decide +kernel)]; kernel_rfl) | (rw [if_neg (by decide +kernel)]; exact ⟨rfl, rfl⟩))
    (fun os started H enc _ F => by rw [OpenClaim.pre_eq_preRow]; exact top_lifted os started H enc F)
theorem top_plain (f : FuncId) (fn : Func) (hf : Tryd.pinned.checked.prog.funcNamed "stemma/stemmalaw8.ObjectPrints" = some f) (hfn : Tryd.pinned.checked.prog.funcs[f]? = some fn) :
    false = Tryd.pinned.checked.prog.looks [] ∧ ∀ (j : Nat) t, fn.params[j]? = some t → Tryd.pinned.checked.prog.wantsStandIn t = false := by
  obtain rfl : f = 4 := Option.some.inj ((show Tryd.prog.funcNamed "stemma/stemmalaw8.ObjectPrints" = some 4 by kernel_rfl).symm.trans hf) |>.symm
  obtain rfl : fn = Tryd.f4 := (Option.some.inj (Tryd.func4.symm.trans hfn)).symm
  have all : (Tryd.f4.params.toList.all fun t => !Tryd.prog.wantsStandIn t) = true := by kernel_rfl
  refine ⟨by kernel_rfl, fun j t ht => ?_⟩
  have hm : t ∈ Tryd.f4.params.toList := by
    have := Array.mem_of_getElem? ht
    simpa using this
  have := List.all_eq_true.1 all t hm
  show Tryd.prog.wantsStandIn t = false
  simpa using this
theorem top_holds : Rows.ObjectPrintsUptoCardSaid :=
  Claim7.holds_tied_plain_at .later [] _ _ _ _ top_over (fun _ h => by cases h) (by kernel_rfl) (fun _ h => by cases h) objectPrintsUpto_row_tie rfl ⟨rfl, rfl⟩ (by kernel_rfl) rfl top_plain (by kernel_rfl)
end Go.Proofs.YtlomjmdgcpjepaaDoor
