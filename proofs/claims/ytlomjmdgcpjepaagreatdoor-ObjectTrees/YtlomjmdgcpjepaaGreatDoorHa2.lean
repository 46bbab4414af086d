/- Contracts and facts on the way to the top. It proves no statement by itself. No conditions. -/
import Derived.Test.YtlomjmdgcpjepaaGreatDoorHa1
namespace Go.Proofs.YtlomjmdgcpjepaaGreatDoor
open Go Go.Vx
variable [W0]
set_option maxRecDepth 4000
set_option linter.all false
omit [W0] in
def digL : List UInt8 := [48, 49, 50, 51, 52, 53, 54, 55, 56, 57, 97, 98, 99, 100, 101, 102]
omit [W0] in
def digS : ByteArray := ⟨digL.toArray⟩
omit [W0] in
def dig (i : Nat) : UInt8 := digL.getD i 0
theorem dig_get {i : Nat} (h : i < 16) : digS[i]? = some (dig i) := by
  have : ∀ i : Fin 16, digS[i.val]? = some (dig i.val) := by decide
  exact this ⟨i, h⟩
omit [W0] in
def hexB (x : UInt8) : List UInt8 := [dig (x.toNat / 16), dig (x.toNat % 16)]
omit [W0] in
def hexL : List UInt8 → List UInt8
  | [] => []
  | x :: r => hexB x ++ hexL r
theorem hexL_append (a b : List UInt8) : hexL (a ++ b) = hexL a ++ hexL b := by
  induction a with
  | nil => rfl
  | cons x r ih => simp [hexL, ih]
theorem hexL_length (a : List UInt8) : (hexL a).length = 2 * a.length := by
  induction a with
  | nil => rfl
  | cons x r ih => simp [hexL, hexB, ih]; omega
set_option maxHeartbeats 1000000 in
theorem hex_n (t : List UInt8) (v : Value) (L : List Chunk) (hlen : t.length ≤ 35184372088832) (hv : SlC L 1 v t.length (bsv t)) :
    GvP Tryz.prog 25 [v].toArray L (.string ⟨(hexL t).toArray⟩) := by
  refine Gv.of_body Tryz.func25 rfl rfl ?_
  obtain ⟨a, c, rfl, hmc⟩ := hv.room
  (repeat' first|refine kX ?_|refine kU fun bk=>?_|refine kV fun hc=>?_|refine kZ (fun hc=>?_) fun hc=>?_|fail)
  refine OW_makeSlice (m := 0) (c := 2 * t.length) rfl rfl (by rfl) (by omega) (by omega) (by omega) rfl (fun bn => ?_)
  (repeat' first|refine kX ?_|refine kU fun bk=>?_|refine kV fun hc=>?_|refine kZ (fun hc=>?_) fun hc=>?_|fail)
  have ho : Ow 5 1 (.slice (some ⟨bn, 0, none⟩) 0 (2 * t.length)) 0 (bsv []) [(bn, cl (zeros [.int .u8 0] (2 * t.length)) 5)] :=
    .inr ⟨bn, 2 * t.length, zeros [.int .u8 0] (2 * t.length), rfl, rfl, rfl, by simp [zeros_length], by omega, by simp [maxLen]; omega⟩
  refine WC_loop (X := Nat × Value × Chunk) (fun x => [(3, x.2.1), (10, .slice a t.length c), (11, .int .i64 (t.length : Int)), (12, .int .i64 (x.1 : Int))])
    (fun x => x.2.2 :: L) (fun x => x.1 ≤ t.length ∧ Ow 5 1 x.2.1 (2 * x.1) (bsv (hexL (t.take x.1))) x.2.2) (fun x => t.length - x.1) (0, _, _) ⟨Nat.zero_le _, ho⟩ (by repeat (first | exact Sub.nil | refine Sub.cons rfl ?_ | refine Sub.cons (lk_int rfl (by first | omega | (dsimp only; omega))) ?_)) (fun w h => h) ?_
  intro x ⟨hx1, hx2⟩
  obtain ⟨k, s, C⟩ := x
  simp only at hx1 hx2 ⊢
  (repeat' first|refine kX ?_|refine kU fun bk=>?_|refine kV fun hc=>?_|refine kZ (fun hc=>?_) fun hc=>?_|fail)
  · have hlt : k < t.length := by omega
    obtain ⟨bb, off, cap, cc, bT, bfr, hve, hfn, hcell⟩ := sl_byte hv.sl hlt
    injection hve with e1 e2 e3
    subst e1 e3
    clear e2
    obtain ⟨x, hx⟩ : ∃ x, x = t.getD k 0 := ⟨_, rfl⟩
    rw [← hx] at hcell
    have hxl := x.toNat_lt
    (repeat' first|refine kX ?_|refine kU fun bk=>?_|refine kV fun hc=>?_|refine kZ (fun hc=>?_) fun hc=>?_|fail)
    refine OW_W ?_ (he := EV_load rfl hfn.there hcell)
    (repeat' first|refine kX ?_|refine kU fun bk=>?_|refine kV fun hc=>?_|refine kZ (fun hc=>?_) fun hc=>?_|fail)
    refine WC_drawAll [8, 9] mixed ?_
    (refine WR_w 0 ?_; refine WR_w 1 ?_; refine WR_w 2 ?_)
    (refine WR_take 3 rfl rfl (by kernel_rfl) (by repeat (first | with_reducible exact PO.body | with_reducible exact RP_po | with_reducible refine PO.then ?_ | with_reducible refine PO.block ?_)) iC (EV_indexStr (s := digS) (j := x.toNat / 16) rfl rfl (by omega) (dig_get (by omega))) (by rfl) ?_)
    (refine WR_w 4 ?_)
    (refine WR_take 5 rfl rfl (by kernel_rfl) (by repeat (first | with_reducible exact PO.body | with_reducible exact RP_po | with_reducible refine PO.then ?_ | with_reducible refine PO.block ?_)) iC (EV_mask rfl rfl rfl) (by rfl) ?_)
    (refine WR_take 6 rfl rfl (by kernel_rfl) (by repeat (first | with_reducible exact PO.body | with_reducible exact RP_po | with_reducible refine PO.then ?_ | with_reducible refine PO.block ?_)) iC (EV_indexStr (s := digS) (j := x.toNat % 16) rfl rfl rfl (dig_get (by omega))) (by rfl) ?_)
    (refine WR_one 7 (by kernel_rfl) rfl rfl ?_)
    refine OW_buildSlice (cs := bsv (hexB x)) rfl (by rfl) (by simp [fillL, patch, Value.cells, zeros]; rfl) (by omega) rfl rfl (fun bk => ?_)
    refine ⟨iC, ?_⟩
    (refine WR_last 8 (by kernel_rfl) rfl rfl rfl ?_)
    refine OW_append rfl rfl hx2 (sl_cells (c := (bsv (hexB x)).toArray) (xs := bsv (hexB x)) (m := 2) Fnd.here rfl (by simp)) (by repeat (first | exact Zip.here _ | apply Zip.there)) (by rfl) bsv_ones (by omega) (by simp [maxLen]; omega) rfl (fun v' C' ho1 h1 h2 => ?_)
    (refine WR_last 9 (by kernel_rfl) rfl rfl rfl ?_)
    refine OW_W ?_
    (refine WR_done (by kernel_rfl) ?_)
    (repeat' first|refine kX ?_|refine kU fun bk=>?_|refine kV fun hc=>?_|refine kZ (fun hc=>?_) fun hc=>?_|fail)
    have e : hexL (t.take (k + 1)) = hexL (t.take k) ++ hexB x := by
      rw [take_succ 0 hlt, hexL_append, ← hx]; simp [hexL]
    rw [← bsv_append, ← e] at ho1
    refine WQ_round (X := Nat × Value × Chunk) (μ := fun x => t.length - x.1) (x := (k, s, C)) (k + 1, v', C') (by simp only; omega) ⟨by simp only; omega, ho1⟩ (by repeat (first | exact Sub.nil | refine Sub.cons rfl ?_ | refine Sub.cons (lk_int rfl (by first | omega | (dsimp only; omega))) ?_)) (fun w h => iH h)
  · have hk : k = t.length := by omega
    subst hk
    rw [List.take_length] at hx2
    refine OW_EV (EV_convStr (b := hexL t) rfl (ow_sl hx2)) rfl ?_
    (repeat' first|refine kX ?_|refine kU fun bk=>?_|refine kV fun hc=>?_|refine kZ (fun hc=>?_) fun hc=>?_|fail)
    (first | refine WQ_retI rfl rfl ?_ | refine WQ_endI rfl rfl ?_)
    exact ⟨L, iC, rfl, rfl⟩
end Go.Proofs.YtlomjmdgcpjepaaGreatDoor
namespace Go.Vx
open Go
set_option linter.all false
variable [W0]
omit [W0] in
/-- No cell of the row is marked. -/
def FrOk (fr : Nat × Nat) (n : Nat) : Prop := ∀ j, j < n → ¬ (fr.1 ≤ j ∧ j < fr.2)
theorem FrOk.zero (n : Nat) : FrOk (0, 0) n := fun j _ h => by simp at h
theorem FrOk.behind (n : Nat) : FrOk (n, n + 1) n := fun j hj h => by simp at h; omega
omit [W0] in
/-- A slice of the call's own whose row may bear a mark. -/
def OwF (e k : Nat) (v : Value) (m : Nat) (xs : List Value) (C : Chunk) : Prop :=
  ∃ b cap rest fr, v = .slice (some ⟨b, 0, none⟩) m cap ∧ C = [(b, .cells (xs ++ rest).toArray e fr)] ∧ xs.length = m * k ∧ rest.length = (cap - m) * k ∧ m ≤ cap ∧ cap ≤ maxLen ∧ FrOk fr (xs ++ rest).length
theorem owf_sl {e k m : Nat} {v : Value} {xs : List Value} {C : Chunk} {L : List Chunk} (h : OwF e k v m xs C) : Sl (C :: L) k v m xs := by
  obtain ⟨b, cap, rest, fr, rfl, rfl, hxl, hrl, hmc, hcm, hfr⟩ := h
  exact .inr ⟨_, _, rfl, .inr ⟨b, 0, _, _, _, rfl, .here, fun j u hj => by rw [Nat.zero_add]; simpa using getE_app hj⟩, hxl⟩
theorem setCells_at {b : Nat} {T : TypeId} {fr : Nat × Nat} : ∀ (vs : List Value) (off : Nat) (c : Array Value) (w : World), w.heap[b]? = some (.cells c T fr) → off + vs.length ≤ c.size →
    (w.setCells b off vs).heap[b]? = some (.cells (patch c.toList off vs).toArray T fr)
  | [], off, c, w, h, _ => by simpa [World.setCells, patch] using h
  | v :: r, off, c, w, h, hf => by
    simp only [List.length_cons] at hf
    have h1 := setCell_at (off := off) (v := v) h
    have h2 := setCells_at r (off + 1) _ _ h1 (by simp; omega)
    rw [World.setCells, h2]
    congr 2
    have e := list_seg_step c.toList off v r (by simp; omega)
    simpa [patch, Array.toList_setIfInBounds, Nat.add_assoc, Nat.add_comm 1] using e
theorem setCells_ne {b : Nat} : ∀ (vs : List Value) (off : Nat) (w : World) (c : Nat), c ≠ b → (w.setCells b off vs).heap[c]? = w.heap[c]?
  | [], _, _, _, _ => rfl
  | v :: r, off, w, c, h => by
    rw [World.setCells, setCells_ne r _ _ _ h, setCell_ne h]
theorem setCells_out {b : Nat} : ∀ (vs : List Value) (off : Nat) (w : World), (w.setCells b off vs).os = w.os ∧ (w.setCells b off vs).output = w.output
  | [], _, _ => ⟨rfl, rfl⟩
  | v :: r, off, w => by rw [World.setCells]; exact setCells_out r _ _
section
variable {P : Program} {n : Nat} {M : List (Nat × Value)} {L : List Chunk} {K : List (Nat × Value) → List Chunk → Prop}
variable {d : Nat} {ty : TypeId} {ps : String} {af : Array Edge} {g : Option (Nat × Bool)} {x y : Operand} {v : Value}
theorem bytesRow_eq {s : ByteArray} {cap : Nat} : bytesRow s cap = (bsv s.data.toList ++ List.replicate (cap - s.size) (Value.int .u8 0)).toArray := by
  apply Array.ext'
  simp [bytesRow, bsv]
theorem OW_convBytes {s t e by_ : Nat} [hs : ST P s] [ht : SL P t e 1 by_] [he : IK P e .u8] {str : ByteArray} (hx : ev M x = some (.string str)) (hm : str.size ≤ maxLen) (hn : Nat.blt d n = true)
    (h : ∀ v C, OwF e 1 v str.size (bsv str.data.toList) C → K ((d, v) :: M) (C :: L)) : OW P n ⟨some d, .convert s t x, ty, ps, af, g⟩ K M L := ⟨fun a w next Q ha hw hk => by
  have hr := run_bytes_of_string (P := P) w s t e str hs.out (slcOf_und ht.out) he.out
  have hrun : (execOp a.eval ⟨some d, .convert s t x, ty, ps, af, g⟩).run P w = .ok (.value (.slice (some ⟨w.heap.size, 0, none⟩) str.size (grownCap w str.size 0 e)))
      (w.drew.alloc (.cells (bytesRow str (grownCap w str.size 0 e)) e ((bytesRow str (grownCap w str.size 0 e)).size, (bytesRow str (grownCap w str.size 0 e)).size + 1))) := by
    simp only [execOp, Sem.run_bind, ha.eval hx, hr, Result.andThen_ok, Sem.run_pure]
  unfold Oper.wp
  rw [hrun, Oper.upon_value]
  have hH := (hw.same (w' := w.drew) rfl rfl rfl).alloc (.cells (bytesRow str (grownCap w str.size 0 e)) e ((bytesRow str (grownCap w str.size 0 e)).size, (bytesRow str (grownCap w str.size 0 e)).size + 1))
  rw [bytesRow_eq] at hH ⊢
  have hge := grownCap_ge w str.size 0 e
  refine (hk _ _ (h _ _ ⟨w.heap.size, grownCap w str.size 0 e, List.replicate (grownCap w str.size 0 e - str.size) (Value.int .u8 0), (_, _), rfl, rfl, ?_, by simp, hge, grownCap_le_maxLen w str.size 0 e hm, ?_⟩)).out _ _ (ha.put _ hn) hH
  · rw [bsv_length, Nat.mul_one]; rfl
  · simp only [List.size_toArray]
    exact FrOk.behind _⟩
theorem OW_appendF {t e k by_ : Nat} [hs : SL P t e k by_] {z : Value} [hz : ZV P e z] {v r : Value} {m c : Nat} {xs ys : List Value} {C : Chunk} {A B : List Chunk} (hx : ev M x = some v) (hy : ev M y = some r) (hown : OwF e k v m xs C)
    (hsl : Sl L k r c ys) (hzip : Zip C L A B) (hzk : z.cells.size = k) (h1 : ones ys = true) (hb : (m + c) * by_ ≤ 140737488355328) (h63 : m + c ≤ maxLen)
    (hn : Nat.blt d n = true) (h : ∀ v' C', OwF e k v' (m + c) (xs ++ ys) C' → K ((d, v') :: M) (A ++ C' :: B)) :
    OW P n ⟨some d, .call ⟨.builtin .append, #[x, y], #[t, t]⟩, ty, ps, af, g⟩ K M L := ⟨fun a w next Q ha hw0 hk => by
  have hL := hzip.eq
  subst hL
  have hw := hw0.perm List.perm_middle
  replace hsl := hsl.perm (List.perm_middle (a := C) (l₁ := A) (l₂ := B))
  obtain ⟨ht, i, hi, hik, hib, hk0⟩ := hs.parts
  have hzz : i.zero = some z := by have := hz.out; rw [hi] at this; simpa using this
  subst hik hib
  have hsmall : m + c ≤ 9223372036854775807 := by simpa [maxLen] using h63
  obtain ⟨b, cap, rest, fr, rfl, rfl, hxl, hrl, hmc, hcm, hfr⟩ := hown
  have main : ∃ v' C' w', (Builtin.append_ #[t, t] ty #[.slice (some ⟨b, 0, none⟩) m cap, r]).run P w = .ok v' w' ∧ OwF e i.size v' (m + c) (xs ++ ys) C' ∧ Holds w' (C' :: (A ++ B)) := by
    have hfnd : w.heap[b]? = some (.cells (xs ++ rest).toArray e fr) := (Fnd.here : Fnd ([(b, .cells (xs ++ rest).toArray e fr)] :: (A ++ B)) b _).get hw
    rcases hsl with ⟨c', rfl, rfl, rfl⟩ | ⟨a', c', rfl, hrd, hyl⟩
    · refine ⟨.slice (some ⟨b, 0, none⟩) m cap, _, w, ?_, ⟨b, cap, rest, fr, by simp, rfl, by simpa using hxl, by simpa using hrl, by simpa using hmc, hcm, by simpa using hfr⟩, by simpa using hw⟩
      simp [Builtin.append_, run_underlying ht, sizeOf, typeInfo, hi, Builtin.lenOf, Builtin.firstCells, hmc, storeCells]
    · by_cases hroom : m + c ≤ cap
      · have hlen : m * i.size + ys.length ≤ (xs ++ rest).length := by
          simp only [List.length_append, hxl, hrl, hyl, ← Nat.add_mul]
          exact Nat.mul_le_mul_right _ (by omega)
        have hr := run_append_room_cells (P := P) (w := w) t ty e i ht hi b 0 m cap a' c c' ys hyl (hrd.cells hw) (ones_mem h1) hroom
          (fun j hj => by rw [cell_of hfnd]; simp; simp at hlen; omega)
          (fun j hj => by
            have := hfr (0 + m * i.size + j) (by omega)
            simp only [World.frozen?, hfnd]
            cases hd : (decide (fr.1 ≤ 0 + m * i.size + j) && decide (0 + m * i.size + j < fr.2)) with
            | false => rfl
            | true => simp at hd; exact absurd (by simpa using hd) this)
        rw [Nat.zero_add] at hr
        have hx1 : patch (xs ++ rest).toArray.toList (m * i.size) ys = (xs ++ ys) ++ rest.drop ys.length := by
          simp only [List.toList_toArray, patch]
          rw [← hxl, List.take_left]
          congr 1
          rw [List.drop_append]
          simp
        have hat := setCells_at (T := e) (fr := fr) ys (m * i.size) _ w hfnd (by simpa using hlen)
        rw [hx1] at hat
        refine ⟨_, [(b, .cells ((xs ++ ys) ++ rest.drop ys.length).toArray e fr)], _, hr, ⟨b, cap, rest.drop ys.length, fr, rfl, rfl, ?_, ?_, hroom, hcm, ?_⟩, ?_⟩
        · rw [List.length_append, hxl, hyl, Nat.add_mul]
        · rw [List.length_drop, hrl, hyl, ← Nat.sub_mul]; congr 1; omega
        · intro j hj
          refine hfr j ?_
          simp at hj hlen ⊢
          omega
        · exact hw.upd .here hat (fun q hq => setCells_ne _ _ _ _ hq) (setCells_out _ _ _).1 (setCells_out _ _ _).2
      · have hrd0 : RdAt ([(b, .cells (xs ++ rest).toArray e fr)] :: (A ++ B)) ⟨b, 0, none⟩ xs := .inr ⟨b, 0, _, _, _, rfl, .here, fun j u hj => by rw [Nat.zero_add]; simpa using getE_app hj⟩
        have hr := run_append_grow (P := P) w t ty e i z ht hi hzz ⟨b, 0, none⟩ m cap xs hxl (hrd0.cells hw) a' c c' ys hyl (hrd.cells hw) (by omega) (by omega) (growslice_fits (by omega) hb)
        refine ⟨_, [(w.heap.size, .cells ((xs ++ ys) ++ (Builtin.zeroCells z.cells (grownCap w (m + c) cap e - (m + c))).toList).toArray e (0, 0))], _, hr, ⟨w.heap.size, _, _, (0, 0), rfl, rfl, ?_, ?_, grownCap_ge w (m + c) cap e, grownCap_le_maxLen w (m + c) cap e h63, FrOk.zero _⟩, ?_⟩
        · rw [List.length_append, hxl, hyl, Nat.add_mul]
        · simp [size_zeroCells, hzk]
        · have h0 := (hw.drop.same (w' := w.drew) rfl rfl rfl).alloc (.cells (xs.toArray ++ ys.toArray ++ Builtin.zeroCells z.cells (grownCap w (m + c) cap e - (m + c))) e)
          have e1 : (xs ++ ys ++ (Builtin.zeroCells z.cells (grownCap w (m + c) cap e - (m + c))).toList).toArray = xs.toArray ++ ys.toArray ++ Builtin.zeroCells z.cells (grownCap w (m + c) cap e - (m + c)) := by
            apply Array.ext'; simp
          rw [e1]; exact h0
  obtain ⟨v', C', w', hr, ho, hw'⟩ := main
  unfold Oper.wp
  have hrun : (execOp a.eval ⟨some d, .call ⟨.builtin .append, #[x, y], #[t, t]⟩, ty, ps, af, g⟩).run P w = .ok (.value v') w' := by
    simp only [execOp, resolve, invoke, builtin, Sem.run_bind, Sem.run_pure, Result.andThen_ok, List.map_toArray, List.map_cons, List.map_nil, ha.eval hx, ha.eval hy, hr]
  rw [hrun, Oper.upon_value]
  exact (hk _ _ (h v' C' ho)).out _ _ (ha.put v' hn) (hw'.perm List.perm_middle.symm)⟩
end
end Go.Vx
namespace Go.Proofs.YtlomjmdgcpjepaaGreatDoor
open Go Go.Vx
variable [W0]
set_option maxRecDepth 4000
set_option linter.all false
omit [W0] in
/-- A text as the model has it. -/
def str (t : List UInt8) : ByteArray := ⟨t.toArray⟩
theorem str_size (t : List UInt8) : (str t).size = t.length := rfl
theorem str_get {t : List UInt8} {k : Nat} (h : k < t.length) : (str t)[k]? = some (t.getD k 0) := by
  show (str t).data[k]? = _
  simp [str, List.getD, h]
theorem str_data (t : List UInt8) : (str t).data.toList = t := rfl
end Go.Proofs.YtlomjmdgcpjepaaGreatDoor
namespace Go.Proofs.YtlomjmdgcpjepaaGreatDoor
open Go Go.Vx
variable [W0]
set_option maxRecDepth 4000
set_option linter.all false
omit [W0] in
def hcs (h : H5) : List Value := [w32 h.a, w32 h.b, w32 h.c, w32 h.d, w32 h.e]
end Go.Proofs.YtlomjmdgcpjepaaGreatDoor
namespace Go.Proofs.YtlomjmdgcpjepaaGreatDoor
open Go Go.Vx
variable [W0]
set_option maxRecDepth 4000
set_option linter.all false
omit [W0] in
/-- A digit's number; -1: it is none. -/
def dv (d : UInt8) : Int := if 48 ≤ d.toNat ∧ d.toNat ≤ 57 then (d.toNat : Int) - 48 else if 97 ≤ d.toNat ∧ d.toNat ≤ 102 then (d.toNat : Int) - 87 else -1
theorem dv_lt (d : UInt8) : dv d < 16 := by
  unfold dv; split
  · omega
  · split <;> omega
theorem dv_dig {i : Nat} (h : i < 16) : dv (dig i) = (i : Int) := by
  have : ∀ i : Fin 16, dv (dig i.val) = (i.val : Int) := by decide
  exact this ⟨i, h⟩
omit [W0] in
def halfV (d : UInt8) : Value := if 0 ≤ dv d then .tuple #[.int .u8 (dv d), .bool true] else .tuple #[.int .u8 0, .bool false]
theorem half_n (d : UInt8) (L : List Chunk) : GvP Tryz.prog 84 [.int .u8 (d.toNat : Int)].toArray L (halfV d) := by
  refine Gv.of_body Tryz.func84 rfl rfl ?_
  have hd := d.toNat_lt
  (repeat' first|refine kX ?_|refine kU fun bk=>?_|refine kV fun hc=>?_|refine kZ (fun hc=>?_) fun hc=>?_|fail)
  · refine OW_EV (EV_ari rfl rfl rfl) rfl ?_
    have e : dv d = (d.toNat : Int) - 48 := by unfold dv; rw [if_pos (by omega)]
    have h0 : halfV d = .tuple #[.int .u8 ((d.toNat : Int) - 48), .bool true] := by unfold halfV; rw [if_pos (by omega), e]
    rw [wrap_u8, show (((d.toNat : Int) - 48) % 256).toNat = (d.toNat - 48 : Nat) from by omega, h0]
    (repeat' first|refine kX ?_|refine kU fun bk=>?_|refine kV fun hc=>?_|refine kZ (fun hc=>?_) fun hc=>?_|fail)
    refine kR ?_
    refine ⟨L, iC, ?_, rfl⟩
    rw [show ((d.toNat - 48 : Nat) : Int) = (d.toNat : Int) - 48 from by omega]
    rfl
  · refine OW_EV (EV_ari rfl rfl rfl) rfl ?_
    have e : dv d = (d.toNat : Int) - 87 := by unfold dv; rw [if_neg (by omega), if_pos (by omega)]
    have h0 : halfV d = .tuple #[.int .u8 ((d.toNat : Int) - 87), .bool true] := by unfold halfV; rw [if_pos (by omega), e]
    rw [wrap_u8, show (((d.toNat : Int) - 97) % 256).toNat = (d.toNat - 97 : Nat) from by omega, h0]
    (repeat' first|refine kX ?_|refine kU fun bk=>?_|refine kV fun hc=>?_|refine kZ (fun hc=>?_) fun hc=>?_|fail)
    refine OW_EV (EV_ari rfl rfl rfl) rfl ?_
    rw [wrap_u8, show ((((d.toNat - 97 : Nat) : Int) + 10) % 256).toNat = (d.toNat - 87 : Nat) from by omega]
    (repeat' first|refine kX ?_|refine kU fun bk=>?_|refine kV fun hc=>?_|refine kZ (fun hc=>?_) fun hc=>?_|fail)
    refine kR ?_
    refine ⟨L, iC, ?_, rfl⟩
    rw [show ((d.toNat - 87 : Nat) : Int) = (d.toNat : Int) - 87 from by omega]
    rfl
  all_goals
    have e : dv d = -1 := by unfold dv; rw [if_neg (by omega), if_neg (by omega)]
    have h0 : halfV d = .tuple #[.int .u8 0, .bool false] := by unfold halfV; rw [if_neg (by omega)]
    rw [h0]
    refine kR ?_
    exact ⟨L, iC, rfl, rfl⟩
end Go.Proofs.YtlomjmdgcpjepaaGreatDoor
namespace Go.Proofs.YtlomjmdgcpjepaaGreatDoor
open Go Go.Vx
variable [W0]
set_option maxRecDepth 4000
set_option linter.all false
omit [W0] in
/-- Two digits, and what they are. -/
def okAt (t : List UInt8) (i : Nat) : Bool := decide (0 ≤ dv (t.getD (2 * i) 0)) && decide (0 ≤ dv (t.getD (2 * i + 1) 0))
omit [W0] in
def byAt (t : List UInt8) (i : Nat) : UInt8 := UInt8.ofNat (16 * (dv (t.getD (2 * i) 0)).toNat + (dv (t.getD (2 * i + 1) 0)).toNat)
omit [W0] in
def outN (t : List UInt8) (k : Nat) : List UInt8 := (List.range k).map (byAt t)
theorem outN_length (t : List UInt8) (k : Nat) : (outN t k).length = k := by simp [outN]
theorem outN_succ (t : List UInt8) (k : Nat) : outN t (k + 1) = outN t k ++ [byAt t k] := by simp [outN, List.range_succ]
omit [W0] in
def unB (t : List UInt8) : Bool := decide (t.length % 2 = 0) && (List.range (t.length / 2)).all (okAt t)
omit [W0] in
def unL (t : List UInt8) : List UInt8 := if unB t then outN t (t.length / 2) else []
theorem unB_odd {t : List UInt8} (h : t.length % 2 ≠ 0) : unB t = false := by simp [unB, h]
theorem unB_bad {t : List UInt8} {i : Nat} (h : i < t.length / 2) (hk : okAt t i = false) : unB t = false := by
  simp only [unB, Bool.and_eq_false_iff]
  refine .inr ?_
  rw [List.all_eq_false]
  exact ⟨i, List.mem_range.2 h, by simp [hk]⟩
theorem unB_good {t : List UInt8} (h : t.length % 2 = 0) (hk : ∀ i, i < t.length / 2 → okAt t i = true) : unB t = true := by
  simp only [unB, h, decide_true, Bool.true_and, List.all_eq_true]
  exact fun i hi => hk i (List.mem_range.1 hi)
theorem halfV_yes {d : UInt8} (h : 0 ≤ dv d) : halfV d = .tuple #[.int .u8 (dv d), .bool true] := if_pos h
theorem halfV_no {d : UInt8} (h : ¬ 0 ≤ dv d) : halfV d = .tuple #[.int .u8 0, .bool false] := if_neg h
theorem byAt_val {t : List UInt8} {i : Nat} (h1 : 0 ≤ dv (t.getD (2 * i) 0)) (h2 : 0 ≤ dv (t.getD (2 * i + 1) 0)) : ((byAt t i).toNat : Int) = 16 * dv (t.getD (2 * i) 0) + dv (t.getD (2 * i + 1) 0) := by
  have a1 := dv_lt (t.getD (2 * i) 0)
  have a2 := dv_lt (t.getD (2 * i + 1) 0)
  simp only [byAt, UInt8.toNat_ofNat']
  omega
theorem halves {a b : Nat} (ha : a < 16) (hb : b < 16) : bitI .or .u8 (IntKind.u8.wrap ((a : Int) * 2 ^ (min ((4 : Int)).toNat IntKind.u8.bits))) (b : Int) = some ((16 * a + b : Nat) : Int) := by
  have : ∀ a b : Fin 16, bitI .or .u8 (IntKind.u8.wrap ((a.val : Int) * 2 ^ (min ((4 : Int)).toNat IntKind.u8.bits))) (b.val : Int) = some ((16 * a.val + b.val : Nat) : Int) := by decide +kernel
  exact this ⟨a, ha⟩ ⟨b, hb⟩
set_option maxHeartbeats 2000000 in
theorem unhex_n (t : List UInt8) (L : List Chunk) (hlen : t.length ≤ 70368744177664) :
    Gv Tryz.prog 59 [.string (str t)].toArray L (fun r L' => ∃ v C, r = .tuple #[v, .bool (unB t)] ∧ L' = C :: L ∧ Ow 5 1 v (unL t).length (bsv (unL t)) C) := by
  refine Gv.of_body Tryz.func59 rfl rfl ?_
  have hno : unB t = false → Ow 5 1 (.slice none 0 0) (unL t).length (bsv (unL t)) [] := fun h => by
    unfold unL; rw [h]; exact .inl ⟨rfl, rfl, rfl, rfl⟩
  (repeat' first|refine kX ?_|refine kU fun bk=>?_|refine kV fun hc=>?_|refine kZ (fun hc=>?_) fun hc=>?_|fail)
  refine OW_EV (EV_rem rfl rfl (by decide)) rfl ?_
  rw [show (((str t).size : Nat) : Int).tmod 2 = ((t.length % 2 : Nat) : Int) from by rw [str_size, Int.tmod_eq_emod_of_nonneg (by omega)]; omega]
  (repeat' first|refine kX ?_|refine kU fun bk=>?_|refine kV fun hc=>?_|refine kZ (fun hc=>?_) fun hc=>?_|fail)
  · have hb := unB_odd (t := t) (by omega)
    refine WQ_holds (L' := [] :: L) (fun w h => Holds.nil.2 h) ?_
    refine kR ?_
    exact ⟨[] :: L, iC, .slice none 0 0, [], by rw [hb]; rfl, rfl, hno hb⟩
  · have hev : t.length % 2 = 0 := by omega
    refine OW_EV (EV_quo rfl rfl (by decide)) rfl ?_
    rw [show IntKind.i64.wrap ((((str t).size : Nat) : Int).tdiv 2) = ((t.length / 2 : Nat) : Int) from by
      rw [str_size, Int.tdiv_eq_ediv_of_nonneg (by omega), wrap_i64 (by omega) (by omega)]; omega]
    (repeat' first|refine kX ?_|refine kU fun bk=>?_|refine kV fun hc=>?_|refine kZ (fun hc=>?_) fun hc=>?_|fail)
    refine OW_makeSlice (m := 0) rfl rfl (by rfl) (by omega) (by omega) (by omega) rfl (fun bn => ?_)
    (repeat' first|refine kX ?_|refine kU fun bk=>?_|refine kV fun hc=>?_|refine kZ (fun hc=>?_) fun hc=>?_|fail)
    have ho : Ow 5 1 (.slice (some ⟨bn, 0, none⟩) 0 (t.length / 2)) 0 (bsv (outN t 0)) [(bn, cl (zeros [.int .u8 0] (t.length / 2)) 5)] :=
      .inr ⟨bn, t.length / 2, zeros [.int .u8 0] (t.length / 2), rfl, rfl, rfl, by simp [zeros_length], by omega, by simp [maxLen]; omega⟩
    refine WC_loop (X := Nat × Value × Chunk) (fun x => [(0, .string (str t)), (4, x.2.1), (5, .int .i64 ((2 * x.1 : Nat) : Int))])
      (fun x => x.2.2 :: L) (fun x => 2 * x.1 ≤ t.length ∧ (∀ i, i < x.1 → okAt t i = true) ∧ Ow 5 1 x.2.1 x.1 (bsv (outN t x.1)) x.2.2) (fun x => t.length - x.1) (0, _, _) ⟨Nat.zero_le _, fun i h => by omega, ho⟩ iS (fun w h => h) ?_
    intro x ⟨hx1, hx2, hx3⟩
    obtain ⟨k, s, C⟩ := x
    simp only at hx1 hx2 hx3 ⊢
    (repeat' first|refine kX ?_|refine kU fun bk=>?_|refine kV fun hc=>?_|refine kZ (fun hc=>?_) fun hc=>?_|fail)
    · rw [str_size] at hc
      have h0 : 2 * k + 1 < t.length := by omega
      obtain ⟨a, haq⟩ : ∃ a, a = t.getD (2 * k) 0 := ⟨_, rfl⟩
      obtain ⟨b, hbq⟩ : ∃ b, b = t.getD (2 * k + 1) 0 := ⟨_, rfl⟩
      have hal := dv_lt a
      have hbl := dv_lt b
      refine OW_EV (EV_indexStr (s := str t) (j := 2 * k) rfl rfl rfl (str_get (by omega))) rfl ?_
      rw [← haq]
      (repeat' first|refine kX ?_|refine kU fun bk=>?_|refine kV fun hc=>?_|refine kZ (fun hc=>?_) fun hc=>?_|fail)
      refine OW_callP rfl rfl rfl (half_n a _) rfl ?_
      by_cases ha : 0 ≤ dv a
      · rw [halfV_yes ha]
        (repeat' first|refine kX ?_|refine kU fun bk=>?_|refine kV fun hc=>?_|refine kZ (fun hc=>?_) fun hc=>?_|fail)
        refine OW_EV (EV_indexStr (s := str t) (j := 2 * k + 1) rfl rfl (by omega) (str_get h0)) rfl ?_
        rw [← hbq]
        (repeat' first|refine kX ?_|refine kU fun bk=>?_|refine kV fun hc=>?_|refine kZ (fun hc=>?_) fun hc=>?_|fail)
        refine OW_callP rfl rfl rfl (half_n b _) rfl ?_
        by_cases hb : 0 ≤ dv b
        · rw [halfV_yes hb]
          have hok : okAt t k = true := by unfold okAt; rw [← haq, ← hbq]; simp [ha, hb]
          have hby := byAt_val (t := t) (i := k) (by rw [← haq]; exact ha) (by rw [← hbq]; exact hb)
          rw [← haq, ← hbq] at hby
          (repeat' first|refine kX ?_|refine kU fun bk=>?_|refine kV fun hc=>?_|refine kZ (fun hc=>?_) fun hc=>?_|fail)
          refine OW_EV (EV_shl rfl rfl (by omega) rfl) rfl ?_
          (repeat' first|refine kX ?_|refine kU fun bk=>?_|refine kV fun hc=>?_|refine kZ (fun hc=>?_) fun hc=>?_|fail)
          have hh : bitI .or .u8 (IntKind.u8.wrap (dv a * 2 ^ (min ((4 : Int)).toNat IntKind.u8.bits))) (dv b) = some ((byAt t k).toNat : Int) := by
            have := halves (a := (dv a).toNat) (b := (dv b).toNat) (by omega) (by omega)
            rw [Int.toNat_of_nonneg ha, Int.toNat_of_nonneg hb] at this
            rw [this]
            congr 1
            omega
          refine OW_EV (EV_bit rfl rfl hh) rfl ?_
          (repeat' first|refine kX ?_|refine kU fun bk=>?_|refine kV fun hc=>?_|refine kZ (fun hc=>?_) fun hc=>?_|fail)
          refine OW_buildSlice (cs := bsv [byAt t k]) rfl (by rfl) (by simp [fillL, patch, Value.cells, zeros]; rfl) (by omega) rfl rfl (fun bk => ?_)
          (repeat' first|refine kX ?_|refine kU fun bk=>?_|refine kV fun hc=>?_|refine kZ (fun hc=>?_) fun hc=>?_|fail)
          refine OW_append rfl rfl hx3 (sl_cells (c := (bsv [byAt t k]).toArray) (xs := bsv [byAt t k]) (m := 1) Fnd.here rfl (by simp)) (by repeat (first | exact Zip.here _ | apply Zip.there)) (by rfl) bsv_ones (by omega) (by simp [maxLen]; omega) rfl (fun v' C' ho1 h1 h2 => ?_)
          rw [← bsv_append, ← outN_succ] at ho1
          (repeat' first|refine kX ?_|refine kU fun bk=>?_|refine kV fun hc=>?_|refine kZ (fun hc=>?_) fun hc=>?_|fail)
          refine WQ_round (X := Nat × Value × Chunk) (μ := fun x => t.length - x.1) (x := (k, s, C)) (k + 1, v', C') (by simp only; omega)
            ⟨by simp only; omega, fun i hi => ?_, ho1⟩ iS (fun w h => iH h)
          rcases Nat.lt_or_ge i k with h' | h'
          · exact hx2 i h'
          · rw [show i = k from by simp only at hi; omega]; exact hok
        · rw [halfV_no hb]
          have hbad := unB_bad (t := t) (i := k) (by omega) (by unfold okAt; rw [← haq, ← hbq, decide_eq_false hb]; simp)
          (repeat' first|refine kX ?_|refine kU fun bk=>?_|refine kV fun hc=>?_|refine kZ (fun hc=>?_) fun hc=>?_|fail)
          refine WQ_holds (L' := [] :: L) (fun w h => Holds.nil.2 h.drop) ?_
          refine kR ?_
          exact ⟨[] :: L, iC, .slice none 0 0, [], by rw [hbad]; rfl, rfl, hno hbad⟩
      · rw [halfV_no ha]
        (repeat' first|refine kX ?_|refine kU fun bk=>?_|refine kV fun hc=>?_|refine kZ (fun hc=>?_) fun hc=>?_|fail)
        refine OW_EV (EV_indexStr (s := str t) (j := 2 * k + 1) rfl rfl (by omega) (str_get h0)) rfl ?_
        rw [← hbq]
        (repeat' first|refine kX ?_|refine kU fun bk=>?_|refine kV fun hc=>?_|refine kZ (fun hc=>?_) fun hc=>?_|fail)
        refine OW_callP rfl rfl rfl (half_n b _) rfl ?_
        have hx : ∃ x y, halfV b = .tuple #[.int .u8 x, .bool y] := by
          unfold halfV; split <;> exact ⟨_, _, rfl⟩
        obtain ⟨x, y, hxy⟩ := hx
        rw [hxy]
        have hbad := unB_bad (t := t) (i := k) (by omega) (by unfold okAt; rw [← haq, ← hbq, decide_eq_false ha]; simp)
        (repeat' first|refine kX ?_|refine kU fun bk=>?_|refine kV fun hc=>?_|refine kZ (fun hc=>?_) fun hc=>?_|fail)
        refine WQ_holds (L' := [] :: L) (fun w h => Holds.nil.2 h.drop) ?_
        refine kR ?_
        exact ⟨[] :: L, iC, .slice none 0 0, [], by rw [hbad]; rfl, rfl, hno hbad⟩
    · rw [str_size] at hc
      have hk : k = t.length / 2 := by omega
      have hb : unB t = true := unB_good hev fun i hi => hx2 i (by omega)
      have hl : unL t = outN t k := by unfold unL; rw [hb, hk]; rfl
      refine kR ?_
      refine ⟨C :: L, iC, s, C, by rw [hb]; rfl, rfl, ?_⟩
      rw [hl, outN_length]
      exact hx3
end Go.Proofs.YtlomjmdgcpjepaaGreatDoor
namespace Go.Proofs.YtlomjmdgcpjepaaGreatDoor
open Go Go.Vx
variable [W0]
set_option maxRecDepth 4000
set_option linter.all false
theorem hexL_get : ∀ (t : List UInt8) (i : Nat), i < t.length → (hexL t).getD (2 * i) 0 = dig ((t.getD i 0).toNat / 16) ∧ (hexL t).getD (2 * i + 1) 0 = dig ((t.getD i 0).toNat % 16)
  | [], i, h => by simp at h
  | x :: t, 0, _ => ⟨rfl, rfl⟩
  | x :: t, i + 1, h => by
    have ih := hexL_get t i (by simpa using h)
    rw [show 2 * (i + 1) = 2 * i + 1 + 1 from by omega]
    exact ih
theorem unB_hex (t : List UInt8) : unB (hexL t) = true := by
  refine unB_good (by rw [hexL_length]; omega) fun i hi => ?_
  rw [hexL_length] at hi
  obtain ⟨h1, h2⟩ := hexL_get t i (by omega)
  have := (t.getD i 0).toNat_lt
  unfold okAt
  rw [h1, h2, dv_dig (by omega), dv_dig (by omega), decide_eq_true (Int.natCast_nonneg _), decide_eq_true (Int.natCast_nonneg _)]
  rfl
theorem unL_hex (t : List UInt8) : unL (hexL t) = t := by
  unfold unL
  rw [unB_hex, if_pos rfl, hexL_length, show 2 * t.length / 2 = t.length from by omega]
  refine List.ext_getElem (by simp [outN]) fun i h1 h2 => ?_
  simp only [outN, List.getElem_map, List.getElem_range]
  obtain ⟨g1, g2⟩ := hexL_get t i h2
  have hx : t.getD i 0 = t[i] := by simp [List.getD, h2]
  rw [hx] at g1 g2
  have := (t[i]).toNat_lt
  apply UInt8.toNat_inj.1
  unfold byAt
  rw [g1, g2, dv_dig (by omega), dv_dig (by omega)]
  simp only [Int.toNat_natCast, UInt8.toNat_ofNat']
  omega
end Go.Proofs.YtlomjmdgcpjepaaGreatDoor
namespace Go.Vx
open Go
set_option linter.all false
variable [W0]
section
variable {P : Program} {n : Nat} {M : List (Nat × Value)} {L : List Chunk} {K : List (Nat × Value) → List Chunk → Prop}
variable {d : Nat} {ty : TypeId} {ps : String} {af : Array Edge} {g : Option (Nat × Bool)} {x y : Operand} {v : Value}
theorem OW_rangeS {t : TypeId} [hst : ST P t] {s : ByteArray} (hx : ev M x = some (.string s)) (hn : Nat.blt d n = true) (h : ∀ b, K ((d, .pointer (some ⟨b, 0, none⟩)) :: M) ([(b, .stringIter s 0)] :: L)) :
    OW P n ⟨some d, .range t x, ty, ps, af, g⟩ K M L :=
  OW_newval (f := fun b => .pointer (some ⟨b, 0, none⟩)) rfl hn (fun a w ha hw => by
    simp [execOp, Instr.range, ha.eval hx, underlying, hst.out, newObj, Sem.run, Result.andThen]) h
theorem OW_nextS {b pos : Nat} {s : ByteArray} {L' : List Chunk} (hx : ev M x = some (.pointer (some ⟨b, 0, none⟩))) (hp : pos < s.size) (hu : Upd L b (.stringIter s pos) (.stringIter s (pos + (Utf8.decode s pos).2)) L') (hn : Nat.blt d n = true)
    (h : K ((d, .tuple #[.bool true, .int .i64 (pos : Int), .int .i32 ((Utf8.decode s pos).1 : Int)]) :: M) L') :
    OW P n ⟨some d, .next x true, ty, ps, af, g⟩ K M L := ⟨fun a w nx Q ha hw hk => by
  have hb := hu.fnd.get hw
  have hlt : b < w.heap.size := (Array.getElem?_eq_some_iff.1 hb).1
  have hrun : (execOp a.eval ⟨some d, .next x true, ty, ps, af, g⟩).run P w = .ok (.value (.tuple #[.bool true, .int .i64 (pos : Int), .int .i32 ((Utf8.decode s pos).1 : Int)])) { w with heap := w.heap.setIfInBounds b (.stringIter s (pos + (Utf8.decode s pos).2)) } := by
    simp [execOp, ha.eval hx, Instr.next, getObj, setObj, Sem.run, hb, hp, goInt]
  unfold Oper.wp
  rw [hrun, Oper.upon_value]
  refine (hk _ _ h).out _ _ (ha.put _ hn) (hw.upd hu ?_ ?_ rfl rfl)
  · simp [hlt]
  · intro c hc; simp [Ne.symm hc]⟩
theorem EV_endS {b pos : Nat} {s : ByteArray} (hx : ev M x = some (.pointer (some ⟨b, 0, none⟩))) (hf : Fnd L b (.stringIter s pos)) (hp : ¬ pos < s.size) :
    EV P n ⟨some d, .next x true, ty, ps, af, g⟩ M L d (.tuple #[.bool false]) :=
  ⟨rfl, fun a w ha hw => by
    have hb := hf.get hw
    simp [execOp, ha.eval hx, Instr.next, getObj, Sem.run, hb, hp]⟩
end
end Go.Vx
namespace Go.Ob
open Go Go.Lib Go.Vx
set_option linter.all false
set_option maxRecDepth 4000
def sCommit : List UInt8 := [99, 111, 109, 109, 105, 116]
def sTree : List UInt8 := [116, 114, 101, 101]
def sBlob : List UInt8 := [98, 108, 111, 98]
def sTag : List UInt8 := [116, 97, 103]
def mFile : List UInt8 := [49, 48, 48, 54, 52, 52]
def mProg : List UInt8 := [49, 48, 48, 55, 53, 53]
def mLink : List UInt8 := [49, 50, 48, 48, 48, 48]
def mDir : List UInt8 := [52, 48, 48, 48, 48]
def mMod : List UInt8 := [49, 54, 48, 48, 48, 48]
def sGit : List UInt8 := [46, 103, 105, 116]
open Go.Proofs.YtlomjmdgcpjepaaGreatDoor
def nmL : Nat → List UInt8
  | 1 => sCommit
  | 2 => sTree
  | 3 => sBlob
  | 4 => sTag
  | _ => []
def nmI (k : Int) : List UInt8 := if 1 ≤ k ∧ k ≤ 4 then nmL k.toNat else []
def kdL (s : List UInt8) : Nat := if s = sCommit then 1 else if s = sTree then 2 else if s = sBlob then 3 else if s = sTag then 4 else 0
def dgF : Nat → Nat → List UInt8
  | 0, _ => []
  | f + 1, n => if n < 10 then [UInt8.ofNat (48 + n)] else dgF f (n / 10) ++ [UInt8.ofNat (48 + n % 10)]
def dgL (n : Nat) : List UInt8 := dgF 20 n
def hdL (k size : Int) : List UInt8 := nmI k ++ [32] ++ dgL (max size 0).toNat ++ [0]
def idL (k : Int) (body : List UInt8) : List UInt8 := hexL (shaN (hdL k (body.length : Int) ++ body))
def hshB (s : List UInt8) : Bool := decide (s.length = 40) && unB s
def zrL : List UInt8 := List.replicate 40 48
def rawL (s : List UInt8) : List UInt8 := if hshB s then unL s else List.replicate 20 0
def inP (c : Nat) : Bool := decide (c ≠ 60) && decide (c ≠ 62) && decide (c ≠ 10) && decide (c ≠ 0)
def inN (c : Nat) : Bool := decide (c ≠ 47) && decide (c ≠ 0)
def inD (c : Nat) : Bool := decide (48 ≤ c) && decide (c ≤ 57)
def cutN (c : UInt8) : List UInt8 → List UInt8 × List UInt8
  | [] => ([], [])
  | x :: t => if x = c then ([], t) else (x :: (cutN c t).1, (cutN c t).2)
def cutT (a b : UInt8) : List UInt8 → List UInt8 × List UInt8
  | [] => ([], [])
  | x :: t => if x = a ∧ t.head? = some b then ([], t.tail) else (x :: (cutT a b t).1, (cutT a b t).2)
def timB (s : List UInt8) : Bool := decide (s ≠ []) && decide (s.length ≤ 12) && (decide (s.length ≤ 1) || decide (s.getD 0 0 ≠ 48)) && s.all (fun b => inD b.toNat)
def zonB (s : List UInt8) : Bool := decide (s.length = 5) && (decide (s.getD 0 0 = 43) || decide (s.getD 0 0 = 45)) && (s.drop 1).all (fun b => inD b.toNat)
def perB (s : List UInt8) : Bool :=
  let p1 := cutT 32 60 s
  let p2 := cutT 62 32 p1.2
  let p3 := cutN 32 p2.2
  consB inP p1.1 && consB inP p2.1 && timB p3.1 && zonB p3.2
structure Et where
  m : List UInt8
  n : List UInt8
  i : List UInt8
def modB (m : List UInt8) : Bool := decide (m = mFile) || decide (m = mProg) || decide (m = mLink) || decide (m = mDir) || decide (m = mMod)
def keyL (m n : List UInt8) : List UInt8 := if m = mDir then n ++ [47] else n
def lesE (x y : Et) : Bool := Op.bytesLess (keyL x.m x.n) (keyL y.m y.n)
def prE (x : Et) : List UInt8 := x.m ++ [32] ++ x.n ++ [0] ++ rawL x.i
def prT : List Et → List UInt8
  | [] => []
  | x :: r => prE x ++ prT r
theorem prT_app : ∀ a b : List Et, prT (a ++ b) = prT a ++ prT b
  | [], b => rfl
  | x :: r, b => by simp [prT, prT_app r b]
def rdT : Nat → List UInt8 → List Et
  | 0, _ => []
  | f + 1, s => if s = [] then [] else
    ⟨(cutN 32 s).1, (cutN 0 (cutN 32 s).2).1, hexL ((cutN 0 (cutN 32 s).2).2.take 20)⟩ :: rdT f ((cutN 0 (cutN 32 s).2).2.drop 20)
end Go.Ob
namespace Go.Ob
open Go Go.Lib Go.Vx
set_option linter.all false
set_option maxRecDepth 4000
theorem cutN_spec (c : UInt8) : ∀ s : List UInt8, (c ∉ s ∧ cutN c s = (s, [])) ∨ ∃ a t, c ∉ a ∧ s = a ++ c :: t ∧ cutN c s = (a, t)
  | [] => .inl ⟨by simp, rfl⟩
  | x :: s => by
    unfold cutN
    by_cases hx : x = c
    · subst hx
      exact .inr ⟨[], s, by simp, rfl, by rw [if_pos rfl]⟩
    · rw [if_neg hx]
      rcases cutN_spec c s with ⟨h1, h2⟩ | ⟨a, t, h1, h2, h3⟩
      · exact .inl ⟨by simp [h1, Ne.symm hx], by rw [h2]⟩
      · exact .inr ⟨x :: a, t, by simp [h1, Ne.symm hx], by rw [h2]; rfl, by rw [h3]⟩
theorem cutN_app (c : UInt8) (t : List UInt8) : ∀ a : List UInt8, c ∉ a → cutN c (a ++ c :: t) = (a, t)
  | [], _ => by simp [cutN]
  | x :: a, h => by
    simp only [List.mem_cons, not_or] at h
    simp only [List.cons_append, cutN]
    rw [if_neg (Ne.symm h.1), cutN_app c t a h.2]
theorem cutN_len (c : UInt8) (s : List UInt8) : (cutN c s).2.length ≤ s.length - 1 := by
  rcases cutN_spec c s with ⟨h1, h2⟩ | ⟨a, t, h1, h2, h3⟩
  · rw [h2]; simp
  · rw [h3, h2]; simp only [List.length_append, List.length_cons]; omega
theorem cutT_spec (a b : UInt8) : ∀ s : List UInt8, cutT a b s = (s, []) ∨ ∃ x t, s = x ++ a :: b :: t ∧ cutT a b s = (x, t)
  | [] => .inl rfl
  | x :: s => by
    unfold cutT
    by_cases hx : x = a ∧ s.head? = some b
    · rw [if_pos hx]
      obtain ⟨rfl, hx⟩ := hx
      cases s with
      | nil => simp at hx
      | cons y s =>
        simp only [List.head?_cons, Option.some.injEq] at hx
        subst hx
        exact .inr ⟨[], s, rfl, rfl⟩
    · rw [if_neg hx]
      rcases cutT_spec a b s with h | ⟨y, t, h1, h2⟩
      · left; rw [h]
      · exact .inr ⟨x :: y, t, by rw [h1]; rfl, by rw [h2]⟩
theorem inD_lo (c : Nat) (h : 128 ≤ c) : inD c = false := by unfold inD; simp; omega
end Go.Ob
namespace Go.Vx
open Go Go.Lib Go.RowKit
set_option linter.all false
variable [W0]
omit [W0] in
/-- A slice of bytes of the call's own: none, or a row that may bear a mark. -/
def OwG (e : Nat) (v : Value) (m : Nat) (xs : List Value) (C : Chunk) : Prop := (v = .slice none 0 0 ∧ m = 0 ∧ xs = [] ∧ C = []) ∨ OwF e 1 v m xs C
theorem OwG.nil {e : Nat} : OwG e (.slice none 0 0) 0 [] [] := .inl ⟨rfl, rfl, rfl, rfl⟩
theorem OwG.f {e m : Nat} {v : Value} {xs : List Value} {C : Chunk} (h : OwF e 1 v m xs C) : OwG e v m xs C := .inr h
theorem OwG.ow {e m : Nat} {v : Value} {xs : List Value} {C : Chunk} (h : Ow e 1 v m xs C) : OwG e v m xs C := by
  rcases h with h | ⟨b, cap, rest, rfl, rfl, h1, h2, h3, h4⟩
  · exact .inl h
  · exact .inr ⟨b, cap, rest, (0, 0), rfl, rfl, h1, h2, h3, h4, FrOk.zero _⟩
theorem OwG.sl {e m : Nat} {v : Value} {xs : List Value} {C : Chunk} {L : List Chunk} (h : OwG e v m xs C) : Sl (C :: L) 1 v m xs := by
  rcases h with ⟨rfl, rfl, rfl, rfl⟩ | h
  · exact .inl ⟨0, rfl, rfl, rfl⟩
  · exact owf_sl h
theorem OwG.room {e m : Nat} {v : Value} {xs : List Value} {C : Chunk} (h : OwG e v m xs C) : ∃ a c, v = .slice a m c ∧ m ≤ c := by
  rcases h with ⟨rfl, rfl, rfl, rfl⟩ | ⟨b, cap, rest, fr, rfl, rfl, h1, h2, h3, h4, _⟩
  · exact ⟨_, _, rfl, Nat.le_refl _⟩
  · exact ⟨_, _, rfl, h3⟩
theorem OwG.len {e m : Nat} {v : Value} {xs : List Value} {C : Chunk} (h : OwG e v m xs C) : xs.length = m := by
  rcases h with ⟨rfl, rfl, rfl, rfl⟩ | ⟨b, cap, rest, fr, rfl, rfl, h1, h2, h3, h4, _⟩
  · rfl
  · simpa using h1
section
variable {P : Program} {n : Nat} {M : List (Nat × Value)} {L : List Chunk} {K : List (Nat × Value) → List Chunk → Prop}
variable {d : Nat} {ty : TypeId} {ps : String} {af : Array Edge} {g : Option (Nat × Bool)} {x y : Operand} {v : Value}
theorem OW_appG {t e by_ : Nat} [hs : SL P t e 1 by_] {z : Value} [hz : ZV P e z] {v r : Value} {m c : Nat} {xs ys : List Value} {C : Chunk} {A B : List Chunk} (hx : ev M x = some v) (hy : ev M y = some r) (hown : OwG e v m xs C)
    (hsl : Sl L 1 r c ys) (hzip : Zip C L A B) (hzk : z.cells.size = 1) (h1 : ones ys = true) (hb : (m + c) * by_ ≤ 140737488355328) (h63 : m + c ≤ maxLen)
    (hn : Nat.blt d n = true) (h : ∀ v' C', OwG e v' (m + c) (xs ++ ys) C' → K ((d, v') :: M) (A ++ C' :: B)) :
    OW P n ⟨some d, .call ⟨.builtin .append, #[x, y], #[t, t]⟩, ty, ps, af, g⟩ K M L := by
  rcases hown with ⟨rfl, rfl, rfl, rfl⟩ | hown
  · exact OW_append hx hy (.inl ⟨rfl, rfl, rfl, rfl⟩) hsl hzip hzk h1 hb h63 hn (fun v' C' ho _ _ => h v' C' (OwG.ow ho))
  · exact OW_appendF hx hy hown hsl hzip hzk h1 hb h63 hn (fun v' C' ho => h v' C' (.inr ho))
omit [W0] in
theorem strCells_bsv (q : ByteArray) : strCells q = bsv q.data.toList := rfl
theorem OW_appGS {t s e by_ : Nat} [hs : SL P t e 1 by_] [hst : ST P s] [hz : ZV P e (.int .u8 0)] {v : Value} {m : Nat} {xs : List Value} {C : Chunk} {A B : List Chunk} {q : ByteArray} (hx : ev M x = some v) (hy : ev M y = some (.string q)) (hown : OwG e v m xs C)
    (hzip : Zip C L A B) (hb : (m + q.size) * by_ ≤ 140737488355328) (h63 : m + q.size ≤ maxLen)
    (hn : Nat.blt d n = true) (h : ∀ v' C', OwG e v' (m + q.size) (xs ++ bsv q.data.toList) C' → K ((d, v') :: M) (A ++ C' :: B)) :
    OW P n ⟨some d, .call ⟨.builtin .append, #[x, y], #[t, s]⟩, ty, ps, af, g⟩ K M L := ⟨fun a w next Q ha hw0 hk => by
  have hL := hzip.eq
  subst hL
  have hw := hw0.perm List.perm_middle
  obtain ⟨ht, i, hi, hik, hib, hk0⟩ := hs.parts
  have hu := hst.out
  have hzz : i.zero = some (.int .u8 0) := by have := hz.out; rw [hi] at this; simpa using this
  subst hib
  have hsmall : m + q.size ≤ 9223372036854775807 := by simpa [maxLen] using h63
  have main : ∃ v' C' w', (Builtin.append_ #[t, s] ty #[v, .string q]).run P w = .ok v' w' ∧ OwG e v' (m + q.size) (xs ++ bsv q.data.toList) C' ∧ Holds w' (C' :: (A ++ B)) := by
    rcases hown with ⟨rfl, rfl, rfl, rfl⟩ | ⟨b, cap, rest, fr, rfl, rfl, hxl, hrl, hmc, hcm, hfr⟩
    · by_cases hm : q.size = 0
      · have hn : strCells q = [] := List.eq_nil_of_length_eq_zero (by rw [strCells_length]; exact hm)
        refine ⟨.slice none 0 0, [], w, ?_, ?_, hw⟩
        · have hf := run_firstCells_string (P := P) w 1 q
          rw [hm] at hf
          simp [Builtin.append_, run_underlying ht, run_underlying hu, sizeOf, typeInfo, hi, hik, Builtin.lenOf, hm, hf]
        · rw [← strCells_bsv, hn, hm]; exact OwG.nil
      · have hr := run_append_nil_string (P := P) w t s ty e i (.int .u8 0) ht hu hi hzz q (by omega) (by omega) (by have h2 := hb; simp only [Nat.zero_add] at h2; omega)
        have e0 : (q.data.map fun b => Value.int .u8 b.toNat) = (strCells q).toArray := by
          apply Array.ext'
          simp [strCells]
        rw [e0] at hr
        refine ⟨_, [(w.heap.size, .cells (bsv q.data.toList ++ (Builtin.zeroCells (Value.int .u8 0).cells (grownCap w q.size 0 e - q.size)).toList).toArray e (0, 0))], _, hr, .inr ⟨w.heap.size, grownCap w q.size 0 e, (Builtin.zeroCells (Value.int .u8 0).cells (grownCap w q.size 0 e - q.size)).toList, (0, 0), by rw [Nat.zero_add], rfl, ?_, ?_, ?_, grownCap_le_maxLen w q.size 0 e (by omega), FrOk.zero _⟩, ?_⟩
        · rw [List.nil_append, ← strCells_bsv, strCells_length]; omega
        · simp [size_zeroCells, Value.cells]
        · rw [Nat.zero_add]; exact grownCap_ge w q.size 0 e
        · have h0 := (hw.drop.same (w' := w.drew) rfl rfl rfl).alloc (.cells ((strCells q).toArray ++ Builtin.zeroCells (Value.int .u8 0).cells (grownCap w q.size 0 e - q.size)) e)
          have e1 : (bsv q.data.toList ++ (Builtin.zeroCells (Value.int .u8 0).cells (grownCap w q.size 0 e - q.size)).toList).toArray = (strCells q).toArray ++ Builtin.zeroCells (Value.int .u8 0).cells (grownCap w q.size 0 e - q.size) := by
            apply Array.ext'; simp [strCells_bsv]
          rw [e1]; exact h0
    · have hfnd : w.heap[b]? = some (.cells (xs ++ rest).toArray e fr) := (Fnd.here : Fnd ([(b, .cells (xs ++ rest).toArray e fr)] :: (A ++ B)) b _).get hw
      by_cases hroom : m + q.size ≤ cap
      · have hxl' : xs.length = m := by simpa using hxl
        have hrl' : rest.length = cap - m := by simpa using hrl
        have hlen : m + (strCells q).length ≤ (xs ++ rest).length := by
          simp only [List.length_append, hxl', hrl', strCells_length]; omega
        have hf := run_firstCells_string (P := P) w 1 q
        have hst := run_storeCells_cells (P := P) b m (strCells q) 0 w
          (fun j hj => by rw [cell_of hfnd]; simp; simp at hlen; omega)
          (fun j hj => by
            have := hfr (m + 0 + j) (by omega)
            simp only [World.frozen?, hfnd]
            cases hd : (decide (fr.1 ≤ m + 0 + j) && decide (m + 0 + j < fr.2)) with
            | false => simpa using hd
            | true => simp at hd; exact absurd (by simpa using hd) this)
          (strCells_oneCell q)
        simp only [Nat.add_zero] at hst
        have hr : (Builtin.append_ #[t, s] ty #[.slice (some ⟨b, 0, none⟩) m cap, .string q]).run P w = .ok (.slice (some ⟨b, 0, none⟩) (m + q.size) cap) (w.setCells b m (strCells q)) := by
          simp [Builtin.append_, run_underlying ht, run_underlying hu, sizeOf, typeInfo, hi, hik, Builtin.lenOf, hroom, hf, Addr.add_lit, hst]
        have hx1 : patch (xs ++ rest).toArray.toList m (strCells q) = (xs ++ bsv q.data.toList) ++ rest.drop (strCells q).length := by
          simp only [List.toList_toArray, patch]
          rw [← hxl', List.take_left]
          congr 1
          rw [List.drop_append]
          simp
        have hat := setCells_at (T := e) (fr := fr) (strCells q) m _ w hfnd (by simpa using hlen)
        rw [hx1] at hat
        refine ⟨_, [(b, .cells ((xs ++ bsv q.data.toList) ++ rest.drop (strCells q).length).toArray e fr)], _, hr, .inr ⟨b, cap, rest.drop (strCells q).length, fr, rfl, rfl, ?_, ?_, hroom, hcm, ?_⟩, ?_⟩
        · rw [List.length_append, hxl', ← strCells_bsv, strCells_length]; omega
        · rw [List.length_drop, hrl', strCells_length]; omega
        · intro j hj
          refine hfr j ?_
          simp only [List.length_append, List.length_drop, ← strCells_bsv] at hj hlen ⊢
          omega
        · exact hw.upd .here hat (fun q hq => setCells_ne _ _ _ _ hq) (setCells_out _ _ _).1 (setCells_out _ _ _).2
      · have hrd0 : RdAt ([(b, .cells (xs ++ rest).toArray e fr)] :: (A ++ B)) ⟨b, 0, none⟩ xs := .inr ⟨b, 0, _, _, _, rfl, .here, fun j u hj => by rw [Nat.zero_add]; simpa using getE_app hj⟩
        have hr := run_append_grow_string (P := P) w t s ty e i (.int .u8 0) ht hu hi hzz ⟨b, 0, none⟩ m cap xs (by rw [hik]; exact hxl) (hrd0.cells hw) q (by omega) (by omega) (growslice_fits (by omega) hb)
        refine ⟨_, [(w.heap.size, .cells ((xs ++ bsv q.data.toList) ++ (Builtin.zeroCells (Value.int .u8 0).cells (grownCap w (m + q.size) cap e - (m + q.size))).toList).toArray e (0, 0))], _, hr, .inr ⟨w.heap.size, _, _, (0, 0), rfl, rfl, ?_, ?_, grownCap_ge w (m + q.size) cap e, grownCap_le_maxLen w (m + q.size) cap e h63, FrOk.zero _⟩, ?_⟩
        · have hxl' : xs.length = m := by simpa using hxl
          rw [List.length_append, hxl', ← strCells_bsv, strCells_length]; omega
        · simp [size_zeroCells, Value.cells]
        · have h0 := (hw.drop.same (w' := w.drew) rfl rfl rfl).alloc (.cells (xs.toArray ++ (strCells q).toArray ++ Builtin.zeroCells (Value.int .u8 0).cells (grownCap w (m + q.size) cap e - (m + q.size))) e)
          have e1 : (xs ++ bsv q.data.toList ++ (Builtin.zeroCells (Value.int .u8 0).cells (grownCap w (m + q.size) cap e - (m + q.size))).toList).toArray = xs.toArray ++ (strCells q).toArray ++ Builtin.zeroCells (Value.int .u8 0).cells (grownCap w (m + q.size) cap e - (m + q.size)) := by
            apply Array.ext'; simp [strCells_bsv]
          rw [e1]; exact h0
  obtain ⟨v', C', w', hr, ho, hw'⟩ := main
  unfold Oper.wp
  have hrun : (execOp a.eval ⟨some d, .call ⟨.builtin .append, #[x, y], #[t, s]⟩, ty, ps, af, g⟩).run P w = .ok (.value v') w' := by
    simp only [execOp, resolve, invoke, builtin, Sem.run_bind, Sem.run_pure, Result.andThen_ok, List.map_toArray, List.map_cons, List.map_nil, ha.eval hx, ha.eval hy, hr]
  rw [hrun, Oper.upon_value]
  exact (hk _ _ (h v' C' ho)).out _ _ (ha.put v' hn) (hw'.perm List.perm_middle.symm)⟩
end
end Go.Vx
namespace Go.Ob
open Go Go.Vx Go.Proofs.YtlomjmdgcpjepaaGreatDoor Go.Lib
set_option linter.all false
variable [W0]
theorem str_app (a b : List UInt8) : str a ++ str b = str (a ++ b) := by
  apply ByteArray.ext
  simp [str]
theorem str_inj {a b : List UInt8} : str a = str b ↔ a = b := by
  constructor
  · intro h
    have := congrArg (fun s => s.data.toList) h
    simpa [str] using this
  · rintro rfl; rfl
theorem str_ext (t : List UInt8) (l h : Nat) : (str t).extract l h = str ((t.drop l).take (h - l)) := by
  apply ByteArray.ext
  apply Array.ext'
  simp [str, List.drop_take]
theorem str_tl (t : List UInt8) : (str t).toList = t := by rw [ByteArray.toList_eq]; rfl
theorem str_dec (t : List UInt8) (pos : Nat) : Utf8.decode (str t) pos = decodeL (t.drop pos) := (decodeL_drop (str t) pos).symm
section
variable {P : Program} {n : Nat} {M : List (Nat × Value)} {L : List Chunk} {K : List (Nat × Value) → List Chunk → Prop}
variable {d : Nat} {ty : TypeId} {ps : String} {af : Array Edge} {g : Option (Nat × Bool)} {x y : Operand} {v : Value}
theorem EV_catL (a b : List UInt8) {t u : TypeId} (hx : ev M x = some (.string (str a))) (hy : ev M y = some (.string (str b))) (hs : a.length + b.length ≤ 9223372036854775807) :
    EV P n ⟨some d, .binOp .add t x y u, ty, ps, af, g⟩ M L d (.string (str (a ++ b))) := by
  have := EV_strCat (P := P) (n := n) (M := M) (L := L) (d := d) (ty := ty) (ps := ps) (af := af) (g := g) (t := t) (u := u) hx hy (by simpa [str_size] using hs)
  rw [str_app] at this
  exact this
theorem EV_eqL (a b : List UInt8) {t u : TypeId} (hx : ev M x = some (.string (str a))) (hy : ev M y = some (.string (str b))) :
    EV P n ⟨some d, .binOp .eql t x y u, ty, ps, af, g⟩ M L d (.bool (decide (a = b))) := by
  have := EV_strEq (P := P) (n := n) (M := M) (L := L) (d := d) (ty := ty) (ps := ps) (af := af) (g := g) (t := t) (u := u) hx hy
  simpa only [str_inj] using this
theorem EV_ltL (a b : List UInt8) {t u : TypeId} (hx : ev M x = some (.string (str a))) (hy : ev M y = some (.string (str b))) :
    EV P n ⟨some d, .binOp .lss t x y u, ty, ps, af, g⟩ M L d (.bool (Op.bytesLess a b)) := by
  have := EV_strLt (P := P) (n := n) (M := M) (L := L) (d := d) (ty := ty) (ps := ps) (af := af) (g := g) (t := t) (u := u) hx hy
  simpa only [str_tl] using this
theorem EV_cutL (t : List UInt8) (l h : Nat) {T : Nat} [hs : ST P T] {lo hi : Option Operand} (hx : ev M x = some (.string (str t))) (hl : bnd M lo 0 = some (l : Int)) (hh : bnd M hi t.length = some (h : Int))
    (h1 : l ≤ h) (h2 : h ≤ t.length) : EV P n ⟨some d, .slice T x lo hi none, ty, ps, af, g⟩ M L d (.string (str ((t.drop l).take (h - l)))) := by
  have := EV_sliceStr (P := P) (n := n) (M := M) (L := L) (d := d) (ty := ty) (ps := ps) (af := af) (g := g) (T := T) hx hl hh h1 h2
  rw [str_ext] at this
  exact this
end
omit [W0] in
theorem kdL_hit {k : Nat} (h1 : 1 ≤ k) (h2 : k ≤ 4) : kdL (nmL k) = k := by
  match k, h1, h2 with
  | 1, _, _ => decide
  | 2, _, _ => decide
  | 3, _, _ => decide
  | 4, _, _ => decide
omit [W0] in
theorem kdL_miss {s : List UInt8} (h : ∀ j, 1 ≤ j → j ≤ 4 → nmL j ≠ s) : kdL s = 0 := by
  have h1 := h 1 (by decide) (by decide)
  have h2 := h 2 (by decide) (by decide)
  have h3 := h 3 (by decide) (by decide)
  have h4 := h 4 (by decide) (by decide)
  unfold kdL
  exact (if_neg (Ne.symm h1)).trans ((if_neg (Ne.symm h2)).trans ((if_neg (Ne.symm h3)).trans (if_neg (Ne.symm h4))))
omit [W0] in
theorem nmI_nat {k : Nat} (h1 : 1 ≤ k) (h2 : k ≤ 4) : nmI (k : Int) = nmL k := by
  unfold nmI
  rw [if_pos (by omega)]
  rfl
omit [W0] in
theorem nmI_no {k : Int} (h : ¬ (1 ≤ k ∧ k ≤ 4)) : nmI k = [] := if_neg h
omit [W0] in
theorem nmI_len (k : Int) : (nmI k).length ≤ 6 := by
  unfold nmI
  split
  · rename_i h
    obtain ⟨n, rfl⟩ : ∃ n : Nat, k = n := ⟨k.toNat, by omega⟩
    match n, h with
    | 1, _ => decide
    | 2, _ => decide
    | 3, _ => decide
    | 4, _ => decide
    | 0, h => exact absurd h.1 (by decide)
    | n + 5, h => omega
  · exact Nat.zero_le _
end Go.Ob
namespace Go.Proofs.YtlomjmdgcpjepaaGreatDoor
open Go Go.Vx Go.Ob
set_option linter.all false
variable [W0]
set_option maxRecDepth 4000
theorem obname_n (k : Int) (L : List Chunk) : GvP Tryz.prog 56 [.int .i64 k].toArray L (.string (str (nmI k))) := by
  refine Gv.of_body Tryz.func56 rfl rfl ?_
  (repeat' first|refine kW ?_|refine kU fun bk=>?_|refine kV fun hc=>?_|refine kZ (fun hc=>?_) fun hc=>?_|fail)
  · subst hc; exact kE
  · subst hc; exact kE
  · subst hc; exact kE
  · subst hc; exact kE
  · refine kR ?_
    exact ⟨_, iC, by rw [nmI_no (by omega)]; rfl, rfl⟩
theorem obkind_n (s : List UInt8) (L : List Chunk) : GvP Tryz.prog 44 [.string (str s)].toArray L (.tuple #[.int .i64 (kdL s : Int), .bool (decide (kdL s ≠ 0))]) := by
  refine Gv.of_body Tryz.func44 rfl rfl ?_
  (repeat' first|refine kW ?_|refine kU fun bk=>?_|refine kV fun hc=>?_|refine kZ (fun hc=>?_) fun hc=>?_|fail)
  refine WC_loop (X := Nat) (fun k => [(0, .string (str s)), (4, .int .i64 (k : Int))]) (fun _ => L) (fun k => 1 ≤ k ∧ k ≤ 5 ∧ ∀ j, 1 ≤ j → j < k → nmL j ≠ s) (fun k => 5 - k) 1 ⟨by omega, by omega, fun j h1 h2 => by omega⟩ iS (fun w h => h) ?_
  intro k ⟨h1, h2, h3⟩
  (repeat' first|refine kW ?_|refine kU fun bk=>?_|refine kV fun hc=>?_|refine kZ (fun hc=>?_) fun hc=>?_|fail)
  · refine OW_callP rfl rfl rfl (obname_n _ _) rfl ?_
    rw [nmI_nat h1 (by omega)]
    (repeat' first|refine kW ?_|refine kU fun bk=>?_|refine kV fun hc=>?_|refine kZ (fun hc=>?_) fun hc=>?_|fail)
    (repeat' first|refine kW ?_|refine kU fun bk=>?_|refine kV fun hc=>?_|refine kZ (fun hc=>?_) fun hc=>?_|fail)
    · have hc := str_inj.1 hc
      refine kR ?_
      refine ⟨_, iC, ?_, rfl⟩
      rw [← hc, kdL_hit h1 (by omega), decide_eq_true (by omega)]
      rfl
    · refine WQ_round (X := Nat) (μ := fun k => 5 - k) (x := k) (k + 1) (by omega) ⟨by omega, by omega, fun j g1 g2 => ?_⟩ iS (fun w h => h)
      rcases Nat.lt_or_ge j k with h | h
      · exact h3 j g1 h
      · rw [show j = k from by omega]; exact fun hh => hc (str_inj.2 hh)
  · refine kR ?_
    refine ⟨_, iC, ?_, rfl⟩
    rw [kdL_miss (fun j g1 g2 => h3 j g1 (by omega))]
    rfl
theorem sortname_n (m n i : List UInt8) (L : List Chunk) (hn : n.length ≤ 1000000000000000) : GvP Tryz.prog 45 [.agg #[.string (str m), .string (str n), .string (str i)]].toArray L (.string (str (keyL m n))) := by
  refine Gv.of_body (args := [.agg #[.string (str m), .string (str n), .string (str i)]]) Tryz.func45 rfl rfl ?_
  (repeat' first|refine kW ?_|refine kU fun bk=>?_|refine kV fun hc=>?_|refine kZ (fun hc=>?_) fun hc=>?_|fail)
  · have hc : m = mDir := str_inj.1 hc
    refine OW_EV (EV_catL n [47] rfl rfl (by simp; omega)) rfl ?_
    (repeat' first|refine kW ?_|refine kU fun bk=>?_|refine kV fun hc=>?_|refine kZ (fun hc=>?_) fun hc=>?_|fail)
    refine kR ?_
    exact ⟨_, iC, by rw [keyL, if_pos hc]; rfl, rfl⟩
  · have hc : ¬ m = mDir := fun h => hc (str_inj.2 h)
    refine kR ?_
    exact ⟨_, iC, by rw [keyL, if_neg hc]; rfl, rfl⟩
omit [W0] in
/-- An entry as a value. -/
def etV (x : Et) : Value := .agg #[.string (str x.m), .string (str x.n), .string (str x.i)]
theorem less_n (x y : Et) (L : List Chunk) (hx : x.n.length ≤ 1000000000000000) (hy : y.n.length ≤ 1000000000000000) : GvP Tryz.prog 17 [etV x, etV y].toArray L (.bool (lesE x y)) := by
  refine Gv.of_body (args := [etV x, etV y]) Tryz.func17 rfl rfl ?_
  unfold etV
  (repeat' first|refine kW ?_|refine kU fun bk=>?_|refine kV fun hc=>?_|refine kZ (fun hc=>?_) fun hc=>?_|fail)
  rename_i q
  refine WC_drawAll [5] mixed ?_
  (refine WR_t 0 ?_; refine WR_t 2 ?_)
  (refine WR_one 1 (by kernel_rfl) rfl rfl ?_)
  refine OW_callP rfl rfl rfl (sortname_n x.m x.n x.i _ hx) rfl ?_
  refine ⟨iC, ?_⟩
  (refine WR_one 3 (by kernel_rfl) rfl rfl ?_)
  refine OW_callP rfl rfl rfl (sortname_n y.m y.n y.i _ hy) rfl ?_
  refine ⟨iC, ?_⟩
  (refine WR_take 4 rfl rfl (by kernel_rfl) iP iC (EV_ltL (keyL x.m x.n) (keyL y.m y.n) rfl rfl) (by rfl) ?_)
  (refine WR_t 5 ?_)
  (refine WR_done (by kernel_rfl) ?_)
  (repeat' first|refine kW ?_|refine kU fun bk=>?_|refine kV fun hc=>?_|refine kZ (fun hc=>?_) fun hc=>?_|fail)
  exact kE
end Go.Proofs.YtlomjmdgcpjepaaGreatDoor
namespace Go.Proofs.YtlomjmdgcpjepaaGreatDoor
open Go Go.Shelf Go.Proofs
set_option linter.all false
set_option maxRecDepth 100000
def sh_v_ren : Go.Shelf.Ren :=
  {
    f := fun x =>
      match x with
      | 196 => 67
      | 259 => 88
      | n => n,
    t := fun x =>
      match x with
      | 9 => 9
      | 4 => 4
      | 3 => 3
      | 5 => 5
      | 12 => 12
      | 119 => 121
      | 0 => 0
      | 46 => 93
      | 139 => 124
      | 138 => 123
      | 53 => 100
      | n => n,
    g := fun x =>
      match x with
      | 3 => 0
      | 4 => 1
      | n => n }
theorem sh_v : Go.Proofs.Lays.n196 Go.Proofs.Tryz.prog sh_v_ren :=
  { mixed := by kernel_rfl,
    f196 := Eq.trans Go.Proofs.Tryz.func67 (congrArg Option.some (Eq.refl (Go.Proofs.Body.n196 sh_v_ren))),
    f259 := Eq.trans Go.Proofs.Tryz.func88 (congrArg Option.some (Eq.refl (Go.Proofs.Body.n259 sh_v_ren))),
    t0 := Go.Proofs.Tryz.underlying0, a0 := Go.Proofs.Tryz.isAgg0, z0 := Go.Proofs.Tryz.sizeOf0,
    v0 := Go.Proofs.Tryz.zeroValue0, t3 := Go.Proofs.Tryz.underlying3, a3 := Go.Proofs.Tryz.isAgg3,
    z3 := Go.Proofs.Tryz.sizeOf3, v3 := Go.Proofs.Tryz.zeroValue3, t4 := Go.Proofs.Tryz.underlying4,
    a4 := Go.Proofs.Tryz.isAgg4, z4 := Go.Proofs.Tryz.sizeOf4, v4 := Go.Proofs.Tryz.zeroValue4,
    t5 := Go.Proofs.Tryz.underlying5, a5 := Go.Proofs.Tryz.isAgg5, z5 := Go.Proofs.Tryz.sizeOf5,
    v5 := Go.Proofs.Tryz.zeroValue5, t9 := Go.Proofs.Tryz.underlying9, a9 := Go.Proofs.Tryz.isAgg9,
    z9 := Go.Proofs.Tryz.sizeOf9, v9 := Go.Proofs.Tryz.zeroValue9, t12 := Go.Proofs.Tryz.underlying12,
    a12 := Go.Proofs.Tryz.isAgg12, z12 := Go.Proofs.Tryz.sizeOf12, v12 := Go.Proofs.Tryz.zeroValue12,
    t46 := Go.Proofs.Tryz.underlying93, a46 := Go.Proofs.Tryz.isAgg93, z46 := Go.Proofs.Tryz.sizeOf93,
    v46 := Go.Proofs.Tryz.zeroValue93, t53 := Go.Proofs.Tryz.underlying100, a53 := Go.Proofs.Tryz.isAgg100,
    z53 := Go.Proofs.Tryz.sizeOf100, v53 := Go.Proofs.Tryz.zeroValue100, t119 := Go.Proofs.Tryz.underlying121,
    a119 := Go.Proofs.Tryz.isAgg121, z119 := Go.Proofs.Tryz.sizeOf121, t138 := Go.Proofs.Tryz.underlying123,
    a138 := Go.Proofs.Tryz.isAgg123, z138 := Go.Proofs.Tryz.sizeOf123, v138 := Go.Proofs.Tryz.zeroValue123,
    t139 := Go.Proofs.Tryz.underlying124, a139 := Go.Proofs.Tryz.isAgg124, z139 := Go.Proofs.Tryz.sizeOf124,
    v139 := Go.Proofs.Tryz.zeroValue124, g3 := by kernel_rfl,
    g4 := by kernel_rfl }
def sh_c_ren : Go.Shelf.Ren :=
  {
    f := fun x =>
      match x with
      | 145 => 39
      | 220 => 66
      | 219 => 87
      | 217 => 99
      | 225 => 100
      | 224 => 101
      | 267 => 102
      | 266 => 112
      | 314 => 113
      | n => n,
    t := fun x =>
      match x with
      | 9 => 9
      | 4 => 4
      | 59 => 78
      | 3 => 3
      | 5 => 5
      | 46 => 93
      | 146 => 141
      | 51 => 102
      | n => n,
    g := fun x =>
      match x with
      | 1 => 2
      | n => n }
theorem sh_c : Go.Proofs.Lays.n145 Go.Proofs.Tryz.prog sh_c_ren :=
  { mixed := by kernel_rfl,
    f145 := Eq.trans Go.Proofs.Tryz.func39 (congrArg Option.some (Eq.refl (Go.Proofs.Body.n145 sh_c_ren))),
    f217 := Eq.trans Go.Proofs.Tryz.func99 (congrArg Option.some (Eq.refl (Go.Proofs.Body.n217 sh_c_ren))),
    f219 := Eq.trans Go.Proofs.Tryz.func87 (congrArg Option.some (Eq.refl (Go.Proofs.Body.n219 sh_c_ren))),
    f220 := Eq.trans Go.Proofs.Tryz.func66 (congrArg Option.some (Eq.refl (Go.Proofs.Body.n220 sh_c_ren))),
    f224 :=
      Eq.trans Go.Proofs.Tryz.func101 (congrArg Option.some (Eq.refl (Go.Proofs.Body.n224 sh_c_ren))),
    f225 :=
      Eq.trans Go.Proofs.Tryz.func100 (congrArg Option.some (Eq.refl (Go.Proofs.Body.n225 sh_c_ren))),
    f266 :=
      Eq.trans Go.Proofs.Tryz.func112 (congrArg Option.some (Eq.refl (Go.Proofs.Body.n266 sh_c_ren))),
    f267 :=
      Eq.trans Go.Proofs.Tryz.func102 (congrArg Option.some (Eq.refl (Go.Proofs.Body.n267 sh_c_ren))),
    f314 :=
      Eq.trans Go.Proofs.Tryz.func113 (congrArg Option.some (Eq.refl (Go.Proofs.Body.n314 sh_c_ren))),
    t3 := Go.Proofs.Tryz.underlying3, a3 := Go.Proofs.Tryz.isAgg3, z3 := Go.Proofs.Tryz.sizeOf3,
    v3 := Go.Proofs.Tryz.zeroValue3, t4 := Go.Proofs.Tryz.underlying4, a4 := Go.Proofs.Tryz.isAgg4,
    z4 := Go.Proofs.Tryz.sizeOf4, v4 := Go.Proofs.Tryz.zeroValue4, t5 := Go.Proofs.Tryz.underlying5,
    a5 := Go.Proofs.Tryz.isAgg5, z5 := Go.Proofs.Tryz.sizeOf5, v5 := Go.Proofs.Tryz.zeroValue5,
    t9 := Go.Proofs.Tryz.underlying9, a9 := Go.Proofs.Tryz.isAgg9, z9 := Go.Proofs.Tryz.sizeOf9,
    v9 := Go.Proofs.Tryz.zeroValue9, t46 := Go.Proofs.Tryz.underlying93, a46 := Go.Proofs.Tryz.isAgg93,
    z46 := Go.Proofs.Tryz.sizeOf93, v46 := Go.Proofs.Tryz.zeroValue93, t51 := Go.Proofs.Tryz.underlying102,
    a51 := Go.Proofs.Tryz.isAgg102, z51 := Go.Proofs.Tryz.sizeOf102, v51 := Go.Proofs.Tryz.zeroValue102,
    t59 := Go.Proofs.Tryz.underlying78, a59 := Go.Proofs.Tryz.isAgg78, z59 := Go.Proofs.Tryz.sizeOf78,
    v59 := Go.Proofs.Tryz.zeroValue78, t146 := Go.Proofs.Tryz.underlying141, a146 := Go.Proofs.Tryz.isAgg141,
    z146 := Go.Proofs.Tryz.sizeOf141, v146 := Go.Proofs.Tryz.zeroValue141,
    g1 := by kernel_rfl }
def sh_s_ren : Go.Shelf.Ren :=
  {
    f := fun x =>
      match x with
      | 283 => 108
      | n => n,
    t := fun x =>
      match x with
      | 3 => 3
      | 9 => 9
      | 4 => 4
      | n => n,
    g := fun x =>
      have n := x;
      n }
theorem sh_s : Go.Proofs.Lays.n283 Go.Proofs.Tryz.prog sh_s_ren :=
  { mixed := by kernel_rfl,
    f283 :=
      Eq.trans Go.Proofs.Tryz.func108 (congrArg Option.some (Eq.refl (Go.Proofs.Body.n283 sh_s_ren))),
    t3 := Go.Proofs.Tryz.underlying3, a3 := Go.Proofs.Tryz.isAgg3, z3 := Go.Proofs.Tryz.sizeOf3,
    v3 := Go.Proofs.Tryz.zeroValue3, t4 := Go.Proofs.Tryz.underlying4, a4 := Go.Proofs.Tryz.isAgg4,
    z4 := Go.Proofs.Tryz.sizeOf4, v4 := Go.Proofs.Tryz.zeroValue4, t9 := Go.Proofs.Tryz.underlying9,
    a9 := Go.Proofs.Tryz.isAgg9, z9 := Go.Proofs.Tryz.sizeOf9, v9 := Go.Proofs.Tryz.zeroValue9 }
def sh_d_ren : Go.Shelf.Ren :=
  {
    f := fun x =>
      match x with
      | 284 => 109
      | 129 => 115
      | 317 => 114
      | 318 => 116
      | n => n,
    t := fun x =>
      match x with
      | 53 => 100
      | 3 => 3
      | 212 => 144
      | 0 => 0
      | 4 => 4
      | 46 => 93
      | 5 => 5
      | 9 => 9
      | n => n,
    g := fun x =>
      match x with
      | 17 => 3
      | n => n }
theorem sh_d : Go.Proofs.LaysM.n284 Go.Proofs.Tryz.prog sh_d_ren :=
  { mixed := by kernel_rfl,
    f129 :=
      Eq.trans Go.Proofs.Tryz.func115 (congrArg Option.some (Eq.refl (Go.Proofs.Body.n129 sh_d_ren))),
    f284 :=
      Eq.trans Go.Proofs.Tryz.func109 (congrArg Option.some (Eq.refl (Go.Proofs.Body.n284 sh_d_ren))),
    f317 :=
      Eq.trans Go.Proofs.Tryz.func114 (congrArg Option.some (Eq.refl (Go.Proofs.Body.n317 sh_d_ren))),
    f318 :=
      Eq.trans Go.Proofs.Tryz.func116 (congrArg Option.some (Eq.refl (Go.Proofs.Body.n318 sh_d_ren))),
    t0 := Go.Proofs.Tryz.underlying0, a0 := Go.Proofs.Tryz.isAgg0, z0 := Go.Proofs.Tryz.sizeOf0,
    v0 := Go.Proofs.Tryz.zeroValue0, t3 := Go.Proofs.Tryz.underlying3, a3 := Go.Proofs.Tryz.isAgg3,
    z3 := Go.Proofs.Tryz.sizeOf3, v3 := Go.Proofs.Tryz.zeroValue3, t4 := Go.Proofs.Tryz.underlying4,
    a4 := Go.Proofs.Tryz.isAgg4, z4 := Go.Proofs.Tryz.sizeOf4, v4 := Go.Proofs.Tryz.zeroValue4,
    t5 := Go.Proofs.Tryz.underlying5, a5 := Go.Proofs.Tryz.isAgg5, z5 := Go.Proofs.Tryz.sizeOf5,
    v5 := Go.Proofs.Tryz.zeroValue5, t9 := Go.Proofs.Tryz.underlying9, a9 := Go.Proofs.Tryz.isAgg9,
    z9 := Go.Proofs.Tryz.sizeOf9, v9 := Go.Proofs.Tryz.zeroValue9, t46 := Go.Proofs.Tryz.underlying93,
    a46 := Go.Proofs.Tryz.isAgg93, z46 := Go.Proofs.Tryz.sizeOf93, v46 := Go.Proofs.Tryz.zeroValue93,
    t53 := Go.Proofs.Tryz.underlying100, a53 := Go.Proofs.Tryz.isAgg100, z53 := Go.Proofs.Tryz.sizeOf100,
    v53 := Go.Proofs.Tryz.zeroValue100, t212 := Go.Proofs.Tryz.underlying144, a212 := Go.Proofs.Tryz.isAgg144,
    z212 := Go.Proofs.Tryz.sizeOf144, v212 := Go.Proofs.Tryz.zeroValue144,
    g17 := by kernel_rfl,
    i0 := Eq.refl (Option.some (Option.some (Go.Value.tuple #[]), 1, 0)),
    i3 := Eq.refl (Option.some (Option.some (Go.Value.int Go.IntKind.i64 0), 1, 8)),
    i4 := Eq.refl (Option.some (Option.some (Go.Value.bool Bool.false), 1, 1)),
    i5 := Eq.refl (Option.some (Option.some (Go.Value.int Go.IntKind.u8 0), 1, 1)),
    i9 := Eq.refl (Option.some (Option.some (Go.Value.string { data := #[] }), 1, 16)),
    i46 := Eq.refl (Option.some (Option.some (Go.Value.int Go.IntKind.u64 0), 1, 8)),
    i53 := Eq.refl (Option.some (Option.some (Go.Value.int Go.IntKind.u64 0), 1, 8)),
    i212 :=
      Eq.refl
        (Option.some
          (Option.some
              (Go.Value.agg
                #[Go.Value.int Go.IntKind.u64 0, Go.Value.int Go.IntKind.u64 0, Go.Value.int Go.IntKind.u64 0,
                  Go.Value.int Go.IntKind.u64 0, Go.Value.int Go.IntKind.u64 0, Go.Value.int Go.IntKind.u64 0,
                  Go.Value.int Go.IntKind.u64 0, Go.Value.int Go.IntKind.u64 0, Go.Value.int Go.IntKind.u64 0,
                  Go.Value.int Go.IntKind.u64 0, Go.Value.int Go.IntKind.u64 0, Go.Value.int Go.IntKind.u64 0,
                  Go.Value.int Go.IntKind.u64 0, Go.Value.int Go.IntKind.u64 0, Go.Value.int Go.IntKind.u64 0,
                  Go.Value.int Go.IntKind.u64 0, Go.Value.int Go.IntKind.u64 0, Go.Value.int Go.IntKind.u64 0,
                  Go.Value.int Go.IntKind.u64 0, Go.Value.int Go.IntKind.u64 0]),
            20, 160)),
    m17 := by kernel_rfl }
def sh_b_ren : Go.Shelf.Ren :=
  {
    f := fun x =>
      match x with
      | 285 => 110
      | n => n,
    t := fun x =>
      match x with
      | 37 => 24
      | 53 => 100
      | 3 => 3
      | 4 => 4
      | 51 => 102
      | 9 => 9
      | 5 => 5
      | 0 => 0
      | n => n,
    g := fun x =>
      have n := x;
      n }
theorem sh_b : Go.Proofs.Lays.n285 Go.Proofs.Tryz.prog sh_b_ren :=
  { mixed := by kernel_rfl,
    f285 :=
      Eq.trans Go.Proofs.Tryz.func110 (congrArg Option.some (Eq.refl (Go.Proofs.Body.n285 sh_b_ren))),
    t0 := Go.Proofs.Tryz.underlying0, a0 := Go.Proofs.Tryz.isAgg0, z0 := Go.Proofs.Tryz.sizeOf0,
    v0 := Go.Proofs.Tryz.zeroValue0, t3 := Go.Proofs.Tryz.underlying3, a3 := Go.Proofs.Tryz.isAgg3,
    z3 := Go.Proofs.Tryz.sizeOf3, v3 := Go.Proofs.Tryz.zeroValue3, t4 := Go.Proofs.Tryz.underlying4,
    a4 := Go.Proofs.Tryz.isAgg4, z4 := Go.Proofs.Tryz.sizeOf4, v4 := Go.Proofs.Tryz.zeroValue4,
    t5 := Go.Proofs.Tryz.underlying5, a5 := Go.Proofs.Tryz.isAgg5, z5 := Go.Proofs.Tryz.sizeOf5,
    v5 := Go.Proofs.Tryz.zeroValue5, t9 := Go.Proofs.Tryz.underlying9, a9 := Go.Proofs.Tryz.isAgg9,
    z9 := Go.Proofs.Tryz.sizeOf9, v9 := Go.Proofs.Tryz.zeroValue9, t37 := Go.Proofs.Tryz.underlying24,
    a37 := Go.Proofs.Tryz.isAgg24, z37 := Go.Proofs.Tryz.sizeOf24, v37 := Go.Proofs.Tryz.zeroValue24,
    t51 := Go.Proofs.Tryz.underlying102, a51 := Go.Proofs.Tryz.isAgg102, z51 := Go.Proofs.Tryz.sizeOf102,
    v51 := Go.Proofs.Tryz.zeroValue102, t53 := Go.Proofs.Tryz.underlying100, a53 := Go.Proofs.Tryz.isAgg100,
    z53 := Go.Proofs.Tryz.sizeOf100, v53 := Go.Proofs.Tryz.zeroValue100 }
def sh_f_ren : Go.Shelf.Ren :=
  {
    f := fun x =>
      match x with
      | 164 => 143
      | 197 => 145
      | 239 => 146
      | 260 => 147
      | 274 => 148
      | 275 => 149
      | n => n,
    t := fun x =>
      match x with
      | 9 => 9
      | 4 => 4
      | 3 => 3
      | 5 => 5
      | 0 => 0
      | 21 => 21
      | 105 => 167
      | 156 => 171
      | 49 => 170
      | 157 => 172
      | 46 => 93
      | 159 => 174
      | 162 => 177
      | 160 => 175
      | 119 => 121
      | 139 => 124
      | 138 => 123
      | 208 => 182
      | 51 => 102
      | 206 => 180
      | n => n,
    g := fun x =>
      match x with
      | 11 => 6
      | 12 => 7
      | 13 => 8
      | 3 => 0
      | 4 => 1
      | n => n }
theorem sh_f : Go.Proofs.Lays.n164 Go.Proofs.Tryz.prog sh_f_ren :=
  { mixed := by kernel_rfl,
    f164 :=
      Eq.trans Go.Proofs.Tryz.func143 (congrArg Option.some (Eq.refl (Go.Proofs.Body.n164 sh_f_ren))),
    f197 :=
      Eq.trans Go.Proofs.Tryz.func145 (congrArg Option.some (Eq.refl (Go.Proofs.Body.n197 sh_f_ren))),
    f239 :=
      Eq.trans Go.Proofs.Tryz.func146 (congrArg Option.some (Eq.refl (Go.Proofs.Body.n239 sh_f_ren))),
    f260 :=
      Eq.trans Go.Proofs.Tryz.func147 (congrArg Option.some (Eq.refl (Go.Proofs.Body.n260 sh_f_ren))),
    f274 :=
      Eq.trans Go.Proofs.Tryz.func148 (congrArg Option.some (Eq.refl (Go.Proofs.Body.n274 sh_f_ren))),
    f275 :=
      Eq.trans Go.Proofs.Tryz.func149 (congrArg Option.some (Eq.refl (Go.Proofs.Body.n275 sh_f_ren))),
    t0 := Go.Proofs.Tryz.underlying0, a0 := Go.Proofs.Tryz.isAgg0, z0 := Go.Proofs.Tryz.sizeOf0,
    v0 := Go.Proofs.Tryz.zeroValue0, t3 := Go.Proofs.Tryz.underlying3, a3 := Go.Proofs.Tryz.isAgg3,
    z3 := Go.Proofs.Tryz.sizeOf3, v3 := Go.Proofs.Tryz.zeroValue3, t4 := Go.Proofs.Tryz.underlying4,
    a4 := Go.Proofs.Tryz.isAgg4, z4 := Go.Proofs.Tryz.sizeOf4, v4 := Go.Proofs.Tryz.zeroValue4,
    t5 := Go.Proofs.Tryz.underlying5, a5 := Go.Proofs.Tryz.isAgg5, z5 := Go.Proofs.Tryz.sizeOf5,
    v5 := Go.Proofs.Tryz.zeroValue5, t9 := Go.Proofs.Tryz.underlying9, a9 := Go.Proofs.Tryz.isAgg9,
    z9 := Go.Proofs.Tryz.sizeOf9, v9 := Go.Proofs.Tryz.zeroValue9, t21 := Go.Proofs.Tryz.underlying21,
    a21 := Go.Proofs.Tryz.isAgg21, z21 := Go.Proofs.Tryz.sizeOf21, v21 := Go.Proofs.Tryz.zeroValue21,
    t46 := Go.Proofs.Tryz.underlying93, a46 := Go.Proofs.Tryz.isAgg93, z46 := Go.Proofs.Tryz.sizeOf93,
    v46 := Go.Proofs.Tryz.zeroValue93, t49 := Go.Proofs.Tryz.underlying170, a49 := Go.Proofs.Tryz.isAgg170,
    z49 := Go.Proofs.Tryz.sizeOf170, v49 := Go.Proofs.Tryz.zeroValue170, t51 := Go.Proofs.Tryz.underlying102,
    a51 := Go.Proofs.Tryz.isAgg102, z51 := Go.Proofs.Tryz.sizeOf102, v51 := Go.Proofs.Tryz.zeroValue102,
    t105 := Go.Proofs.Tryz.underlying167, a105 := Go.Proofs.Tryz.isAgg167, z105 := Go.Proofs.Tryz.sizeOf167,
    v105 := Go.Proofs.Tryz.zeroValue167, t119 := Go.Proofs.Tryz.underlying121, a119 := Go.Proofs.Tryz.isAgg121,
    z119 := Go.Proofs.Tryz.sizeOf121, t138 := Go.Proofs.Tryz.underlying123, a138 := Go.Proofs.Tryz.isAgg123,
    z138 := Go.Proofs.Tryz.sizeOf123, v138 := Go.Proofs.Tryz.zeroValue123, t139 := Go.Proofs.Tryz.underlying124,
    a139 := Go.Proofs.Tryz.isAgg124, z139 := Go.Proofs.Tryz.sizeOf124, v139 := Go.Proofs.Tryz.zeroValue124,
    t156 := Go.Proofs.Tryz.underlying171, a156 := Go.Proofs.Tryz.isAgg171, z156 := Go.Proofs.Tryz.sizeOf171,
    t157 := Go.Proofs.Tryz.underlying172, a157 := Go.Proofs.Tryz.isAgg172, z157 := Go.Proofs.Tryz.sizeOf172,
    v157 := Go.Proofs.Tryz.zeroValue172, t159 := Go.Proofs.Tryz.underlying174, a159 := Go.Proofs.Tryz.isAgg174,
    z159 := Go.Proofs.Tryz.sizeOf174, v159 := Go.Proofs.Tryz.zeroValue174, t160 := Go.Proofs.Tryz.underlying175,
    a160 := Go.Proofs.Tryz.isAgg175, z160 := Go.Proofs.Tryz.sizeOf175, v160 := Go.Proofs.Tryz.zeroValue175,
    t162 := Go.Proofs.Tryz.underlying177, a162 := Go.Proofs.Tryz.isAgg177, z162 := Go.Proofs.Tryz.sizeOf177,
    v162 := Go.Proofs.Tryz.zeroValue177, t206 := Go.Proofs.Tryz.underlying180, a206 := Go.Proofs.Tryz.isAgg180,
    z206 := Go.Proofs.Tryz.sizeOf180, v206 := Go.Proofs.Tryz.zeroValue180, t208 := Go.Proofs.Tryz.underlying182,
    a208 := Go.Proofs.Tryz.isAgg182, z208 := Go.Proofs.Tryz.sizeOf182, v208 := Go.Proofs.Tryz.zeroValue182,
    g3 := by kernel_rfl, g4 := by kernel_rfl,
    g11 := by kernel_rfl,
    g12 := by kernel_rfl,
    g13 := by kernel_rfl }
end Go.Proofs.YtlomjmdgcpjepaaGreatDoor
namespace Go.Proofs.YtlomjmdgcpjepaaGreatDoor
open Go Go.Vx Go.Ob Go.RowKit
set_option linter.all false
set_option maxRecDepth 4000
theorem zz (n j : Nat) : (bsv (List.replicate n 0))[j]? = if j < n then some (.int .u8 0) else none := by
  unfold bsv
  rw [List.map_replicate, List.getElem?_replicate]
  rfl
variable [W0]
structure BsAt (L : List Chunk) : Prop where
  ut : ∀ w, Vx.Holds w L → Lib.Utf8Tabs (sh_v_ren.g 3) (sh_v_ren.g 4) w
  mx : ∃ m, ∀ w, Vx.Holds w L → w.cell? ⟨(sh_c_ren.g 1), 0, none⟩ = some (.int .i64 m)
  pw : ∀ w, Vx.Holds w L → Lib.TabIs Tryz.prog w "internal/strconv.uint64pow10" .u64 Lib.pow10Tab
theorem BsAt.of {S L : List Chunk} (h : BsAt S) (hi : ∀ w, Vx.Holds w L → Vx.Holds w S) : BsAt L :=
  ⟨fun w hw => h.ut w (hi w hw), h.mx.imp fun m hm w hw => hm w (hi w hw), fun w hw => h.pw w (hi w hw)⟩
theorem BsAt.inc {S L : List Chunk} (h : BsAt S) (hi : Inc S L) : BsAt L := h.of fun w hw => hi.holds hw
theorem BsAt.there {L : List Chunk} {C : Chunk} (h : BsAt L) : BsAt (C :: L) := h.of fun w hw => hw.drop
theorem GvP.of_below {P : Program} {f : FuncId} {args : Array Value} {L : List Chunk} {v : Value} (h : ∀ w, Vx.Holds w L → Calls P f args w fun e w' => e = .returned v ∧ Below w.heap.size w w') : GvP P f args L v :=
  ⟨fun w hw => (h w hw).mono fun e w' he => ⟨v, L, he.1, ⟨rfl, rfl⟩, hw.1, fun x hx => by rw [he.2.block _ (hw.lt hx)]; exact hw.2.1 x hx, he.2.os.trans hw.2.2.1, he.2.output.trans hw.2.2.2⟩⟩
theorem below_drewN (w : World) (n : Nat) : Below w.heap.size w (w.drewN n) := ⟨rfl, rfl, rfl, Nat.le_refl _, fun _ _ => rfl⟩
theorem valid_n (t : List UInt8) (L : List Chunk) (hb : BsAt L) (hl : t.length ≤ 9223372036854775807) : GvP Tryz.prog 67 [.string (str t)].toArray L (.bool (Lib.validD t)) :=
  GvP.of_below fun w hw => Any.utf8_ValidString sh_v (str t) w hl (hb.ut w hw)
theorem cut_n (s sep : List UInt8) (L : List Chunk) (hb : BsAt L) (hl : s.length < 4294967281) :
    GvP Tryz.prog 39 [.string (str s), .string (str sep)].toArray L (.tuple #[.string (str (Lib.cut s sep).1), .string (str (Lib.cut s sep).2.1), .bool (Lib.cut s sep).2.2]) := by
  obtain ⟨m, hm⟩ := hb.mx
  refine GvP.of_below fun w hw => (Any.strings_Cut sh_c (str s) (str sep) m w hl (hm w hw)).mono ?_
  rintro e w' ⟨rfl, n, rfl⟩
  exact ⟨rfl, below_drewN w n⟩
theorem small_n (i : Nat) (L : List Chunk) (h : i < 100) : GvP Tryz.prog 108 [.int .i64 (i : Int)].toArray L (.string (str (Lib.decDigits i))) :=
  GvP.of_below fun w hw => (Any.internal_strconv_small sh_s i h w).mono (by rintro e w' ⟨rfl, rfl⟩; exact ⟨rfl, Below.refl _ _⟩)
theorem numdigits_n (u : Nat) (L : List Chunk) (hb : BsAt L) (h1 : 1 ≤ u) (h2 : u < 18446744073709551616) : GvP Tryz.prog 109 [.int .u64 (u : Int)].toArray L (.int .i64 (Lib.nDigits u : Int)) :=
  GvP.of_below fun w hw => (Any.internal_strconv_numDigits sh_d u h1 h2 w (hb.pw w hw)).mono (by rintro e w' ⟨rfl, rfl⟩; exact ⟨rfl, Below.refl _ _⟩)
theorem numdigits_le {u : Nat} (h1 : 1 ≤ u) (h2 : u < 18446744073709551616) : Lib.nDigits u ≤ 20 := by
  have := Lib.numDigits_eq u h1 h2
  split at this <;> omega
theorem fmt_n (b T u : Nat) (L : List Chunk) (h1 : 1 ≤ u) (h2 : u < 18446744073709551616) :
    Gv Tryz.prog 110 [.slice (some ⟨b, 0, none⟩) (Lib.nDigits u) 24, .int .u64 (u : Int)].toArray ([(b, cl (bsv (List.replicate 24 0)) T)] :: L)
      (fun r L' => r = .tuple #[] ∧ ∃ rest, rest.length = 24 - Lib.nDigits u ∧ L' = [(b, cl (bsv (Lib.decDigits u) ++ rest) T)] :: L) := ⟨fun w hw => by
  have hnd := numdigits_le h1 h2
  have hf : w.heap[b]? = some (cl (bsv (List.replicate 24 0)) T) := (Fnd.here : Fnd ([(b, _)] :: L) b _).get hw
  have hH : Sort.Holds (fun (b : UInt8) => Value.int .u8 (b.toNat : Int)) w b 0 (Array.replicate (Lib.nDigits u) (0 : UInt8)) := fun j hj => by
    have hj' : j < Lib.nDigits u := by simpa using hj
    constructor
    · rw [Nat.zero_add, cell_of hf, getElem!_pos _ j hj, List.getElem?_toArray, zz, if_pos (by omega), Array.getElem_replicate]
      rfl
    · simp [World.frozen?, hf, cl]
  have hc := Any.internal_strconv_formatBase10 sh_b b 0 24 u (Array.replicate (Lib.nDigits u) 0) w hH (by rw [Array.size_replicate]; exact Lib.lt_pow_nDigits u) h2 (by rw [Array.size_replicate]; omega)
  rw [Array.size_replicate] at hc
  refine hc.mono ?_
  rintro e w' ⟨rfl, n, v', dk, rfl, hF⟩
  have hsz : dk.size = Lib.nDigits u := hF.size
  have hdk : dk.toList = Lib.decDigits u := by
    refine List.ext_getElem (by rw [Array.length_toList, hsz, Lib.decDigits_length]) fun j hj1 hj2 => ?_
    rw [Lib.row_is_numeral hF j hj2, getElem!_pos _ j (by simpa using hj1)]
    rfl
  have hrow : Sort.putCells (fun (b : UInt8) => Value.int .u8 (b.toNat : Int)) 0 dk (bsv (List.replicate 24 0)).toArray = (bsv (Lib.decDigits u) ++ bsv (List.replicate (24 - Lib.nDigits u) 0)).toArray := by
    apply Array.ext'
    rw [← hdk]
    refine List.ext_getElem? fun j => ?_
    unfold Sort.putCells
    simp only [Array.getElem?_toList, Array.getElem?_mapIdx, List.getElem?_toArray, List.toList_toArray]
    rw [zz]
    rcases Nat.lt_or_ge j dk.size with h | h
    · rw [List.getElem?_append_left (by simpa [bsv] using h), if_pos (by omega)]
      simp [bsv, h, Array.getElem?_eq_getElem h]
    · rw [List.getElem?_append_right (by simpa [bsv] using h), zz]
      have hl : (bsv dk.toList).length = dk.size := by simp [bsv]
      rw [hl]
      rcases Nat.lt_or_ge j 24 with h' | h'
      · rw [if_pos h', if_pos (by omega), Option.map_some, if_neg (by omega)]
      · rw [if_neg (by omega), if_neg (by omega)]
        rfl
  refine ⟨.tuple #[], _, rfl, ⟨rfl, bsv (List.replicate (24 - Lib.nDigits u) 0), by simp [bsv], rfl⟩, hw.upd .here ?_ ?_ rfl rfl⟩
  · show (w.heap.modify b _)[b]? = _
    rw [Array.getElem?_modify, if_pos rfl, hf]
    show some (Obj.cells _ _ _) = _
    rw [hrow]
    rfl
  · intro c hc
    show (w.heap.modify b _)[c]? = _
    rw [Array.getElem?_modify, if_neg (Ne.symm hc)]⟩
end Go.Proofs.YtlomjmdgcpjepaaGreatDoor
namespace Go.Vx
open Go
set_option linter.all false
variable [W0]
section
variable {P : Program} {n : Nat} {Q : Exit → Act → World → Prop} {M : List (Nat × Value)} {L : List Chunk} {K : List (Nat × Value) → List Chunk → Prop}
variable {d : Nat} {ty : TypeId} {ps : String} {af : Array Edge} {g : Option (Nat × Bool)} {x y : Operand} {v : Value}
theorem EV_quoN {t u : TypeId} {i j : Int} (a b : Nat) (hx : ev M x = some (.int .i64 i)) (hy : ev M y = some (.int .i64 j)) (hi : i = (a : Int)) (hj : j = (b : Int)) (hb : b ≠ 0) (ha : a ≤ 9223372036854775807) :
    EV P n ⟨some d, .binOp .quo t x y u, ty, ps, af, g⟩ M L d (.int .i64 ((a / b : Nat) : Int)) := by
  subst hi hj
  have := EV_quo (P := P) (n := n) (L := L) (d := d) (ty := ty) (ps := ps) (af := af) (g := g) (t := t) (u := u) hx hy (by omega)
  have e : IntKind.i64.wrap (((a : Nat) : Int).tdiv (b : Int)) = ((a / b : Nat) : Int) := by
    rw [Int.tdiv_eq_ediv_of_nonneg (by omega), ← Int.natCast_ediv]
    have : a / b ≤ a := Nat.div_le_self _ _
    generalize a / b = q at *
    exact wrap_i64 (by omega) (by omega)
  rwa [e] at this
theorem EV_remN {t u : TypeId} {k : IntKind} {i j : Int} (a b : Nat) (hx : ev M x = some (.int k i)) (hy : ev M y = some (.int k j)) (hi : i = (a : Int)) (hj : j = (b : Int)) (hb : b ≠ 0) :
    EV P n ⟨some d, .binOp .rem t x y u, ty, ps, af, g⟩ M L d (.int k ((a % b : Nat) : Int)) := by
  subst hi hj
  have := EV_rem (P := P) (n := n) (L := L) (d := d) (ty := ty) (ps := ps) (af := af) (g := g) (t := t) (u := u) hx hy (by omega)
  have e : ((a : Nat) : Int).tmod (b : Int) = ((a % b : Nat) : Int) := by
    rw [Int.tmod_eq_emod_of_nonneg (by omega), Int.natCast_emod]
  rwa [e] at this
end
omit [W0] in
def val : List UInt8 → Nat
  | [] => 0
  | b :: r => b.toNat + 256 * val r
end Go.Vx
namespace Go.Proofs.YtlomjmdgcpjepaaGreatDoor
open Go Go.Vx Go.Ob
set_option linter.all false
variable [W0]
set_option maxRecDepth 4000
omit [W0] in
theorem dgF_eq : ∀ (f n : Nat), n < 10 ^ (f + 1) → dgF (f + 1) n = Lib.decDigits n
  | 0, n, h => by
    unfold dgF
    rw [if_pos (by simpa using h), Lib.decDigits_one (by simpa using h)]
  | f + 1, n, h => by
    rw [Lib.decDigits]
    unfold dgF
    split
    · rfl
    · rw [dgF_eq f (n / 10) (by rw [Nat.pow_succ] at h; omega)]
omit [W0] in
theorem dgL_eq {n : Nat} (h : n < 100000000000000000000) : dgL n = Lib.decDigits n := dgF_eq 19 n h
theorem numdigits_lt (u : Nat) (h : u < 18446744073709551616) : Lib.nDigits u ≤ 20 := by
  rcases Nat.eq_zero_or_pos u with rfl | h1
  · rw [Lib.nDigits_small (by decide)]; decide
  · exact numdigits_le h1 h
theorem appenduint_n (u m : Nat) (v : Value) (xs : List Value) (C : Chunk) (L : List Chunk) (hb : BsAt L) (h : OwG 5 v m xs C) (hm : m ≤ 1000000) (hu : u < 18446744073709551616) :
    Gv Tryz.prog 97 [v, .int .u64 (u : Int), .int .i64 10].toArray (C :: L) (fun r L' => ∃ C', OwG 5 r (m + (Lib.decDigits u).length) (xs ++ bsv (Lib.decDigits u)) C' ∧ L' = C' :: L) := by
  refine Gv.of_body (args := [v, .int .u64 (u : Int), .int .i64 10]) Tryz.func97 rfl rfl ?_
  (repeat' first|refine kW ?_|refine kU fun bk=>?_|refine kV fun hc=>?_|refine kZ (fun hc=>?_) fun hc=>?_|fail)
  · refine OW_callP rfl rfl rfl (small_n u _ (by omega)) rfl ?_
    (repeat' first|refine kW ?_|refine kU fun bk=>?_|refine kV fun hc=>?_|refine kZ (fun hc=>?_) fun hc=>?_|fail)
    refine OW_appGS rfl rfl h (by repeat (first | exact Zip.here _ | apply Zip.there)) (by rw [str_size, Lib.decDigits_length]; have := numdigits_lt u hu; omega) (by rw [str_size, Lib.decDigits_length]; have := numdigits_lt u hu; unfold maxLen; omega) rfl (fun v' C' ho => ?_)
    (repeat' first|refine kW ?_|refine kU fun bk=>?_|refine kV fun hc=>?_|refine kZ (fun hc=>?_) fun hc=>?_|fail)
    refine kR ?_
    exact ⟨_, iC, C', ho, rfl⟩
  · refine OW_callP rfl rfl rfl (numdigits_n u _ hb.there.there (by omega) hu) rfl ?_
    (repeat' first|refine kW ?_|refine kU fun bk=>?_|refine kV fun hc=>?_|refine kZ (fun hc=>?_) fun hc=>?_|fail)
    have hnd := numdigits_le (by omega : 1 ≤ u) hu
    refine OW_EV (EV_sliceArr (l := 0) (h := Lib.nDigits u) rfl rfl rfl (Nat.zero_le _) (by omega) (by omega)) rfl ?_
    (repeat' first|refine kW ?_|refine kU fun bk=>?_|refine kV fun hc=>?_|refine kZ (fun hc=>?_) fun hc=>?_|fail)
    refine OW_call rfl rfl rfl (fmt_n _ _ u (C :: L) (by omega) hu) rfl (fun r L' hp => ?_)
    obtain ⟨rfl, rest, hrl, rfl⟩ := hp
    (repeat' first|refine kW ?_|refine kU fun bk=>?_|refine kV fun hc=>?_|refine kZ (fun hc=>?_) fun hc=>?_|fail)
    refine OW_EV (EV_sliceArr (l := 0) (h := Lib.nDigits u) rfl rfl rfl (Nat.zero_le _) (by omega) (by omega)) rfl ?_
    (repeat' first|refine kW ?_|refine kU fun bk=>?_|refine kV fun hc=>?_|refine kZ (fun hc=>?_) fun hc=>?_|fail)
    have hdl := Lib.decDigits_length u
    refine OW_appG rfl rfl h (sl_cells (xs := bsv (Lib.decDigits u)) (m := Lib.nDigits u) Fnd.here (by rw [bsv_length, hdl]; omega) (by simp)) (by repeat (first | exact Zip.here _ | apply Zip.there)) (by rfl) bsv_ones (by omega) (by unfold maxLen; omega) rfl (fun v' C' ho => ?_)
    (repeat' first|refine kW ?_|refine kU fun bk=>?_|refine kV fun hc=>?_|refine kZ (fun hc=>?_) fun hc=>?_|fail)
    refine kR ?_
    rw [← hdl] at ho
    exact ⟨_, iC, C', ho, rfl⟩
theorem appendint_n (i m : Nat) (v : Value) (xs : List Value) (C : Chunk) (L : List Chunk) (hb : BsAt L) (h : OwG 5 v m xs C) (hm : m ≤ 1000000) (hu : i ≤ 9223372036854775807) :
    Gv Tryz.prog 57 [v, .int .i64 (i : Int), .int .i64 10].toArray (C :: L) (fun r L' => ∃ C', OwG 5 r (m + (Lib.decDigits i).length) (xs ++ bsv (Lib.decDigits i)) C' ∧ L' = C' :: L) := by
  refine Gv.of_body (args := [v, .int .i64 (i : Int), .int .i64 10]) Tryz.func57 rfl rfl ?_
  (repeat' first|refine kW ?_|refine kU fun bk=>?_|refine kV fun hc=>?_|refine kZ (fun hc=>?_) fun hc=>?_|fail)
  have hin : Gv Tryz.prog 83 [v, .int .i64 (i : Int), .int .i64 10].toArray (C :: L) (fun r L' => ∃ C', OwG 5 r (m + (Lib.decDigits i).length) (xs ++ bsv (Lib.decDigits i)) C' ∧ L' = C' :: L) := by
    refine Gv.of_body (args := [v, .int .i64 (i : Int), .int .i64 10]) Tryz.func83 rfl rfl ?_
    (repeat' first|refine kW ?_|refine kU fun bk=>?_|refine kV fun hc=>?_|refine kZ (fun hc=>?_) fun hc=>?_|fail)
    refine OW_call rfl rfl rfl (appenduint_n i m v xs C L hb h hm (by omega)) rfl (fun r L' hp => ?_)
    obtain ⟨C', ho, rfl⟩ := hp
    (repeat' first|refine kW ?_|refine kU fun bk=>?_|refine kV fun hc=>?_|refine kZ (fun hc=>?_) fun hc=>?_|fail)
    refine kR ?_
    exact ⟨_, iC, C', ho, rfl⟩
  refine OW_call rfl rfl rfl hin rfl (fun r L' hp => ?_)
  obtain ⟨C', ho, rfl⟩ := hp
  (repeat' first|refine kW ?_|refine kU fun bk=>?_|refine kV fun hc=>?_|refine kZ (fun hc=>?_) fun hc=>?_|fail)
  refine kR ?_
  exact ⟨_, iC, C', ho, rfl⟩
theorem header_n (k n : Int) (L : List Chunk) (hb : BsAt L) (hn : n ≤ 9223372036854775807) :
    Gv Tryz.prog 27 [.int .i64 k, .int .i64 n].toArray L (fun r L' => ∃ C, OwG 5 r (hdL k n).length (bsv (hdL k n)) C ∧ L' = C :: L) := by
  refine Gv.of_body (args := [.int .i64 k, .int .i64 n]) Tryz.func27 rfl rfl ?_
  (repeat' first|refine kW ?_|refine kU fun bk=>?_|refine kV fun hc=>?_|refine kZ (fun hc=>?_) fun hc=>?_|fail)
  refine OW_callP rfl rfl rfl (obname_n k _) rfl ?_
  (repeat' first|refine kW ?_|refine kU fun bk=>?_|refine kV fun hc=>?_|refine kZ (fun hc=>?_) fun hc=>?_|fail)
  have h6 := nmI_len k
  refine OW_convBytes rfl (by rw [str_size]; unfold maxLen; omega) rfl (fun v C ho => ?_)
  rw [str_size, str_data] at ho
  (repeat' first|refine kW ?_|refine kU fun bk=>?_|refine kV fun hc=>?_|refine kZ (fun hc=>?_) fun hc=>?_|fail)
  refine OW_buildSlice (cs := bsv [32]) rfl (by rfl) (by simp [fillL, patch, Value.cells, zeros]; rfl) (by omega) rfl rfl (fun b1 => ?_)
  (repeat' first|refine kW ?_|refine kU fun bk=>?_|refine kV fun hc=>?_|refine kZ (fun hc=>?_) fun hc=>?_|fail)
  refine OW_appG rfl rfl (OwG.f ho) (sl_cells (xs := bsv [32]) (m := 1) Fnd.here rfl (by simp)) (by repeat (first | exact Zip.here _ | apply Zip.there)) (by rfl) bsv_ones (by omega) (by unfold maxLen; omega) rfl (fun v1 C1 h1 => ?_)
  (repeat' first|refine kW ?_|refine kU fun bk=>?_|refine kV fun hc=>?_|refine kZ (fun hc=>?_) fun hc=>?_|fail)
  obtain ⟨i, hi⟩ : ∃ i : Nat, max n 0 = (i : Int) := ⟨(max n 0).toNat, by omega⟩
  rw [hi]
  have hi2 : i ≤ 9223372036854775807 := by omega
  refine OW_call rfl rfl rfl (Gv.take (appendint_n i _ v1 _ C1 _ (hb.there) h1 (by omega) hi2) (by repeat (first | exact Take.here | apply Take.there))) rfl (fun r L' hp => ?_)
  obtain ⟨C2, h2, rfl⟩ := hp
  (repeat' first|refine kW ?_|refine kU fun bk=>?_|refine kV fun hc=>?_|refine kZ (fun hc=>?_) fun hc=>?_|fail)
  refine OW_buildSlice (cs := bsv [0]) rfl (by rfl) (by simp [fillL, patch, Value.cells, zeros]; rfl) (by omega) rfl rfl (fun b2 => ?_)
  (repeat' first|refine kW ?_|refine kU fun bk=>?_|refine kV fun hc=>?_|refine kZ (fun hc=>?_) fun hc=>?_|fail)
  have hd := numdigits_lt i (by omega)
  rw [← Lib.decDigits_length] at hd
  refine OW_appG rfl rfl h2 (sl_cells (xs := bsv [0]) (m := 1) Fnd.here rfl (by simp)) (by repeat (first | exact Zip.here _ | apply Zip.there)) (by rfl) bsv_ones (by omega) (by unfold maxLen; omega) rfl (fun v3 C3 h3 => ?_)
  (repeat' first|refine kW ?_|refine kU fun bk=>?_|refine kV fun hc=>?_|refine kZ (fun hc=>?_) fun hc=>?_|fail)
  refine kR ?_
  have e : hdL k n = nmI k ++ [32] ++ Lib.decDigits i ++ [0] := by
    unfold hdL
    rw [hi, Int.toNat_natCast, dgL_eq (by omega)]
  refine ⟨C3 :: L, iC, C3, ?_, rfl⟩
  have e2 : (nmI k ++ [32] ++ Lib.decDigits i ++ [0]).length = (nmI k).length + 1 + (Lib.decDigits i).length + 1 := by simp only [List.length_append, List.length_cons, List.length_nil]
  rw [e, e2, bsv_append, bsv_append, bsv_append]
  exact h3
theorem hdL_len (k n : Int) (hn : n ≤ 9223372036854775807) : (hdL k n).length ≤ 28 := by
  have h6 := nmI_len k
  have hd := numdigits_lt (max n 0).toNat (by omega)
  rw [← Lib.decDigits_length] at hd
  unfold hdL
  rw [dgL_eq (by omega)]
  simp only [List.length_append, List.length_cons, List.length_nil]
  omega
theorem OwG.slc {e m : Nat} {v : Value} {xs : List Value} {C : Chunk} {L : List Chunk} (h : OwG e v m xs C) : SlC (C :: L) 1 v m xs := ⟨h.sl, h.room⟩
theorem id_n (k : Int) (v : Value) (t : List UInt8) (L : List Chunk) (hb : BsAt L) (ht : t.length ≤ 140737488351232) (hv : SlC L 1 v t.length (bsv t)) :
    GvP Tryz.prog 9 [.int .i64 k, v].toArray L (.string (str (idL k t))) := by
  obtain ⟨a, c, rfl, hac⟩ := hv.room
  refine Gv.of_body (args := [.int .i64 k, .slice a t.length c]) Tryz.func9 rfl rfl ?_
  (repeat' first|refine kW ?_|refine kU fun bk=>?_|refine kV fun hc=>?_|refine kZ (fun hc=>?_) fun hc=>?_|fail)
  refine OW_call rfl rfl rfl (header_n k t.length L hb (by omega)) rfl (fun r L' hp => ?_)
  obtain ⟨C, ho, rfl⟩ := hp
  have hl := hdL_len k t.length (by omega)
  (repeat' first|refine kW ?_|refine kU fun bk=>?_|refine kV fun hc=>?_|refine kZ (fun hc=>?_) fun hc=>?_|fail)
  refine OW_appG rfl rfl ho hv.there.sl (by repeat (first | exact Zip.here _ | apply Zip.there)) (by rfl) bsv_ones (by omega) (by unfold maxLen; omega) rfl (fun v1 C1 h1 => ?_)
  rw [← bsv_append, ← List.length_append] at h1
  (repeat' first|refine kW ?_|refine kU fun bk=>?_|refine kV fun hc=>?_|refine kZ (fun hc=>?_) fun hc=>?_|fail)
  refine OW_call rfl rfl rfl (sha1_n (hdL k t.length ++ t) v1 _ (by rw [List.length_append]; omega) (OwG.slc h1)) rfl (fun r L' hp => ?_)
  obtain ⟨C2, rfl, h2⟩ := hp
  (repeat' first|refine kW ?_|refine kU fun bk=>?_|refine kV fun hc=>?_|refine kZ (fun hc=>?_) fun hc=>?_|fail)
  refine OW_callP rfl rfl rfl (hex_n (shaN (hdL k t.length ++ t)) _ _ (by rw [shaN_length]; decide) (by rw [shaN_length]; exact SlC.ow h2)) rfl ?_
  (repeat' first|refine kW ?_|refine kU fun bk=>?_|refine kV fun hc=>?_|refine kZ (fun hc=>?_) fun hc=>?_|fail)
  exact kE
theorem hash_n (s : List UInt8) (L : List Chunk) (hs : s.length ≤ 9223372036854775807) : GvP Tryz.prog 58 [.string (str s)].toArray L (.bool (hshB s)) := by
  refine Gv.of_body Tryz.func58 rfl rfl ?_
  (repeat' first|refine kW ?_|refine kU fun bk=>?_|refine kV fun hc=>?_|refine kZ (fun hc=>?_) fun hc=>?_|fail)
  · rw [str_size] at hc
    refine kR ?_
    exact ⟨_, iC, by unfold hshB; rw [decide_eq_false (by omega)]; rfl, rfl⟩
  · rw [str_size] at hc
    refine OW_call rfl rfl rfl (unhex_n s L (by omega)) rfl (fun r L' hp => ?_)
    obtain ⟨v, C, rfl, rfl, ho⟩ := hp
    (repeat' first|refine kW ?_|refine kU fun bk=>?_|refine kV fun hc=>?_|refine kZ (fun hc=>?_) fun hc=>?_|fail)
    refine kR ?_
    exact ⟨L, iC, by unfold hshB; rw [decide_eq_true (by omega)]; rfl, rfl⟩
omit [W0] in
theorem zr_ul : unL zrL = List.replicate 20 0 := by kernel_rfl
theorem unL_len {s : List UInt8} (h : hshB s = true) : (unL s).length = 20 := by
  unfold hshB at h
  simp only [Bool.and_eq_true, decide_eq_true_eq] at h
  unfold unL
  rw [if_pos h.2, outN_length, h.1]
theorem rawL_len (s : List UInt8) : (rawL s).length = 20 := by
  unfold rawL
  split
  · rename_i h; exact unL_len h
  · simp
theorem idbytes_n (s : List UInt8) (L : List Chunk) (hs : s.length ≤ 9223372036854775807) :
    Gv Tryz.prog 28 [.string (str s)].toArray L (fun r L' => ∃ C, Ow 5 1 r 20 (bsv (rawL s)) C ∧ L' = C :: L) := by
  refine Gv.of_body Tryz.func28 rfl rfl ?_
  (repeat' first|refine kW ?_|refine kU fun bk=>?_|refine kV fun hc=>?_|refine kZ (fun hc=>?_) fun hc=>?_|fail)
  refine OW_callP rfl rfl rfl (hash_n s L hs) rfl ?_
  cases hh : hshB s with
  | true =>
    have hl : s.length = 40 := by
      unfold hshB at hh
      simp only [Bool.and_eq_true, decide_eq_true_eq] at hh
      exact hh.1
    (repeat' first|refine kW ?_|refine kU fun bk=>?_|refine kV fun hc=>?_|refine kZ (fun hc=>?_) fun hc=>?_|fail)
    refine OW_call rfl rfl rfl (unhex_n s L (by omega)) rfl (fun r L' hp => ?_)
    obtain ⟨v, C, rfl, rfl, ho⟩ := hp
    rw [unL_len hh] at ho
    (repeat' first|refine kW ?_|refine kU fun bk=>?_|refine kV fun hc=>?_|refine kZ (fun hc=>?_) fun hc=>?_|fail)
    refine kR ?_
    exact ⟨_, iC, C, by rw [rawL, if_pos hh]; exact ho, rfl⟩
  | false =>
    (repeat' first|refine kW ?_|refine kU fun bk=>?_|refine kV fun hc=>?_|refine kZ (fun hc=>?_) fun hc=>?_|fail)
    refine OW_call rfl rfl rfl (unhex_n zrL L (by decide)) rfl (fun r L' hp => ?_)
    obtain ⟨v, C, rfl, rfl, ho⟩ := hp
    rw [zr_ul] at ho
    (repeat' first|refine kW ?_|refine kU fun bk=>?_|refine kV fun hc=>?_|refine kZ (fun hc=>?_) fun hc=>?_|fail)
    refine kR ?_
    exact ⟨_, iC, C, by rw [rawL, hh]; exact ho, rfl⟩
end Go.Proofs.YtlomjmdgcpjepaaGreatDoor
namespace Go.Proofs.YtlomjmdgcpjepaaGreatDoor
open Go Go.Vx Go.Ob Go.Lib
set_option linter.all false
variable [W0]
set_option maxRecDepth 4000
theorem consists_n (p : Nat → Bool) (f : FuncId) [hbd : BD Tryz.prog f] (hp : ∀ (c : Nat) (L : List Chunk), GvP Tryz.prog f [.int .i32 (c : Int)].toArray L (.bool (p c))) (s : List UInt8) (L : List Chunk) (hb : BsAt L) (hs : s.length ≤ 9223372036854775807) :
    GvP Tryz.prog 40 [.string (str s), .func (.func f) #[] #[]].toArray L (.bool (consB p s)) := by
  refine Gv.of_body (args := [.string (str s), .func (.func f) #[] #[]]) Tryz.func40 rfl rfl ?_
  (repeat' first|refine kW ?_|refine kU fun bk=>?_|refine kV fun hc=>?_|refine kZ (fun hc=>?_) fun hc=>?_|fail)
  refine OW_rangeS rfl rfl (fun b => ?_)
  (repeat' first|refine kW ?_|refine kU fun bk=>?_|refine kV fun hc=>?_|refine kZ (fun hc=>?_) fun hc=>?_|fail)
  refine WC_loop (X := Nat) (fun x => [(0, .string (str s)), (1, .func (.func f) #[] #[]), (8, .pointer (some ⟨b, 0, none⟩))]) (fun x => [(b, .stringIter (str s) x)] :: L) (fun x => x ≤ s.length ∧ rall p (s.drop x) = rall p s) (fun x => s.length - x) 0 ⟨Nat.zero_le _, rfl⟩ iS (fun w h => h) ?_
  intro k ⟨h1, h2⟩
  by_cases hk : k < s.length
  · have hne : s.drop k ≠ [] := fun h => by have := congrArg List.length h; simp at this; omega
    have hst := rall_step p _ hne
    have hle := decodeL_le _ hne
    have hwd := decodeL_width (s.drop k)
    rw [List.length_drop] at hle
    rw [h2] at hst
    (repeat' first|refine kW ?_|refine kU fun bk=>?_|refine kV fun hc=>?_|refine kZ (fun hc=>?_) fun hc=>?_|fail)
    refine OW_nextS rfl (by rw [str_size]; exact hk) .here rfl ?_
    rw [str_dec]
    generalize (decodeL (s.drop k)).1 = c at *
    generalize (decodeL (s.drop k)).2 = wd at *
    (repeat' first|refine kW ?_|refine kU fun bk=>?_|refine kV fun hc=>?_|refine kZ (fun hc=>?_) fun hc=>?_|fail)
    refine OW_callP rfl rfl rfl (hp c _) rfl ?_
    cases hc : p c with
    | true =>
      rw [hc, Bool.true_and, List.drop_drop] at hst
      (repeat' first|refine kW ?_|refine kU fun bk=>?_|refine kV fun hc=>?_|refine kZ (fun hc=>?_) fun hc=>?_|fail)
      refine WQ_round (X := Nat) (μ := fun x => s.length - x) (x := k) (k + wd) (by omega) ⟨by omega, hst.symm⟩ iS (fun w h => h)
    | false =>
      rw [hc, Bool.false_and] at hst
      (repeat' first|refine kW ?_|refine kU fun bk=>?_|refine kV fun hc=>?_|refine kZ (fun hc=>?_) fun hc=>?_|fail)
      refine kR ?_
      exact ⟨L, iC, by unfold consB; rw [hst]; rfl, rfl⟩
  · (repeat' first|refine kW ?_|refine kU fun bk=>?_|refine kV fun hc=>?_|refine kZ (fun hc=>?_) fun hc=>?_|fail)
    refine OW_EV (EV_endS rfl Fnd.here (by rw [str_size]; exact hk)) rfl ?_
    (repeat' first|refine kW ?_|refine kU fun bk=>?_|refine kV fun hc=>?_|refine kZ (fun hc=>?_) fun hc=>?_|fail)
    refine OW_callP rfl rfl rfl (valid_n s _ hb.there hs) rfl ?_
    (repeat' first|refine kW ?_|refine kU fun bk=>?_|refine kV fun hc=>?_|refine kZ (fun hc=>?_) fun hc=>?_|fail)
    refine kR ?_
    rw [List.drop_eq_nil_of_le (by omega)] at h2
    exact ⟨L, iC, by unfold consB; rw [← h2]; rfl, rfl⟩
theorem inperson_n (c : Nat) (L : List Chunk) : GvP Tryz.prog 41 [.int .i32 (c : Int)].toArray L (.bool (inP c)) := by
  refine Gv.of_body Tryz.func41 rfl rfl ?_
  (repeat' first|refine kW ?_|refine kU fun bk=>?_|refine kV fun hc=>?_|refine kZ (fun hc=>?_) fun hc=>?_|fail)
  all_goals (refine kR ?_; refine ⟨L, iC, ?_, rfl⟩; unfold inP; show Value.bool _ = Value.bool _; congr 1; rw [Bool.eq_iff_iff]; simp; omega)
theorem isdigit_n (c : Nat) (L : List Chunk) : GvP Tryz.prog 68 [.int .i32 (c : Int)].toArray L (.bool (inD c)) := by
  refine Gv.of_body Tryz.func68 rfl rfl ?_
  (repeat' first|refine kW ?_|refine kU fun bk=>?_|refine kV fun hc=>?_|refine kZ (fun hc=>?_) fun hc=>?_|fail)
  all_goals (refine kR ?_; refine ⟨L, iC, ?_, rfl⟩; unfold inD; show Value.bool _ = Value.bool _; congr 1; rw [Bool.eq_iff_iff]; simp; omega)
omit [W0] in
theorem timB_cons (a : UInt8) (t : List UInt8) : timB (a :: t) = (decide (t.length ≤ 11) && (decide (t.length = 0) || decide (a.toNat ≠ 48)) && (a :: t).all (fun b => inD b.toNat)) := by
  unfold timB
  have q : a ≠ 48 ↔ a.toNat ≠ 48 := not_congr (UInt8.toNat_inj (a := a) (b := 48)).symm
  rw [decide_eq_true (show a :: t ≠ [] by simp), Bool.true_and]
  congr 2
  · rw [Bool.eq_iff_iff]; simp
  · congr 1
    · rw [Bool.eq_iff_iff]; simp
    · exact decide_eq_decide.2 q
theorem istime_n (s : List UInt8) (L : List Chunk) (hb : BsAt L) (hs : s.length ≤ 9223372036854775807) : GvP Tryz.prog 42 [.string (str s)].toArray L (.bool (timB s)) := by
  refine Gv.of_body Tryz.func42 rfl rfl ?_
  have hcs := consists_n inD _ isdigit_n s L hb hs
  rw [cons_lo inD inD_lo] at hcs
  cases s with
  | nil =>
    (repeat' first|refine kW ?_|refine kU fun bk=>?_|refine kV fun hc=>?_|refine kZ (fun hc=>?_) fun hc=>?_|fail)
    exact kE
  | cons a t =>
    have he : ¬ str (a :: t) = str [] := fun h => by have := str_inj.1 h; simp at this
    have hl : (str (a :: t)).size = t.length + 1 := by rw [str_size]; rfl
    rw [timB_cons]
    (repeat' first|refine kW ?_|refine kU fun bk=>?_|refine kV fun hc=>?_|refine kZ (fun hc=>?_) fun hc=>?_|fail)
    · rw [hl] at hc
      refine kR ?_
      exact ⟨L, iC, by rw [decide_eq_false (by omega)]; rfl, rfl⟩
    · refine OW_EV (EV_indexStr (j := 0) (u := a) rfl rfl rfl (str_get (t := a :: t) (by simp))) rfl ?_
      have h1 := hc
      rename_i h12
      rw [hl] at h12 h1
      (repeat' first|refine kW ?_|refine kU fun bk=>?_|refine kV fun hc=>?_|refine kZ (fun hc=>?_) fun hc=>?_|fail)
      · refine kR ?_
        exact ⟨L, iC, by rw [decide_eq_false (p := t.length = 0) (by omega), decide_eq_false (p := a.toNat ≠ 48) (by omega), Bool.or_self, Bool.and_false, Bool.false_and]; rfl, rfl⟩
      · refine OW_callP rfl rfl rfl hcs rfl ?_
        (repeat' first|refine kW ?_|refine kU fun bk=>?_|refine kV fun hc=>?_|refine kZ (fun hc=>?_) fun hc=>?_|fail)
        refine kR ?_
        exact ⟨L, iC, by rw [decide_eq_true (p := t.length ≤ 11) (by omega), decide_eq_true (p := a.toNat ≠ 48) (by omega), Bool.or_true]; rfl, rfl⟩
    · rename_i h12 
      rw [hl] at h12 hc
      refine OW_callP rfl rfl rfl hcs rfl ?_
      (repeat' first|refine kW ?_|refine kU fun bk=>?_|refine kV fun hc=>?_|refine kZ (fun hc=>?_) fun hc=>?_|fail)
      refine kR ?_
      exact ⟨L, iC, by rw [decide_eq_true (p := t.length ≤ 11) (by omega), decide_eq_true (p := t.length = 0) (by omega)]; rfl, rfl⟩
theorem iszone_n (s : List UInt8) (L : List Chunk) (hb : BsAt L) (hs : s.length ≤ 9223372036854775807) : GvP Tryz.prog 43 [.string (str s)].toArray L (.bool (zonB s)) := by
  refine Gv.of_body Tryz.func43 rfl rfl ?_
  by_cases h5 : s.length = 5
  · match s, h5 with
    | [c0, c1, c2, c3, c4], _ =>
      have hcs := consists_n inD _ isdigit_n [c1, c2, c3, c4] L hb (by simp)
      rw [cons_lo inD inD_lo] at hcs
      have q43 : c0 = 43 ↔ c0.toNat = 43 := (UInt8.toNat_inj (a := c0) (b := 43)).symm
      have q45 : c0 = 45 ↔ c0.toNat = 45 := (UInt8.toNat_inj (a := c0) (b := 45)).symm
      have hz : zonB [c0, c1, c2, c3, c4] = ((decide (c0.toNat = 43) || decide (c0.toNat = 45)) && [c1, c2, c3, c4].all (fun b => inD b.toNat)) := by
        unfold zonB
        rw [decide_eq_true (show [c0, c1, c2, c3, c4].length = 5 from rfl), Bool.true_and]
        show ((decide (c0 = 43) || decide (c0 = 45)) && _) = _
        rw [decide_eq_decide.2 q43, decide_eq_decide.2 q45]
        rfl
      have hl : (str [c0, c1, c2, c3, c4]).size = 5 := rfl
      rw [hz]
      (repeat' first|refine kW ?_|refine kU fun bk=>?_|refine kV fun hc=>?_|refine kZ (fun hc=>?_) fun hc=>?_|fail)
      refine OW_EV (EV_indexStr (j := 0) (u := c0) rfl rfl rfl (str_get (t := [c0, c1, c2, c3, c4]) (by simp))) rfl ?_
      (repeat' first|refine kW ?_|refine kU fun bk=>?_|refine kV fun hc=>?_|refine kZ (fun hc=>?_) fun hc=>?_|fail)
      · refine OW_EV (EV_cutL [c0, c1, c2, c3, c4] 1 5 rfl rfl rfl (by decide) (Nat.le_refl 5)) rfl ?_
        (repeat' first|refine kW ?_|refine kU fun bk=>?_|refine kV fun hc=>?_|refine kZ (fun hc=>?_) fun hc=>?_|fail)
        refine OW_callP rfl rfl rfl hcs rfl ?_
        (repeat' first|refine kW ?_|refine kU fun bk=>?_|refine kV fun hc=>?_|refine kZ (fun hc=>?_) fun hc=>?_|fail)
        refine kR ?_
        exact ⟨L, iC, by rw [decide_eq_true (p := c0.toNat = 43) (by omega)]; rfl, rfl⟩
      · refine OW_EV (EV_indexStr (j := 0) (u := c0) rfl rfl rfl (str_get (t := [c0, c1, c2, c3, c4]) (by simp))) rfl ?_
        (repeat' first|refine kW ?_|refine kU fun bk=>?_|refine kV fun hc=>?_|refine kZ (fun hc=>?_) fun hc=>?_|fail)
        · refine OW_EV (EV_cutL [c0, c1, c2, c3, c4] 1 5 rfl rfl rfl (by decide) (Nat.le_refl 5)) rfl ?_
          (repeat' first|refine kW ?_|refine kU fun bk=>?_|refine kV fun hc=>?_|refine kZ (fun hc=>?_) fun hc=>?_|fail)
          refine OW_callP rfl rfl rfl hcs rfl ?_
          (repeat' first|refine kW ?_|refine kU fun bk=>?_|refine kV fun hc=>?_|refine kZ (fun hc=>?_) fun hc=>?_|fail)
          refine kR ?_
          exact ⟨L, iC, by rw [decide_eq_true (p := c0.toNat = 45) (by omega), Bool.or_true]; rfl, rfl⟩
        · rename_i h43
          refine kR ?_
          exact ⟨L, iC, by rw [decide_eq_false (p := c0.toNat = 43) (by omega), decide_eq_false (p := c0.toNat = 45) (by omega)]; rfl, rfl⟩
  · have h6 : ¬ ((str s).size : Int) = 5 := by rw [str_size]; omega
    (repeat' first|refine kW ?_|refine kU fun bk=>?_|refine kV fun hc=>?_|refine kZ (fun hc=>?_) fun hc=>?_|fail)
    refine kR ?_
    exact ⟨L, iC, by unfold zonB; rw [decide_eq_false h5]; rfl, rfl⟩
omit [W0] in
theorem index_ge : ∀ s sub : List UInt8, -1 ≤ Lib.index s sub
  | [], sub => by unfold Lib.index; split <;> decide
  | x :: t, sub => by
    have := index_ge t sub
    unfold Lib.index
    split
    · decide
    · split <;> omega
omit [W0] in
theorem cut_cons (x : UInt8) (t sep : List UInt8) : Lib.cut (x :: t) sep = if sep.isPrefixOf (x :: t) then ([], (x :: t).drop sep.length, true) else (x :: (Lib.cut t sep).1, (Lib.cut t sep).2.1, (Lib.cut t sep).2.2) := by
  have hge := index_ge t sep
  by_cases hp : sep.isPrefixOf (x :: t) = true
  · rw [if_pos hp]
    unfold Lib.cut
    rw [show Lib.index (x :: t) sep = 0 from by rw [Lib.index, if_pos hp]]
    rw [if_pos (by decide)]
    simp
  · rw [if_neg hp]
    rcases Int.lt_or_le (Lib.index t sep) 0 with h | h
    · have h1 : Lib.index t sep = -1 := by omega
      unfold Lib.cut
      rw [show Lib.index (x :: t) sep = -1 from by rw [Lib.index, if_neg hp, h1]; rfl, h1]
      simp
    · unfold Lib.cut
      rw [show Lib.index (x :: t) sep = Lib.index t sep + 1 from by rw [Lib.index, if_neg hp, if_neg (by simp; omega)]]
      obtain ⟨k, hk⟩ : ∃ k : Nat, Lib.index t sep = k := ⟨(Lib.index t sep).toNat, by omega⟩
      rw [hk, if_pos (by omega), if_pos (by omega)]
      simp [show ((k : Int) + 1).toNat = k + 1 from by omega, show k + 1 + sep.length = (k + sep.length) + 1 from by omega]
omit [W0] in
theorem cut_one (c : UInt8) : ∀ s : List UInt8, (Lib.cut s [c]).1 = (cutN c s).1 ∧ (Lib.cut s [c]).2.1 = (cutN c s).2
  | [] => by simp [Lib.cut, Lib.index, cutN]
  | x :: t => by
    obtain ⟨h1, h2⟩ := cut_one c t
    rw [cut_cons]
    unfold cutN
    by_cases h : x = c
    · subst h
      simp
    · rw [if_neg h, if_neg (by simp [List.isPrefixOf, Ne.symm h])]
      exact ⟨by rw [h1], h2⟩
omit [W0] in
theorem cut_two (a b : UInt8) : ∀ s : List UInt8, (Lib.cut s [a, b]).1 = (cutT a b s).1 ∧ (Lib.cut s [a, b]).2.1 = (cutT a b s).2
  | [] => by simp [Lib.cut, Lib.index, cutT]
  | x :: t => by
    obtain ⟨h1, h2⟩ := cut_two a b t
    rw [cut_cons]
    unfold cutT
    by_cases h : x = a ∧ t.head? = some b
    · obtain ⟨rfl, h⟩ := h
      cases t with
      | nil => simp at h
      | cons y t =>
        simp only [List.head?_cons, Option.some.injEq] at h
        subst h
        simp
    · rw [if_neg h, if_neg ?_]
      · exact ⟨by rw [h1], h2⟩
      · intro hh
        cases t with
        | nil => simp [List.isPrefixOf] at hh
        | cons y t =>
          simp only [List.isPrefixOf, Bool.and_eq_true, beq_iff_eq, Bool.and_true] at hh
          exact h ⟨hh.1.symm, by simp [hh.2]⟩
omit [W0] in
theorem cutT_len (a b : UInt8) (s : List UInt8) : (cutT a b s).1.length ≤ s.length ∧ (cutT a b s).2.length ≤ s.length := by
  rcases cutT_spec a b s with h | ⟨x, t, h1, h2⟩
  · rw [h]; simp
  · rw [h2, h1]; simp; omega
omit [W0] in
theorem cutN_len2 (c : UInt8) (s : List UInt8) : (cutN c s).1.length ≤ s.length ∧ (cutN c s).2.length ≤ s.length := by
  rcases cutN_spec c s with ⟨_, h⟩ | ⟨x, t, _, h1, h2⟩
  · rw [h]; simp
  · rw [h2, h1]; simp; omega
theorem person_n (s : List UInt8) (L : List Chunk) (hb : BsAt L) (hs : s.length < 4294967281) : GvP Tryz.prog 15 [.string (str s)].toArray L (.bool (perB s)) := by
  refine Gv.of_body Tryz.func15 rfl rfl ?_
  unfold perB
  simp only
  have l1 := cutT_len 32 60 s
  have l2 := cutT_len 62 32 (cutT 32 60 s).2
  have l3 := cutN_len2 32 (cutT 62 32 (cutT 32 60 s).2).2
  have c1 := cut_n s [32, 60] L hb hs
  rw [(cut_two 32 60 s).1, (cut_two 32 60 s).2] at c1
  have c2 := cut_n (cutT 32 60 s).2 [62, 32] L hb (by omega)
  rw [(cut_two 62 32 _).1, (cut_two 62 32 _).2] at c2
  have c3 := cut_n (cutT 62 32 (cutT 32 60 s).2).2 [32] L hb (by omega)
  rw [(cut_one 32 _).1, (cut_one 32 _).2] at c3
  have k1 := consists_n inP _ inperson_n (cutT 32 60 s).1 L hb (by omega)
  have k2 := consists_n inP _ inperson_n (cutT 62 32 (cutT 32 60 s).2).1 L hb (by omega)
  have k3 := istime_n (cutN 32 (cutT 62 32 (cutT 32 60 s).2).2).1 L hb (by omega)
  have k4 := iszone_n (cutN 32 (cutT 62 32 (cutT 32 60 s).2).2).2 L hb (by omega)
  generalize (Lib.cut s [32, 60]).2.2 = f1 at c1
  generalize (Lib.cut (cutT 32 60 s).2 [62, 32]).2.2 = f2 at c2
  generalize (Lib.cut (cutT 62 32 (cutT 32 60 s).2).2 [32]).2.2 = f3 at c3
  generalize (cutN 32 (cutT 62 32 (cutT 32 60 s).2).2).1 = q at *
  generalize (cutN 32 (cutT 62 32 (cutT 32 60 s).2).2).2 = z at *
  generalize (cutT 62 32 (cutT 32 60 s).2).1 = m at *
  generalize (cutT 62 32 (cutT 32 60 s).2).2 = r2 at *
  generalize (cutT 32 60 s).1 = n at *
  generalize (cutT 32 60 s).2 = r1 at *
  (repeat' first|refine kW ?_|refine kU fun bk=>?_|refine kV fun hc=>?_|refine kZ (fun hc=>?_) fun hc=>?_|fail)
  refine OW_callP rfl rfl rfl c1 rfl ?_
  (repeat' first|refine kW ?_|refine kU fun bk=>?_|refine kV fun hc=>?_|refine kZ (fun hc=>?_) fun hc=>?_|fail)
  refine OW_callP rfl rfl rfl c2 rfl ?_
  (repeat' first|refine kW ?_|refine kU fun bk=>?_|refine kV fun hc=>?_|refine kZ (fun hc=>?_) fun hc=>?_|fail)
  refine OW_callP rfl rfl rfl c3 rfl ?_
  (repeat' first|refine kW ?_|refine kU fun bk=>?_|refine kV fun hc=>?_|refine kZ (fun hc=>?_) fun hc=>?_|fail)
  refine OW_callP rfl rfl rfl k1 rfl ?_
  cases consB inP n with
  | false =>
    (repeat' first|refine kW ?_|refine kU fun bk=>?_|refine kV fun hc=>?_|refine kZ (fun hc=>?_) fun hc=>?_|fail)
    exact kE
  | true =>
    (repeat' first|refine kW ?_|refine kU fun bk=>?_|refine kV fun hc=>?_|refine kZ (fun hc=>?_) fun hc=>?_|fail)
    refine OW_callP rfl rfl rfl k2 rfl ?_
    cases consB inP m with
    | false =>
      (repeat' first|refine kW ?_|refine kU fun bk=>?_|refine kV fun hc=>?_|refine kZ (fun hc=>?_) fun hc=>?_|fail)
      exact kE
    | true =>
      (repeat' first|refine kW ?_|refine kU fun bk=>?_|refine kV fun hc=>?_|refine kZ (fun hc=>?_) fun hc=>?_|fail)
      refine OW_callP rfl rfl rfl k3 rfl ?_
      cases timB q with
      | false =>
        (repeat' first|refine kW ?_|refine kU fun bk=>?_|refine kV fun hc=>?_|refine kZ (fun hc=>?_) fun hc=>?_|fail)
        exact kE
      | true =>
        (repeat' first|refine kW ?_|refine kU fun bk=>?_|refine kV fun hc=>?_|refine kZ (fun hc=>?_) fun hc=>?_|fail)
        refine OW_callP rfl rfl rfl k4 rfl ?_
        cases zonB z with
        | false =>
          (repeat' first|refine kW ?_|refine kU fun bk=>?_|refine kV fun hc=>?_|refine kZ (fun hc=>?_) fun hc=>?_|fail)
          exact kE
        | true =>
          (repeat' first|refine kW ?_|refine kU fun bk=>?_|refine kV fun hc=>?_|refine kZ (fun hc=>?_) fun hc=>?_|fail)
          exact kE
end Go.Proofs.YtlomjmdgcpjepaaGreatDoor
namespace Go.Proofs.YtlomjmdgcpjepaaGreatDoor
open Go Go.Vx Go.Ob Go.Lib
set_option linter.all false
set_option maxRecDepth 4000
theorem idBlob : idL 3 [] = [101, 54, 57, 100, 101, 50, 57, 98, 98, 50, 100, 49, 100, 54, 52, 51, 52, 98, 56, 98, 50, 57, 97, 101, 55, 55, 53, 97, 100, 56, 99, 50, 101, 52, 56, 99, 53, 51, 57, 49] := by kernel_rfl
theorem idTree : idL 2 [] = [52, 98, 56, 50, 53, 100, 99, 54, 52, 50, 99, 98, 54, 101, 98, 57, 97, 48, 54, 48, 101, 53, 52, 98, 102, 56, 100, 54, 57, 50, 56, 56, 102, 98, 101, 101, 52, 57, 48, 52] := by kernel_rfl
theorem perYes : perB [65, 32, 60, 97, 62, 32, 49, 32, 43, 48, 48, 48, 48] = true := by kernel_rfl
theorem perNo : perB [65, 32, 60, 97, 62, 32, 48, 49, 32, 43, 48, 48, 48, 48] = false := by kernel_rfl
theorem hdTag : hdL 4 7 = [116, 97, 103, 32, 55, 0] := by kernel_rfl
variable [W0]
theorem slcNil (L : List Chunk) : SlC L 1 (.slice none 0 0) 0 [] := ⟨.inl ⟨0, rfl, rfl, rfl⟩, _, _, rfl, Nat.le_refl _⟩
set_option maxHeartbeats 1000000 in
theorem awake8_n (L : List Chunk) (hb : BsAt L) : GvP Tryz.prog 16 [].toArray L (.bool true) := by
  refine Gv.of_body Tryz.func16 rfl rfl ?_
  (repeat' first|refine kW ?_|refine kU fun bk=>?_|refine kV fun hc=>?_|refine kZ (fun hc=>?_) fun hc=>?_|fail)
  refine OW_callP rfl rfl rfl (obkind_n sTree L) rfl ?_
  rw [show kdL sTree = 2 from rfl]
  (repeat' first|refine kW ?_|refine kU fun bk=>?_|refine kV fun hc=>?_|refine kZ (fun hc=>?_) fun hc=>?_|fail)
  refine OW_callP rfl rfl rfl (id_n 3 (.slice none 0 0) [] L hb (by decide) (slcNil L)) rfl ?_
  rw [idBlob]
  (repeat' first|refine kW ?_|refine kU fun bk=>?_|refine kV fun hc=>?_|refine kZ (fun hc=>?_) fun hc=>?_|fail)
  all_goals (try exact absurd rfl hc)
  refine OW_callP rfl rfl rfl (id_n 2 (.slice none 0 0) [] L hb (by decide) (slcNil L)) rfl ?_
  rw [idTree]
  (repeat' first|refine kW ?_|refine kU fun bk=>?_|refine kV fun hc=>?_|refine kZ (fun hc=>?_) fun hc=>?_|fail)
  all_goals (try exact absurd rfl hc)
  refine OW_callP rfl rfl rfl (person_n [65, 32, 60, 97, 62, 32, 49, 32, 43, 48, 48, 48, 48] L hb (by decide)) rfl ?_
  rw [perYes]
  (repeat' first|refine kW ?_|refine kU fun bk=>?_|refine kV fun hc=>?_|refine kZ (fun hc=>?_) fun hc=>?_|fail)
  refine OW_callP rfl rfl rfl (person_n [65, 32, 60, 97, 62, 32, 48, 49, 32, 43, 48, 48, 48, 48] L hb (by decide)) rfl ?_
  rw [perNo]
  (repeat' first|refine kW ?_|refine kU fun bk=>?_|refine kV fun hc=>?_|refine kZ (fun hc=>?_) fun hc=>?_|fail)
  refine OW_call rfl rfl rfl (header_n 4 7 L hb (by decide)) rfl (fun r L' hp => ?_)
  obtain ⟨C, ho, rfl⟩ := hp
  rw [hdTag] at ho
  (repeat' first|refine kW ?_|refine kU fun bk=>?_|refine kV fun hc=>?_|refine kZ (fun hc=>?_) fun hc=>?_|fail)
  refine OW_EV (EV_convStr (b := [116, 97, 103, 32, 55, 0]) rfl ho.sl) rfl ?_
  (repeat' first|refine kW ?_|refine kU fun bk=>?_|refine kV fun hc=>?_|refine kZ (fun hc=>?_) fun hc=>?_|fail)
  refine kR ?_
  exact ⟨L, iC, by rw [decide_eq_true rfl]; rfl, rfl⟩
end Go.Proofs.YtlomjmdgcpjepaaGreatDoor
namespace Go.Proofs.YtlomjmdgcpjepaaGreatDoor
open Go Go.Vx Go.Ob Go.Lib
set_option linter.all false
set_option maxRecDepth 4000
def etc : List Et → List Value
  | [] => []
  | x :: r => .string (str x.m) :: .string (str x.n) :: .string (str x.i) :: etc r
theorem etc_len : ∀ l : List Et, (etc l).length = l.length * 3
  | [] => rfl
  | x :: r => by simp [etc, etc_len r]; omega
theorem etc_app : ∀ a b : List Et, etc (a ++ b) = etc a ++ etc b
  | [], b => rfl
  | x :: r, b => by simp [etc, etc_app r b]
theorem etc_at : ∀ {l : List Et} {k : Nat} {x : Et}, l[k]? = some x → (etc l)[k * 3]? = some (.string (str x.m)) ∧ (etc l)[k * 3 + 1]? = some (.string (str x.n)) ∧ (etc l)[k * 3 + 2]? = some (.string (str x.i))
  | [], _, _, h => by simp at h
  | x :: r, 0, e, h => by simp at h; subst h; simp [etc]
  | x :: r, k + 1, e, h => by
    have := etc_at (l := r) (k := k) (by simpa using h)
    simpa [etc, Nat.add_mul, Nat.add_assoc] using this
def ssv (l : List (List UInt8)) : List Value := l.map fun s => .string (str s)
theorem ssv_len (l : List (List UInt8)) : (ssv l).length = l.length := by simp [ssv]
theorem prT_take {l : List Et} {k : Nat} {x : Et} (h : l[k]? = some x) : prT (l.take (k + 1)) = prT (l.take k) ++ prE x := by
  rw [List.take_add_one, h, prT_app]
  simp [prT]
theorem prT_le (l : List Et) (k : Nat) : (prT (l.take k)).length ≤ (prT l).length := by
  conv => rhs; rw [← List.take_append_drop k l, prT_app]
  simp
section
variable [W0]
theorem sl_shape {L : List Chunk} {k m : Nat} {v : Value} {xs : List Value} (h : Sl L k v m xs) : ∃ a c, v = .slice a m c := by
  rcases h with ⟨c, rfl, rfl, _⟩ | ⟨a, c, rfl, _⟩
  · exact ⟨_, _, rfl⟩
  · exact ⟨_, _, rfl⟩
theorem sl_at3 {L : List Chunk} {v : Value} {l : List Et} {k : Nat} {x : Et} (h : Sl L 3 v l.length (etc l)) (hx : l[k]? = some x) :
    ∃ b off cap c T fr, v = .slice (some ⟨b, off, none⟩) l.length cap ∧ Fnd L b (.cells c T fr) ∧ c[off + k * 3]? = some (.string (str x.m)) ∧ c[off + k * 3 + 1]? = some (.string (str x.n)) ∧ c[off + k * 3 + 2]? = some (.string (str x.i)) := by
  have hk : k < l.length := (List.getElem?_eq_some_iff.1 hx).1
  obtain ⟨h1, h2, h3⟩ := etc_at hx
  rcases h with ⟨c, rfl, h0, _⟩ | ⟨a, cap, rfl, hr, hl⟩
  · omega
  · rcases hr with hr | ⟨b, off, c, T, fr, rfl, hf, hc⟩
    · rw [hr] at h1; simp at h1
    · exact ⟨b, off, cap, c, T, fr, rfl, hf, hc _ _ h1, by rw [Nat.add_assoc]; exact hc _ _ h2, by rw [Nat.add_assoc]; exact hc _ _ h3⟩
theorem sl_at1 {L : List Chunk} {v : Value} {l : List (List UInt8)} {k : Nat} {x : List UInt8} (h : Sl L 1 v l.length (ssv l)) (hx : l[k]? = some x) :
    ∃ b off cap c T fr, v = .slice (some ⟨b, off, none⟩) l.length cap ∧ Fnd L b (.cells c T fr) ∧ c[off + k * 1]? = some (.string (str x)) := by
  have hk : k < l.length := (List.getElem?_eq_some_iff.1 hx).1
  have h1 : (ssv l)[k]? = some (.string (str x)) := by simp [ssv, hx]
  rcases h with ⟨c, rfl, h0, _⟩ | ⟨a, cap, rfl, hr, hl⟩
  · omega
  · rcases hr with hr | ⟨b, off, c, T, fr, rfl, hf, hc⟩
    · rw [hr] at h1; simp at h1
    · exact ⟨b, off, cap, c, T, fr, rfl, hf, by rw [Nat.mul_one]; exact hc _ _ h1⟩
set_option maxHeartbeats 1000000 in
theorem treebytes_n (vl : Value) (l : List Et) (L : List Chunk) (h : Sl L 3 vl l.length (etc l)) (hl : (prT l).length ≤ 100000000000) (hi : ∀ x ∈ l, x.i.length ≤ 9223372036854775807) (hll : l.length ≤ 100000000000) :
    Gv Tryz.prog 10 [.agg #[vl]].toArray L (fun r L' => ∃ C, OwG 5 r (prT l).length (bsv (prT l)) C ∧ L' = C :: L) := by
  obtain ⟨a0, c0, rfl⟩ := sl_shape h
  refine Gv.of_body (args := [.agg #[.slice a0 l.length c0]]) Tryz.func10 rfl rfl ?_
  (repeat' first|refine kW ?_|refine kU fun bk=>?_|refine kV fun hc=>?_|refine kZ (fun hc=>?_) fun hc=>?_|fail)
  revert bk; intro q
  refine WC_loop (X := Nat × Value × Chunk) (fun x => [(7, .slice a0 l.length c0), (8, .int .i64 (l.length : Int)), (9, .int .i64 (x.1 : Int)), (3, x.2.1)]) (fun x => x.2.2 :: L)
    (fun x => x.1 ≤ l.length ∧ OwG 5 x.2.1 (prT (l.take x.1)).length (bsv (prT (l.take x.1))) x.2.2) (fun x => l.length - x.1) (0, .slice none 0 0, []) ⟨Nat.zero_le _, OwG.nil⟩ iS (fun w h => Holds.nil.2 h.drop) ?_
  intro x ⟨h1, h2⟩
  obtain ⟨k, v, C⟩ := x
  simp only at h1 h2 ⊢
  (repeat' first|refine kW ?_|refine kU fun bk=>?_|refine kV fun hc=>?_|refine kZ (fun hc=>?_) fun hc=>?_|fail)
  · have hk : k < l.length := by omega
    obtain ⟨e, he⟩ : ∃ e, l[k]? = some e := ⟨l[k], by simp [hk]⟩
    have htk := prT_take he
    have hle := prT_le l (k + 1)
    have him := hi e (List.mem_of_getElem? he)
    obtain ⟨b, off, cap, c, T, fr, hv, hfn, g0, g1, g2⟩ := sl_at3 h he
    injection hv with e1 _ e3
    subst e1 e3
    have hlp : (prE e).length = e.m.length + 1 + e.n.length + 1 + 20 := by simp only [prE, List.length_append, List.length_cons, List.length_nil, rawL_len]
    rw [htk, List.length_append, hlp] at hle
    refine OW_EV (EV_indexAddr (j := k) rfl rfl rfl hk) rfl ?_
    (repeat' first|refine kW ?_|refine kU fun bk=>?_|refine kV fun hc=>?_|refine kZ (fun hc=>?_) fun hc=>?_|fail)
    have hrd : RdAt (C :: L) ⟨b, off + k * 3, none⟩ [.string (str e.m), .string (str e.n), .string (str e.i)] := .inr ⟨b, off + k * 3, c, T, fr, rfl, hfn.there, fun j u hj => by
      match j, hj with
      | 0, hj => simp at hj; subst hj; exact g0
      | 1, hj => simp at hj; subst hj; exact g1
      | 2, hj => simp at hj; subst hj; exact g2
      | j + 3, hj => simp at hj⟩
    refine OW_EV (EV_loadAgg rfl hrd rfl) rfl ?_
    (repeat' first|refine kW ?_|refine kU fun bk=>?_|refine kV fun hc=>?_|refine kZ (fun hc=>?_) fun hc=>?_|fail)
    refine OW_appGS rfl rfl h2 (by repeat (first | exact Zip.here _ | apply Zip.there)) (by rw [str_size]; omega) (by rw [str_size]; unfold maxLen; omega) rfl (fun v1 C1 p1 => ?_)
    rw [str_size, str_data, ← bsv_append, ← List.length_append] at p1
    (repeat' first|refine kW ?_|refine kU fun bk=>?_|refine kV fun hc=>?_|refine kZ (fun hc=>?_) fun hc=>?_|fail)
    refine OW_buildSlice (cs := bsv [32]) rfl (by rfl) (by simp [fillL, patch, Value.cells, zeros]; rfl) (by omega) rfl rfl (fun b1 => ?_)
    (repeat' first|refine kW ?_|refine kU fun bk=>?_|refine kV fun hc=>?_|refine kZ (fun hc=>?_) fun hc=>?_|fail)
    refine OW_appG rfl rfl p1 (sl_cells (xs := bsv [32]) (m := 1) Fnd.here rfl (by simp)) (by repeat (first | exact Zip.here _ | apply Zip.there)) (by rfl) bsv_ones (by rw [List.length_append]; omega) (by rw [List.length_append]; unfold maxLen; omega) rfl (fun v2 C2 p2 => ?_)
    rw [← bsv_append] at p2
    (repeat' first|refine kW ?_|refine kU fun bk=>?_|refine kV fun hc=>?_|refine kZ (fun hc=>?_) fun hc=>?_|fail)
    refine OW_appGS rfl rfl p2 (by repeat (first | exact Zip.here _ | apply Zip.there)) (by rw [str_size, List.length_append]; omega) (by rw [str_size, List.length_append]; unfold maxLen; omega) rfl (fun v3 C3 p3 => ?_)
    rw [str_size, str_data, ← bsv_append] at p3
    (repeat' first|refine kW ?_|refine kU fun bk=>?_|refine kV fun hc=>?_|refine kZ (fun hc=>?_) fun hc=>?_|fail)
    refine OW_buildSlice (cs := bsv [0]) rfl (by rfl) (by simp [fillL, patch, Value.cells, zeros]; rfl) (by omega) rfl rfl (fun b2 => ?_)
    (repeat' first|refine kW ?_|refine kU fun bk=>?_|refine kV fun hc=>?_|refine kZ (fun hc=>?_) fun hc=>?_|fail)
    refine OW_appG rfl rfl p3 (sl_cells (xs := bsv [0]) (m := 1) Fnd.here rfl (by simp)) (by repeat (first | exact Zip.here _ | apply Zip.there)) (by rfl) bsv_ones (by rw [List.length_append]; omega) (by rw [List.length_append]; unfold maxLen; omega) rfl (fun v4 C4 p4 => ?_)
    rw [← bsv_append] at p4
    (repeat' first|refine kW ?_|refine kU fun bk=>?_|refine kV fun hc=>?_|refine kZ (fun hc=>?_) fun hc=>?_|fail)
    refine OW_call rfl rfl rfl (idbytes_n e.i _ him) rfl (fun r L' hp => ?_)
    obtain ⟨C5, ho, rfl⟩ := hp
    (repeat' first|refine kW ?_|refine kU fun bk=>?_|refine kV fun hc=>?_|refine kZ (fun hc=>?_) fun hc=>?_|fail)
    refine OW_appG rfl rfl p4 (ow_sl ho) (by repeat (first | exact Zip.here _ | apply Zip.there)) (by rfl) bsv_ones (by rw [List.length_append]; omega) (by rw [List.length_append]; unfold maxLen; omega) rfl (fun v5 C6 p5 => ?_)
    rw [← bsv_append] at p5
    (repeat' first|refine kW ?_|refine kU fun bk=>?_|refine kV fun hc=>?_|refine kZ (fun hc=>?_) fun hc=>?_|fail)
    refine WQ_round (X := Nat × Value × Chunk) (μ := fun x => l.length - x.1) (x := (k, v, C)) (k + 1, v5, C6) (by simp only; omega) ⟨by simp only; omega, ?_⟩ iS (fun w h => iH h)
    simp only
    have e6 : prT (l.take (k + 1)) = prT (l.take k) ++ e.m ++ [32] ++ e.n ++ [0] ++ rawL e.i := by rw [htk]; simp [prE]
    have e7 : (prT (l.take (k + 1))).length = (prT (l.take k) ++ e.m).length + 1 + e.n.length + 1 + 20 := by rw [e6]; simp only [List.length_append, List.length_cons, List.length_nil, rawL_len]
    rw [e7, e6]
    exact p5
  · rw [List.take_of_length_le (by omega)] at h2
    refine kR ?_
    exact ⟨_, iC, C, h2, rfl⟩
end
end Go.Proofs.YtlomjmdgcpjepaaGreatDoor
namespace Go.Vx
open Go Go.Ob Go.MapKept Go.Proofs.YtlomjmdgcpjepaaGreatDoor
set_option linter.all false
def insS (ks : List (List UInt8)) (s : List UInt8) : List (List UInt8) := if s ∈ ks then ks else ks ++ [s]
structure MsR (es : Array MapEntry) (ks : List (List UInt8)) : Prop where
  keys : es.toList.map (·.key) = ks.map fun s => Value.string (str s)
  one : ks.Nodup
theorem MsR.nil : MsR #[] [] := ⟨rfl, List.nodup_nil⟩
theorem MsR.len {es : Array MapEntry} {ks : List (List UInt8)} (h : MsR es ks) : es.size = ks.length := by
  have := congrArg List.length h.keys
  simpa using this
theorem MsR.isKey {es : Array MapEntry} {ks : List (List UInt8)} (h : MsR es ks) : ∀ x ∈ es.toList, IsKey .string x.key := fun x hx => by
  have : x.key ∈ es.toList.map (·.key) := List.mem_map_of_mem hx
  rw [h.keys] at this
  obtain ⟨s, _, hs⟩ := List.mem_map.1 this
  rw [← hs]
  trivial
section
variable [W0]
variable {P : Program} {n : Nat} {M : List (Nat × Value)} {L : List Chunk} {K : List (Nat × Value) → List Chunk → Prop}
variable {d : Nat} {ty : TypeId} {ps : String} {af : Array Edge} {g : Option (Nat × Bool)} {x y z : Operand} {v : Value}
def MsD (b : Nat) (ks : List (List UInt8)) (C : Chunk) : Prop := ∃ es c, C = [(b, .map es c)] ∧ MsR es ks
theorem OW_makeMapH {t kt et : Nat} {kk : IntKind} {i : Int} (hm : P.underlying t = some (.map kt et)) (hx : ev M x = some (.int kk i)) (hn : Nat.blt d n = true) (h : ∀ b C, MsD b [] C → K ((d, .map (some b)) :: M) (C :: L)) : OW P n ⟨some d, .makeMap t (some x), ty, ps, af, g⟩ K M L :=
  OW_newval (ob := .map #[] 0) (f := fun b => .map (some b)) rfl hn (fun a w ha hw => by
    have e : (Instr.makeMap t (some (.int kk i))).run P w = .ok (.map (some w.heap.size)) (w.alloc (.map #[] 0)) := by
      simp only [Instr.makeMap, Sem.run_bind, run_underlying hm, Result.andThen_ok]
      rfl
    simp only [execOp, Option.map_some, ha.eval hx, Sem.run_bind, e, Result.andThen_ok, Sem.run_pure]) (fun b => h b _ ⟨#[], 0, rfl, MsR.nil⟩)
theorem OW_mapUpS {mt kt et b : Nat} {ks : List (List UInt8)} {s : List UInt8} {C : Chunk} {A B : List Chunk} (hm : P.underlying mt = some (.map kt et)) (hkt : P.underlying kt = some .string) (hx : ev M x = some (.map (some b))) (hy : ev M y = some (.string (str s))) (hz : ev M z = some v)
    (hr : MsD b ks C) (hzip : Zip C L A B) (h : ∀ C', MsD b (insS ks s) C' → K M (A ++ C' :: B)) : OW P n ⟨none, .mapUpdate mt x y z, ty, ps, af, g⟩ K M L := ⟨fun a w next Q ha hw hk' => by
  obtain ⟨es, c, rfl, hr⟩ := hr
  have hL := hzip.eq
  subst hL
  have hw' := hw.perm List.perm_middle
  have hb : w.heap[b]? = some (.map es c) := (Fnd.here (L := A ++ B)).get hw'
  have hlt : b < w.heap.size := by
    rcases Nat.lt_or_ge b w.heap.size with h' | h'
    · exact h'
    · simp [Array.getElem?_eq_none h'] at hb
  have hik : IsKey .string (Value.string (str s)) := trivial
  have hc := run_checkKey (P := P) (w := w) hkt hik false 9999
  have hst := run_keyThatStays (P := P) (w := w) hik
  obtain ⟨es', c', hr', hrun⟩ : ∃ es' c', MsR es' (insS ks s) ∧ (execOp a.eval ⟨none, .mapUpdate mt x y z, ty, ps, af, g⟩).run P w = .ok .skip { w with heap := w.heap.setIfInBounds b (.map es' c') } := by
    rcases findNow_spec hik es.toList 0 hr.isKey with ⟨h1, h2⟩ | ⟨j, e0, h1, h3, h4⟩
    · have hno : s ∉ ks := fun hin => by
        have : Value.string (str s) ∈ es.toList.map (·.key) := by rw [hr.keys]; exact List.mem_map_of_mem hin
        obtain ⟨e, he, hek⟩ := List.mem_map.1 this
        exact h2 e he hek
      have hf := run_findKey (P := P) (w := w) hkt h1
      refine ⟨es.push { key := .string (str s), val := v, born := c }, c + 1, ?_, ?_⟩
      · unfold insS
        rw [if_neg hno]
        refine ⟨by simp [hr.keys], ?_⟩
        rw [List.nodup_append]
        exact ⟨hr.one, by simp, fun a ha b hb => by simp only [List.mem_singleton] at hb; subst hb; exact fun h => hno (h ▸ ha)⟩
      · simp only [execOp, ha.eval hx, ha.eval hy, ha.eval hz, Instr.mapUpdate, Sem.run_bind, run_underlying hm, Go.MapKept.run_getObj_map hb, Result.andThen_ok, Sem.run_pure, hc, hf, Go.MapKept.run_setObj_map _ hb]
    · have hin : s ∈ ks := by
        have : e0.key ∈ es.toList.map (·.key) := List.mem_map_of_mem (List.mem_of_getElem? h3)
        rw [hr.keys, h4] at this
        obtain ⟨q, hq, hqs⟩ := List.mem_map.1 this
        simp only [Value.string.injEq] at hqs
        rw [← str_inj.1 hqs]
        exact hq
      have h5 : es[j]? = some e0 := by simpa using h3
      have hf := run_findKey (P := P) (w := w) hkt h1
      refine ⟨es.modify j fun e => { e with key := .string (str s), val := v }, c, ?_, ?_⟩
      · unfold insS
        rw [if_pos hin]
        refine ⟨?_, hr.one⟩
        rw [← hr.keys]
        refine List.ext_getElem? fun i => ?_
        simp only [List.getElem?_map, Array.getElem?_toList, Array.getElem?_modify]
        by_cases hij : j = i
        · subst hij
          rw [if_pos rfl, h5]
          simp [h4]
        · rw [if_neg hij]
      · simp only [execOp, ha.eval hx, ha.eval hy, ha.eval hz, Instr.mapUpdate, Sem.run_bind, run_underlying hm, Go.MapKept.run_getObj_map hb, Result.andThen_ok, Sem.run_pure, hc, hf, Nat.zero_add, h5, Option.map_some, Option.getD_some, h4, hst, Go.MapKept.run_setObj_map _ hb]
  unfold Oper.wp
  rw [hrun, Oper.upon_skip]
  refine (hk' _ _ (h [(b, .map es' c')] ⟨es', c', rfl, hr'⟩)).out _ _ ha (Holds.perm (L := [(b, .map es' c')] :: (A ++ B)) ?_ List.perm_middle.symm)
  refine hw'.upd Upd.front ?_ (fun c2 hc2 => ?_) rfl rfl
  · show (w.heap.setIfInBounds b _)[b]? = _
    rw [Array.getElem?_setIfInBounds_self_of_lt hlt]
  · show (w.heap.setIfInBounds b _)[c2]? = _
    rw [Array.getElem?_setIfInBounds_ne (fun hh => hc2 hh.symm)]⟩
theorem EV_lenMap {t kt et b : Nat} {ks : List (List UInt8)} {C : Chunk} (hm : P.underlying t = some (.map kt et)) (hx : ev M x = some (.map (some b))) (hr : MsD b ks C) (hi : Inc [C] L) :
    EV P n ⟨some d, .call ⟨.builtin .len, #[x], #[t]⟩, ty, ps, af, g⟩ M L d (.int .i64 (ks.length : Int)) :=
  ⟨rfl, fun a w ha hw => by
    obtain ⟨es, c, rfl, hr⟩ := hr
    have hb : w.heap[b]? = some (.map es c) := (Fnd.here (L := [])).get (hi.holds hw)
    simp [execOp, resolve, invoke, builtin, ha.eval hx, Builtin.len_, run_underlying hm, getObj, Sem.run, hb, goInt, hr.len]⟩
end
end Go.Vx
namespace Go.Proofs.YtlomjmdgcpjepaaGreatDoor
open Go Go.Vx Go.Ob Go.Lib
set_option linter.all false
set_option maxRecDepth 4000
def ddS (l : List (List UInt8)) : List (List UInt8) := l.foldl insS []
theorem ddS_snoc (l : List (List UInt8)) (x : List UInt8) : ddS (l ++ [x]) = insS (ddS l) x := by simp [ddS]
theorem rev_ind {α : Type} {q : List α → Prop} (h0 : q []) (hs : ∀ l x, q l → q (l ++ [x])) (l : List α) : q l := by
  have : ∀ (n : Nat) (l : List α), l.length = n → q l := by
    intro n
    induction n with
    | zero => intro l hl; rw [List.eq_nil_of_length_eq_zero hl]; exact h0
    | succ n ih =>
      intro l hl
      rcases List.eq_nil_or_concat l with rfl | ⟨m, x, rfl⟩
      · exact h0
      · rw [List.concat_eq_append] at hl ⊢
        exact hs m x (ih m (by simp at hl; omega))
  exact this _ l rfl
theorem ddS_mem (l : List (List UInt8)) : ∀ x, x ∈ ddS l ↔ x ∈ l := by
  refine rev_ind (q := fun l => ∀ x, x ∈ ddS l ↔ x ∈ l) (fun x => by simp [ddS]) (fun l y ih x => ?_) l
  rw [ddS_snoc]
  unfold insS
  split
  · rename_i h
    rw [ih, List.mem_append, List.mem_singleton]
    rw [ih] at h
    exact ⟨.inl, fun hh => hh.elim id (fun e => e ▸ h)⟩
  · rw [List.mem_append, List.mem_append, ih]
theorem ddS_len (l : List (List UInt8)) : (ddS l).length ≤ l.length ∧ ((ddS l).length = l.length ↔ l.Nodup) := by
  refine rev_ind (q := fun l => (ddS l).length ≤ l.length ∧ ((ddS l).length = l.length ↔ l.Nodup)) ⟨Nat.le_refl _, by simp [ddS]⟩ (fun l y ih => ?_) l
  obtain ⟨h1, h2⟩ := ih
  rw [ddS_snoc]
  have hm := ddS_mem l y
  unfold insS
  by_cases h : y ∈ ddS l
  · rw [if_pos h]
    refine ⟨by simp; omega, ?_⟩
    constructor
    · intro e; simp at e; omega
    · intro hn
      rw [List.nodup_append] at hn
      exact absurd rfl (hn.2.2 y (hm.1 h) y (by simp))
  · rw [if_neg h]
    refine ⟨by simp; omega, ?_⟩
    have e : (ddS l ++ [y]).length = (l ++ [y]).length ↔ (ddS l).length = l.length := by simp
    rw [e, h2, List.nodup_append]
    exact ⟨fun hn => ⟨hn, by simp, fun a ha b hb => by simp only [List.mem_singleton] at hb; subst hb; exact fun hh => h (hm.2 (hh ▸ ha))⟩, fun hn => hn.1⟩
section
variable [W0]
theorem bytesequal_n (v1 v2 : Value) (a b : List UInt8) (L : List Chunk) (h1 : Sl L 1 v1 a.length (bsv a)) (h2 : Sl L 1 v2 b.length (bsv b)) : GvP Tryz.prog 36 [v1, v2].toArray L (.bool (decide (a = b))) := by
  refine Gv.of_body (args := [v1, v2]) Tryz.func36 rfl rfl ?_
  (repeat' first|refine kW ?_|refine kU fun bk=>?_|refine kV fun hc=>?_|refine kZ (fun hc=>?_) fun hc=>?_|fail)
  refine OW_EV (EV_convStr (b := a) rfl h1) rfl ?_
  (repeat' first|refine kW ?_|refine kU fun bk=>?_|refine kV fun hc=>?_|refine kZ (fun hc=>?_) fun hc=>?_|fail)
  refine OW_EV (EV_convStr (b := b) rfl h2) rfl ?_
  (repeat' first|refine kW ?_|refine kU fun bk=>?_|refine kV fun hc=>?_|refine kZ (fun hc=>?_) fun hc=>?_|fail)
  refine kR ?_
  refine ⟨_, iC, ?_, rfl⟩
  show Value.bool _ = Value.bool _
  congr 1
  rw [Bool.eq_iff_iff, decide_eq_true_eq, decide_eq_true_eq]
  exact str_inj
theorem differ_n (v : Value) (l : List (List UInt8)) (L : List Chunk) (h : Sl L 1 v l.length (ssv l)) (hl : l.length ≤ 100000000000) : GvP Tryz.prog 142 [v].toArray L (.bool (decide l.Nodup)) := by
  obtain ⟨a0, c0, rfl⟩ := sl_shape h
  refine Gv.of_body (args := [.slice a0 l.length c0]) Tryz.func142 rfl rfl ?_
  (repeat' first|refine kW ?_|refine kU fun bk=>?_|refine kV fun hc=>?_|refine kZ (fun hc=>?_) fun hc=>?_|fail)
  refine OW_makeMapH rfl rfl rfl (fun b C hC => ?_)
  (repeat' first|refine kW ?_|refine kU fun bk=>?_|refine kV fun hc=>?_|refine kZ (fun hc=>?_) fun hc=>?_|fail)
  refine WC_loop (X := Nat × Chunk) (fun x => [(0, .slice a0 l.length c0), (3, .map (some b)), (9, .slice a0 l.length c0), (10, .int .i64 (l.length : Int)), (11, .int .i64 (x.1 : Int))]) (fun x => x.2 :: L)
    (fun x => x.1 ≤ l.length ∧ MsD b (ddS (l.take x.1)) x.2) (fun x => l.length - x.1) (0, C) ⟨Nat.zero_le _, hC⟩ iS (fun w h => h) ?_
  intro x ⟨h1, h2⟩
  obtain ⟨k, C⟩ := x
  simp only at h1 h2 ⊢
  (repeat' first|refine kW ?_|refine kU fun bk=>?_|refine kV fun hc=>?_|refine kZ (fun hc=>?_) fun hc=>?_|fail)
  · have hk : k < l.length := by omega
    obtain ⟨e, he⟩ : ∃ e, l[k]? = some e := ⟨l[k], by simp [hk]⟩
    obtain ⟨b1, off, cap, c, T, fr, hv, hfn, g0⟩ := sl_at1 h he
    injection hv with e1 _ e3
    subst e1 e3
    refine OW_EV (EV_indexAddr (j := k) rfl rfl rfl hk) rfl ?_
    (repeat' first|refine kW ?_|refine kU fun bk=>?_|refine kV fun hc=>?_|refine kZ (fun hc=>?_) fun hc=>?_|fail)
    refine OW_EV (EV_load rfl hfn.there g0) rfl ?_
    (repeat' first|refine kW ?_|refine kU fun bk=>?_|refine kV fun hc=>?_|refine kZ (fun hc=>?_) fun hc=>?_|fail)
    refine OW_mapUpS rfl rfl rfl rfl rfl h2 (by repeat (first | exact Zip.here _ | apply Zip.there)) (fun C' hC' => ?_)
    (repeat' first|refine kW ?_|refine kU fun bk=>?_|refine kV fun hc=>?_|refine kZ (fun hc=>?_) fun hc=>?_|fail)
    refine WQ_round (X := Nat × Chunk) (μ := fun x => l.length - x.1) (x := (k, C)) (k + 1, C') (by simp only; omega) ⟨by simp only; omega, ?_⟩ iS (fun w h => h)
    simp only
    rw [List.take_add_one, he]
    show MsD b (ddS (l.take k ++ [e])) C'
    rw [ddS_snoc]
    exact hC'
  · have hk : k = l.length := by omega
    rw [List.take_of_length_le (by omega)] at h2
    refine OW_EV (EV_lenMap rfl rfl h2 iC) rfl ?_
    (repeat' first|refine kW ?_|refine kU fun bk=>?_|refine kV fun hc=>?_|refine kZ (fun hc=>?_) fun hc=>?_|fail)
    refine kR ?_
    refine ⟨_, iC, ?_, rfl⟩
    show Value.bool _ = Value.bool _
    congr 1
    have := (ddS_len l).2
    rw [Bool.eq_iff_iff, decide_eq_true_eq, beq_iff_eq, ← this]
    omega
end
end Go.Proofs.YtlomjmdgcpjepaaGreatDoor
namespace Go.Ob
open Go Go.Lib Go.Vx Go.Proofs.YtlomjmdgcpjepaaGreatDoor
set_option linter.all false
set_option maxRecDepth 4000
variable [W0]
theorem rdT_fuel : ∀ (f g : Nat) (s : List UInt8), s.length ≤ f → s.length ≤ g → rdT f s = rdT g s
  | 0, 0, s, _, _ => rfl
  | 0, g + 1, s, h, _ => by
    have : s = [] := List.eq_nil_of_length_eq_zero (by omega)
    subst this; rfl
  | f + 1, 0, s, _, h => by
    have : s = [] := List.eq_nil_of_length_eq_zero (by omega)
    subst this; rfl
  | f + 1, g + 1, s, h1, h2 => by
    unfold rdT
    by_cases hs : s = []
    · rw [if_pos hs, if_pos hs]
    · rw [if_neg hs, if_neg hs]
      have l1 := cutN_len 32 s
      have l2 := cutN_len 0 (cutN 32 s).2
      have l0 : 0 < s.length := List.length_pos_iff.2 hs
      have := rdT_fuel f g ((cutN 0 (cutN 32 s).2).2.drop 20) (by simp only [List.length_drop]; omega) (by simp only [List.length_drop]; omega)
      rw [this]
def rdTr (s : List UInt8) : List Et := rdT s.length s
theorem rdTr_nil : rdTr [] = [] := rfl
theorem rdTr_step (s : List UInt8) (hs : s ≠ []) : rdTr s = ⟨(cutN 32 s).1, (cutN 0 (cutN 32 s).2).1, hexL ((cutN 0 (cutN 32 s).2).2.take 20)⟩ :: rdTr ((cutN 0 (cutN 32 s).2).2.drop 20) := by
  have l0 : 0 < s.length := List.length_pos_iff.2 hs
  have l1 := cutN_len 32 s
  have l2 := cutN_len 0 (cutN 32 s).2
  unfold rdTr
  obtain ⟨n, hn⟩ : ∃ n, s.length = n + 1 := ⟨s.length - 1, by omega⟩
  rw [hn]
  conv => lhs; unfold rdT
  rw [if_neg hs, rdT_fuel n _ _ (by simp only [List.length_drop]; omega) (Nat.le_refl _)]
theorem rdTr_pr : ∀ l : List Et, (∀ x ∈ l, (32 : UInt8) ∉ x.m ∧ (0 : UInt8) ∉ x.n ∧ ∃ t : List UInt8, t.length = 20 ∧ x.i = hexL t) → rdTr (prT l) = l
  | [], _ => rfl
  | x :: r, h => by
    obtain ⟨h1, h2, t, ht, hi⟩ := h x (by simp)
    have ih := rdTr_pr r fun y hy => h y (List.mem_cons_of_mem _ hy)
    have hr : rawL x.i = t := by
      unfold rawL hshB
      rw [hi, unB_hex, hexL_length, ht, decide_eq_true (by omega), Bool.true_and, if_pos rfl, unL_hex]
    have e : prT (x :: r) = x.m ++ 32 :: (x.n ++ 0 :: (t ++ prT r)) := by simp [prT, prE, hr]
    rw [e, rdTr_step _ (by simp), cutN_app 32 _ x.m h1]
    simp only
    rw [cutN_app 0 _ x.n h2]
    simp only
    have d1 : (t ++ prT r).take 20 = t := by rw [List.take_append_of_le_length (by omega), List.take_of_length_le (by omega)]
    have d2 : (t ++ prT r).drop 20 = prT r := by rw [List.drop_append_of_le_length (by omega), List.drop_of_length_le (by omega), List.nil_append]
    rw [d1, d2, ih, ← hi]
end Go.Ob
namespace Go.Proofs.YtlomjmdgcpjepaaGreatDoor
open Go Go.Vx Go.Ob Go.Lib Go.RowKit
set_option linter.all false
set_option maxRecDepth 4000
def enB (s : List UInt8) : Bool := decide (s ≠ []) && decide (s ≠ [46]) && decide (s ≠ [46, 46]) && !Lib.equalFold s sGit && consB inN s
variable [W0]
theorem ismode_n (m : List UInt8) (L : List Chunk) : GvP Tryz.prog 140 [.string (str m)].toArray L (.bool (modB m)) := by
  refine Gv.of_body (args := [.string (str m)]) Tryz.func140 rfl rfl ?_
  have q1 : (str m = ({ data := #[49, 48, 48, 54, 52, 52] } : ByteArray)) = (m = mFile) := propext (str_inj (b := mFile))
  have q2 : (str m = ({ data := #[49, 48, 48, 55, 53, 53] } : ByteArray)) = (m = mProg) := propext (str_inj (b := mProg))
  have q3 : (str m = ({ data := #[49, 50, 48, 48, 48, 48] } : ByteArray)) = (m = mLink) := propext (str_inj (b := mLink))
  have q4 : (str m = ({ data := #[52, 48, 48, 48, 48] } : ByteArray)) = (m = mDir) := propext (str_inj (b := mDir))
  have q5 : (str m = ({ data := #[49, 54, 48, 48, 48, 48] } : ByteArray)) = (m = mMod) := propext (str_inj (b := mMod))
  (repeat' first|refine kW ?_|refine kU fun bk=>?_|refine kV fun hc=>?_|refine kZ (fun hc=>?_) fun hc=>?_|fail)
  all_goals simp only [q1, q2, q3, q4, q5] at *
  all_goals try contradiction
  all_goals refine kR ?_
  all_goals refine ⟨L, iC, ?_, rfl⟩
  all_goals unfold modB
  all_goals show Value.bool _ = Value.bool _
  all_goals congr 1
  all_goals simp [*]
theorem inentry_n (c : Nat) (L : List Chunk) : GvP Tryz.prog 144 [.int .i32 (c : Int)].toArray L (.bool (inN c)) := by
  refine Gv.of_body Tryz.func144 rfl rfl ?_
  (repeat' first|refine kW ?_|refine kU fun bk=>?_|refine kV fun hc=>?_|refine kZ (fun hc=>?_) fun hc=>?_|fail)
  all_goals (refine kR ?_; refine ⟨L, iC, ?_, rfl⟩; unfold inN; show Value.bool _ = Value.bool _; congr 1; rw [Bool.eq_iff_iff]; simp; omega)
theorem fold_n (s : List UInt8) (L : List Chunk) (hs : s.length < 4294967281) (ha : ∀ b ∈ s, b.toNat < 128) : GvP Tryz.prog 143 [.string (str s), .string (str sGit)].toArray L (.bool (Lib.equalFold s sGit)) :=
  GvP.of_below fun w hw => (Any.strings_EqualFold sh_f (str s) (str sGit) w hs (fun j b hb => ha b (List.mem_of_getElem? hb)) (fun j b hb => by
    have : ∀ b ∈ sGit, b.toNat < 128 := by decide
    exact this b (List.mem_of_getElem? hb))).mono (by rintro e w' ⟨rfl, rfl⟩; exact ⟨rfl, Below.refl _ _⟩)
theorem isentry_n (s : List UInt8) (L : List Chunk) (hb : BsAt L) (hs : s.length < 4294967281) (ha : ∀ b ∈ s, b.toNat < 128) : GvP Tryz.prog 141 [.string (str s)].toArray L (.bool (enB s)) := by
  refine Gv.of_body (args := [.string (str s)]) Tryz.func141 rfl rfl ?_
  have q1 : (str s = ({ data := #[] } : ByteArray)) = (s = []) := propext (str_inj (b := []))
  have q2 : (str s = ({ data := #[46] } : ByteArray)) = (s = [46]) := propext (str_inj (b := [46]))
  have q3 : (str s = ({ data := #[46, 46] } : ByteArray)) = (s = [46, 46]) := propext (str_inj (b := [46, 46]))
  (repeat' first|refine kW ?_|refine kU fun bk=>?_|refine kV fun hc=>?_|refine kZ (fun hc=>?_) fun hc=>?_|fail)
  all_goals simp only [q1, q2, q3] at *
  all_goals try contradiction
  · refine kR ?_
    exact ⟨L, iC, by unfold enB; simp [*]; rfl, rfl⟩
  · refine kR ?_
    exact ⟨L, iC, by unfold enB; simp [*]; rfl, rfl⟩
  · refine kR ?_
    exact ⟨L, iC, by unfold enB; simp [*]; rfl, rfl⟩
  · refine OW_callP rfl rfl rfl (fold_n s L hs ha) rfl ?_
    have hcs := consists_n inN _ inentry_n s L hb (by omega)
    cases hf : Lib.equalFold s sGit with
    | true =>
      (repeat' first|refine kW ?_|refine kU fun bk=>?_|refine kV fun hc=>?_|refine kZ (fun hc=>?_) fun hc=>?_|fail)
      refine kR ?_
      exact ⟨L, iC, by unfold enB; simp [*]; rfl, rfl⟩
    | false =>
      (repeat' first|refine kW ?_|refine kU fun bk=>?_|refine kV fun hc=>?_|refine kZ (fun hc=>?_) fun hc=>?_|fail)
      refine OW_callP rfl rfl rfl hcs rfl ?_
      (repeat' first|refine kW ?_|refine kU fun bk=>?_|refine kV fun hc=>?_|refine kZ (fun hc=>?_) fun hc=>?_|fail)
      refine kR ?_
      exact ⟨L, iC, by unfold enB; simp [*]; rfl, rfl⟩
end Go.Proofs.YtlomjmdgcpjepaaGreatDoor
namespace Go.Proofs.YtlomjmdgcpjepaaGreatDoor
open Go Go.Vx Go.Ob Go.Lib
set_option linter.all false
set_option maxRecDepth 4000
theorem bl_irr : ∀ a : List UInt8, Op.bytesLess a a = false
  | [] => by simp [Op.bytesLess]
  | x :: t => by
    have := bl_irr t
    simp [Op.bytesLess, this, UInt8.lt_irrefl]
theorem bl_cons (x y : UInt8) (a b : List UInt8) : Op.bytesLess (x :: a) (y :: b) = true ↔ x < y ∨ (x = y ∧ Op.bytesLess a b = true) := by
  have : Op.bytesLess (x :: a) (y :: b) = (decide (x < y) || (x == y && Op.bytesLess a b)) := by simp only [Op.bytesLess]
  rw [this]
  simp
theorem bl_trans : ∀ a b c : List UInt8, Op.bytesLess a b = true → Op.bytesLess b c = true → Op.bytesLess a c = true
  | [], b, [], _, h => by cases b <;> simp [Op.bytesLess] at h
  | [], b, z :: c, _, _ => by simp [Op.bytesLess]
  | x :: a, [], c, h, _ => by simp [Op.bytesLess] at h
  | x :: a, y :: b, [], _, h => by simp [Op.bytesLess] at h
  | x :: a, y :: b, z :: c, h1, h2 => by
    rw [bl_cons] at h1 h2 ⊢
    rcases h1 with h1 | ⟨rfl, h1⟩
    · rcases h2 with h2 | ⟨rfl, h2⟩
      · exact .inl (UInt8.lt_trans h1 h2)
      · exact .inl h1
    · rcases h2 with h2 | ⟨rfl, h2⟩
      · exact .inl h2
      · exact .inr ⟨rfl, bl_trans a b c h1 h2⟩
theorem les_irr (x : Et) : lesE x x = false := bl_irr _
theorem les_trans {x y z : Et} (h1 : lesE x y = true) (h2 : lesE y z = true) : lesE x z = true := bl_trans _ _ _ h1 h2
theorem les_anti {x y : Et} (h1 : lesE x y = true) : lesE y x = false := by
  rw [← Bool.not_eq_true]
  intro h2
  have := les_trans h1 h2
  rw [les_irr] at this
  exact absurd this (by decide)
variable [W0]
end Go.Proofs.YtlomjmdgcpjepaaGreatDoor
namespace Go.So
set_option linter.all false
variable {α : Type}
def swp (f : Nat → α) (i j : Nat) : Nat → α := fun k => if k = i then f j else if k = j then f i else f k
def upd (f : Nat → α) (i : Nat) (y : α) : Nat → α := fun k => if k = i then y else f k
theorem upd_swp (f : Nat → α) (i j : Nat) : upd (upd f i (f j)) j (f i) = swp f i j := by
  funext k
  simp only [upd, swp]
  by_cases h1 : k = j
  · by_cases h2 : k = i
    · subst h1; subst h2; simp
    · rw [if_pos h1, if_neg h2, if_pos h1]
  · rw [if_neg h1]
    by_cases h2 : k = i
    · rw [if_pos h2, if_pos h2]
    · rw [if_neg h2, if_neg h2, if_neg h1]
inductive Mv (a b : Nat) : (Nat → α) → (Nat → α) → Prop
  | refl (f) : Mv a b f f
  | step {f g i j} : Mv a b f g → a ≤ i → i < b → a ≤ j → j < b → Mv a b f (swp g i j)
theorem Mv.one {a b i j : Nat} (f : Nat → α) (h1 : a ≤ i) (h2 : i < b) (h3 : a ≤ j) (h4 : j < b) : Mv a b f (swp f i j) := .step (.refl f) h1 h2 h3 h4
theorem Mv.trans {a b : Nat} {f g h : Nat → α} (h1 : Mv a b f g) (h2 : Mv a b g h) : Mv a b f h := by
  induction h2 with
  | refl => exact h1
  | step _ p q r s ih => exact ih.step p q r s
theorem Mv.mono {a b c d : Nat} {f g : Nat → α} (h : Mv a b f g) (h1 : c ≤ a) (h2 : b ≤ d) : Mv c d f g := by
  induction h with
  | refl => exact .refl _
  | step _ p q r s ih => exact ih.step (by omega) (by omega) (by omega) (by omega)
theorem Mv.out {a b : Nat} {f g : Nat → α} (h : Mv a b f g) {k : Nat} (hk : k < a ∨ b ≤ k) : g k = f k := by
  induction h with
  | refl => rfl
  | step _ p q r s ih =>
    simp only [swp]
    rw [if_neg (by omega), if_neg (by omega)]
    exact ih
theorem Mv.all {a b : Nat} {f g : Nat → α} (h : Mv a b f g) {p : α → Prop} (hp : ∀ k, a ≤ k → k < b → p (f k)) : ∀ k, a ≤ k → k < b → p (g k) := by
  induction h with
  | refl => exact hp
  | @step g i j _ h1 h2 h3 h4 ih =>
    intro k hk1 hk2
    simp only [swp]
    split
    · exact ih j h3 h4
    · split
      · exact ih i h1 h2
      · exact ih k hk1 hk2
theorem swp_perm (f : Nat → α) {i j n : Nat} (hi : i < n) (hj : j < n) : ((List.range n).map (swp f i j)).Perm ((List.range n).map f) := by
  have e : swp f i j = fun k => f (swp id i j k) := by
    funext k
    simp only [swp, id]
    split
    · rfl
    · split <;> rfl
  have hs : ((List.range n).map (swp id i j)).Perm (List.range n) := by
    refine (List.perm_ext_iff_of_nodup ?_ List.nodup_range).2 fun x => ?_
    · refine List.Pairwise.map _ (fun a b hab => ?_) List.nodup_range
      intro he
      apply hab
      simp only [swp, id] at he
      split at he <;> split at he <;> (try split at he) <;> (try split at he) <;> omega
    · simp only [List.mem_map, List.mem_range]
      constructor
      · rintro ⟨k, hk, rfl⟩
        simp only [swp, id]
        split
        · exact hj
        · split
          · exact hi
          · exact hk
      · intro hx
        refine ⟨swp id i j x, ?_, ?_⟩
        · simp only [swp, id]
          split
          · exact hj
          · split
            · exact hi
            · exact hx
        · simp only [swp, id]
          split <;> (try split) <;> (try split) <;> (try split) <;> omega
  have e2 : (List.range n).map (fun k => f (swp id i j k)) = ((List.range n).map (swp id i j)).map f := by rw [List.map_map]; rfl
  rw [e, e2]
  exact hs.map f
theorem Mv.perm {a b n : Nat} {f g : Nat → α} (h : Mv a b f g) (hb : b ≤ n) : ((List.range n).map g).Perm ((List.range n).map f) := by
  induction h with
  | refl => exact .refl _
  | step _ p q r s ih => exact (swp_perm _ (by omega) (by omega)).trans ih
def Srt (key : α → Nat) (a b : Nat) (f : Nat → α) : Prop := ∀ i j, a ≤ i → i ≤ j → j < b → key (f i) ≤ key (f j)
theorem Srt.sub {key : α → Nat} {a b c d : Nat} {f : Nat → α} (h : Srt key a b f) (h1 : a ≤ c) (h2 : d ≤ b) : Srt key c d f := fun i j p q r => h i j (by omega) q (by omega)
theorem Srt.congr {key : α → Nat} {a b : Nat} {f g : Nat → α} (h : Srt key a b f) (he : ∀ k, a ≤ k → k < b → g k = f k) : Srt key a b g := fun i j p q r => by
  rw [he i p (by omega), he j (by omega) r]; exact h i j p q r
end Go.So
namespace Go.Proofs.YtlomjmdgcpjepaaGreatDoor
open Go Go.Vx Go.Ob Go.Lib Go.So
set_option linter.all false
set_option maxRecDepth 4000
def oneQ (x : Et) : Bool := modB x.m && enB x.n && hshB x.i && decide (x.i ≠ zrL)
def ordQ (l : List Et) : Nat → Et → Bool
  | 0, _ => true
  | k + 1, x => match l[k]? with
    | none => true
    | some y => lesE y x
def atQ (l : List Et) (j : Nat) : Bool := match l[j]? with
  | none => true
  | some x => oneQ x && ordQ l j x
def vlQ (l : List Et) : Bool := (List.range l.length).all (atQ l) && decide (l.map Et.n).Nodup
theorem vlQ_bad {l : List Et} {j : Nat} (h : atQ l j = false) : vlQ l = false := by
  have hj : j < l.length := by
    rcases Nat.lt_or_ge j l.length with h' | h'
    · exact h'
    · simp [atQ, List.getElem?_eq_none h'] at h
  have : (List.range l.length).all (atQ l) = false := by rw [List.all_eq_false]; exact ⟨j, List.mem_range.2 hj, by rw [h]; decide⟩
  unfold vlQ
  rw [this]; rfl
theorem vlQ_end {l : List Et} (h : (List.range l.length).all (atQ l) = true) : vlQ l = decide (l.map Et.n).Nodup := by unfold vlQ; rw [h, Bool.true_and]
theorem bl_nil_cons (x : UInt8) (a : List UInt8) : Op.bytesLess [] (x :: a) = true := by simp [Op.bytesLess]
theorem bl_tot : ∀ a b : List UInt8, a ≠ b → Op.bytesLess a b = true ∨ Op.bytesLess b a = true
  | [], [], h => absurd rfl h
  | [], y :: b, _ => .inl (bl_nil_cons y b)
  | x :: a, [], _ => .inr (bl_nil_cons x a)
  | x :: a, y :: b, h => by
    rw [bl_cons, bl_cons]
    by_cases h1 : x < y
    · exact .inl (.inl h1)
    · by_cases h2 : y < x
      · exact .inr (.inl h2)
      · have e : x = y := by
          apply UInt8.toNat_inj.1
          have q1 : ¬ x.toNat < y.toNat := fun h => h1 (UInt8.lt_iff_toNat_lt.2 h)
          have q2 : ¬ y.toNat < x.toNat := fun h => h2 (UInt8.lt_iff_toNat_lt.2 h)
          omega
        subst e
        rcases bl_tot a b (fun e => h (by rw [e])) with h3 | h3
        · exact .inl (.inr ⟨rfl, h3⟩)
        · exact .inr (.inr ⟨rfl, h3⟩)
theorem key_inj {x y : Et} (hx : (47 : UInt8) ∉ x.n) (hy : (47 : UInt8) ∉ y.n) (h : keyL x.m x.n = keyL y.m y.n) : x.n = y.n := by
  unfold keyL at h
  split at h <;> split at h
  · exact (List.append_inj' h rfl).1
  · exact absurd (by rw [← h]; simp) hy
  · exact absurd (by rw [h]; simp) hx
  · exact h
theorem les_tot {x y : Et} (hx : (47 : UInt8) ∉ x.n) (hy : (47 : UInt8) ∉ y.n) (h : x.n ≠ y.n) (h1 : lesE x y = false) : lesE y x = true := by
  rcases bl_tot (keyL x.m x.n) (keyL y.m y.n) (fun e => h (key_inj hx hy e)) with h2 | h2
  · unfold lesE at h1; rw [h1] at h2; exact absurd h2 (by decide)
  · exact h2
def lf (g : Nat → Et) (N : Nat) : List Et := (List.range N).map g
theorem lf_len (g : Nat → Et) (N : Nat) : (lf g N).length = N := by simp [lf]
theorem lf_at (g : Nat → Et) {N j : Nat} (h : j < N) : (lf g N)[j]? = some (g j) := by simp [lf, h]
theorem lf_mem {g : Nat → Et} {N : Nat} {x : Et} (h : x ∈ lf g N) : ∃ j, j < N ∧ x = g j := by
  simp only [lf, List.mem_map, List.mem_range] at h
  obtain ⟨j, h1, h2⟩ := h
  exact ⟨j, h1, h2.symm⟩
theorem lf_snoc (g : Nat → Et) (N : Nat) : lf g (N + 1) = lf g N ++ [g N] := by simp [lf, List.range_succ]
theorem lf_upd (g : Nat → Et) (N j : Nat) (y : Et) : lf (upd g j y) N = (lf g N).set j y := by
  refine List.ext_getElem? fun k => ?_
  rw [List.getElem?_set]
  by_cases hk : k < N
  · rw [lf_at _ hk, lf_at _ hk, lf_len]
    unfold upd
    by_cases e : j = k
    · subst e; rw [if_pos rfl, if_pos rfl, if_pos hk]
    · rw [if_neg (Ne.symm e), if_neg e]
  · rw [List.getElem?_eq_none (by rw [lf_len]; omega), List.getElem?_eq_none (by rw [lf_len]; omega), lf_len]
    split
    · rw [if_neg (by omega)]
    · rfl
theorem etc_split : ∀ {l : List Et} {j : Nat} {x : Et}, l[j]? = some x → ∃ A B, etc l = A ++ (etc [x] ++ B) ∧ A.length = j * 3 ∧ ∀ y, etc (l.set j y) = A ++ (etc [y] ++ B)
  | [], _, _, h => by simp at h
  | z :: r, 0, x, h => by
    simp at h; subst h
    exact ⟨[], etc r, rfl, rfl, fun y => rfl⟩
  | z :: r, j + 1, x, h => by
    obtain ⟨A, B, h1, h2, h3⟩ := etc_split (l := r) (j := j) (x := x) (by simpa using h)
    exact ⟨etc [z] ++ A, B, by show etc [z] ++ etc r = _; rw [h1, List.append_assoc], by rw [List.length_append, h2]; show 3 + _ = _; omega, fun y => by
      show etc [z] ++ etc (r.set j y) = _; rw [h3, List.append_assoc]⟩
theorem et_rd [W0] {l : List Et} {j b : Nat} {x : Et} {rest : List Value} {T : TypeId} {L : List Chunk} (hj : l[j]? = some x) (hf : Fnd L b (cl (etc l ++ rest) T)) : RdAt L ⟨b, j * 3, none⟩ (etc [x]) := by
  obtain ⟨A, B, h1, h2, _⟩ := etc_split hj
  refine RdAt.cl' hf ?_
  rw [h1, Vx.cut, List.append_assoc, ← h2, List.drop_left, List.append_assoc, List.take_left' rfl]
theorem et_patch {l : List Et} {j : Nat} {x y : Et} {rest : List Value} (hj : l[j]? = some x) : patch (etc l ++ rest) (j * 3) (etc [y]) = etc (l.set j y) ++ rest := by
  obtain ⟨A, B, h1, h2, h3⟩ := etc_split hj
  rw [h1, h3, patch, ← h2]
  have hl : A.length + (etc [y]).length = (A ++ etc [x]).length := by simp [etc]
  have e1 : A ++ (etc [x] ++ B) ++ rest = A ++ (etc [x] ++ (B ++ rest)) := by simp
  have e2 : A ++ (etc [x] ++ B) ++ rest = (A ++ etc [x]) ++ (B ++ rest) := by simp
  have t1 : (A ++ (etc [x] ++ B) ++ rest).take A.length = A := by rw [e1, List.take_left]
  have t2 : (A ++ (etc [x] ++ B) ++ rest).drop (A.length + (etc [y]).length) = B ++ rest := by rw [hl, e2, List.drop_left]
  rw [t1, t2]
  simp
def SrE (a b : Nat) (f : Nat → Et) : Prop := ∀ i j, a ≤ i → i < j → j < b → lesE (f i) (f j) = true
structure GdE (x : Et) : Prop where
  q : oneQ x = true
  m : x.m = mFile ∨ x.m = mDir
  n0 : (0 : UInt8) ∉ x.n
  n47 : (47 : UInt8) ∉ x.n
  na : ∀ b ∈ x.n, b.toNat < 128
  nl : x.n.length ≤ 3
  i : ∃ t : List UInt8, t.length = 20 ∧ x.i = hexL t
theorem GdE.m32 {x : Et} (h : GdE x) : (32 : UInt8) ∉ x.m := by rcases h.m with e | e <;> rw [e] <;> decide
theorem GdE.ml {x : Et} (h : GdE x) : x.m.length ≤ 6 := by rcases h.m with e | e <;> rw [e] <;> decide
theorem GdE.il [W0] {x : Et} (h : GdE x) : x.i.length = 40 := by obtain ⟨t, h1, h2⟩ := h.i; rw [h2, hexL_length, h1]
theorem gd_rd [W0] {l : List Et} (h : ∀ x ∈ l, GdE x) : rdTr (prT l) = l := rdTr_pr l fun x hx => ⟨(h x hx).m32, (h x hx).n0, (h x hx).i⟩
theorem prT_gd [W0] : ∀ {l : List Et}, (∀ x ∈ l, GdE x) → (prT l).length ≤ l.length * 31
  | [], _ => Nat.zero_le _
  | x :: r, h => by
    have := prT_gd (l := r) fun y hy => h y (List.mem_cons_of_mem _ hy)
    have h1 := (h x (by simp)).ml
    have h2 := (h x (by simp)).nl
    simp only [prT, prE, List.length_append, List.length_cons, List.length_nil, rawL_len]
    omega
theorem vlQ_yes {g : Nat → Et} {N : Nat} (hg : ∀ k, k < N → GdE (g k)) (hs : SrE 0 N g) (hn : ((lf g N).map Et.n).Nodup) : vlQ (lf g N) = true := by
  unfold vlQ
  rw [decide_eq_true hn, Bool.and_true, List.all_eq_true]
  intro j hj
  rw [List.mem_range, lf_len] at hj
  unfold atQ
  rw [lf_at g hj]
  show (oneQ (g j) && ordQ (lf g N) j (g j)) = true
  rw [(hg j hj).q, Bool.true_and]
  match j, hj with
  | 0, _ => rfl
  | k + 1, hj =>
    show (match (lf g N)[k]? with | none => true | some y => lesE y (g (k + 1))) = true
    rw [lf_at g (by omega)]
    exact hs k (k + 1) (Nat.zero_le _) (by omega) hj
theorem vlQ_no {g : Nat → Et} {N k : Nat} (hs : SrE 0 N g) (hk : k + 1 < N) : vlQ (lf (swp g k (k + 1)) N) = false := by
  refine vlQ_bad (j := k + 1) ?_
  unfold atQ
  rw [lf_at _ hk]
  show (oneQ (swp g k (k + 1) (k + 1)) && (match (lf (swp g k (k + 1)) N)[k]? with | none => true | some y => lesE y (swp g k (k + 1) (k + 1)))) = false
  rw [lf_at _ (by omega)]
  have e1 : swp g k (k + 1) k = g (k + 1) := by simp [swp]
  have e2 : swp g k (k + 1) (k + 1) = g k := by simp [swp]
  simp only [e1, e2]
  rw [les_anti (hs k (k + 1) (Nat.zero_le _) (by omega) hk), Bool.and_false]
def sfT : Nat → List UInt8
  | 0 => []
  | 1 => [46]
  | _ => [48]
def nmT (i : Nat) : List UInt8 := [110] ++ [UInt8.ofNat (97 + i / 2)] ++ sfT (i % 3)
def eT (fl : Nat → Bool) (i : Nat) : Et := ⟨if fl i then mDir else mFile, nmT i, idL 3 [UInt8.ofNat i]⟩
theorem nmT_inj : ∀ i, i < 8 → ∀ j, j < 8 → nmT i = nmT j → i = j := by decide
theorem nmT_ens : (List.range 8).all (fun i => enB (nmT i)) = true := by kernel_rfl
theorem nmT_en (i : Nat) (hi : i < 8) : enB (nmT i) = true := List.all_eq_true.1 nmT_ens i (List.mem_range.2 hi)
theorem nmT_ok : ∀ i, i < 8 → (0 : UInt8) ∉ nmT i ∧ (47 : UInt8) ∉ nmT i ∧ (∀ b ∈ nmT i, b.toNat < 128) ∧ (nmT i).length ≤ 3 := by decide
theorem idT_nes : (List.range 8).all (fun i => decide (idL 3 [UInt8.ofNat i] ≠ zrL)) = true := by kernel_rfl
theorem idT_ne (i : Nat) (hi : i < 8) : decide (idL 3 [UInt8.ofNat i] ≠ zrL) = true := List.all_eq_true.1 idT_nes i (List.mem_range.2 hi)
theorem eT_gd [W0] (fl : Nat → Bool) {i : Nat} (hi : i < 8) : GdE (eT fl i) := by
  obtain ⟨h1, h2, h3, h4⟩ := nmT_ok i hi
  refine ⟨?_, ?_, h1, h2, h3, h4, ⟨shaN (hdL 3 1 ++ [UInt8.ofNat i]), shaN_length _, rfl⟩⟩
  · have e1 : modB (eT fl i).m = true := by
      show modB (if fl i then mDir else mFile) = true
      split <;> rfl
    have e2 : hshB (idL 3 [UInt8.ofNat i]) = true := by
      unfold hshB idL
      rw [unB_hex, hexL_length, shaN_length]
      rfl
    unfold oneQ
    rw [e1]
    show (true && enB (nmT i) && hshB (idL 3 [UInt8.ofNat i]) && decide (idL 3 [UInt8.ofNat i] ≠ zrL)) = true
    rw [nmT_en i hi, e2, idT_ne i hi]
    rfl
  · show (if fl i then mDir else mFile) = mFile ∨ (if fl i then mDir else mFile) = mDir
    cases fl i
    · exact .inl rfl
    · exact .inr rfl
theorem eT_nodup (fl : Nat → Bool) {N : Nat} (hN : N ≤ 8) : ((lf (eT fl) N).map Et.n).Nodup := by
  have e : (lf (eT fl) N).map Et.n = (List.range N).map nmT := by simp [lf, eT]
  rw [e, List.nodup_iff_pairwise_ne, List.pairwise_map]
  refine List.Pairwise.imp_of_mem ?_ List.nodup_range
  intro a b ha hb hab he
  rw [List.mem_range] at ha hb
  exact hab (nmT_inj a (by omega) b (by omega) he)
theorem mv_ne {f g : Nat → Et} {N : Nat} (h : Mv 0 N f g) (hn : ((lf f N).map Et.n).Nodup) : ((lf g N).map Et.n).Nodup :=
  ((h.perm (Nat.le_refl N)).map Et.n).nodup_iff.2 hn
theorem nd_at {g : Nat → Et} {N i j : Nat} (hn : ((lf g N).map Et.n).Nodup) (hi : i < N) (hj : j < N) (hij : i ≠ j) : (g i).n ≠ (g j).n := by
  intro he
  have e : (lf g N).map Et.n = (List.range N).map fun k => (g k).n := by simp [lf]
  rw [e] at hn
  have h1 : ((List.range N).map fun k => (g k).n)[i]? = some (g i).n := by simp [hi]
  have h2 : ((List.range N).map fun k => (g k).n)[j]? = some (g j).n := by simp [hj]
  rw [← he] at h2
  exact hij ((List.getElem?_inj (by simpa using hi) hn).1 (h1.trans h2.symm))
end Go.Proofs.YtlomjmdgcpjepaaGreatDoor
namespace Go.Ob
open Go Go.Vx
set_option linter.all false
def mthV (P : Program) (t : Nat) (name : String) : Option FuncId := match P.info? t with
  | some i => match i.methods.find? (·.name == name) with
    | some m => match m.path.toList, m.func, P.underlying t with
      | [], some (f, false), some (.struct _) => some f
      | _, _, _ => none
    | none => none
  | none => none
theorem methodV_run {P : Program} {t : Nat} {name : String} {f : FuncId} (h : mthV P t name = some f) (fuel : Nat) (v : Value) [W0] (w : World) : (method (fuel + 1) t v name).run P w = .ok (f, v) w := by
  unfold mthV at h
  split at h
  · rename_i i hi
    split at h
    · rename_i m hm
      split at h
      · rename_i f' e h1 h2 h3
        simp at h
        subst h
        unfold method
        simp [typeInfo, hi, hm, h1, follow, h2, receiverAt, run_underlying h3, Place.get]
      · simp at h
    · simp at h
  · simp at h
section
variable [W0]
variable {P : Program} {n : Nat} {M : List (Nat × Value)} {L : List Chunk} {K : List (Nat × Value) → List Chunk → Prop}
variable {d : Nat} {ty : TypeId} {ps : String} {af : Array Edge} {g : Option (Nat × Bool)} {x : Operand} {v : Value}
theorem OW_invokeV {t : Nat} {f : FuncId} {name : String} (hm : mthV P t name = some f) [hb : BD P f] {xs : List Operand} {ats : Array TypeId} {vs : List Value} {post : Value → List Chunk → Prop}
    (hx : ev M x = some (.iface t v)) (hvs : evs M xs = some vs) (hspec : Gv P f (v :: vs).toArray L post)
    (hn : Nat.blt d n = true) (h : ∀ v L', post v L' → K ((d, v) :: M) L') : OW P n ⟨some d, .call ⟨.invoke x name, xs.toArray, ats⟩, ty, ps, af, g⟩ K M L := ⟨fun a w next Q ha hw hk => by
  have hrun : (execOp a.eval ⟨some d, .call ⟨.invoke x name, xs.toArray, ats⟩, ty, ps, af, g⟩).run P w = .ok (.enter f (v :: vs).toArray) w := by
    have e1 : Array.map a.eval xs.toArray = vs.toArray := by rw [← ha.evals hvs]; simp
    have e2 : (#[Value.iface t v] ++ vs.toArray)[0]? = some (.iface t v) := by simp
    have e3 : (#[Value.iface t v] ++ vs.toArray).extract 1 (#[Value.iface t v] ++ vs.toArray).size = vs.toArray := by
      apply Array.ext'; simp
    have e4 : #[v] ++ vs.toArray = (v :: vs).toArray := by apply Array.ext'; simp
    have hfuel : P.types.size + Made.depth = (P.types.size + Made.depth - 1) + 1 := by
      have : 0 < Made.depth := by decide
      omega
    have hmr := methodV_run hm (P.types.size + Made.depth - 1) v w
    rw [← hfuel] at hmr
    simp only [execOp, resolve, ha.eval hx, e1, Sem.run_bind, Sem.run_pure, Result.andThen_ok, invoke, e2, e3, callMethod, run_program, hmr, e4, callFunc_run hb.out]
  unfold Oper.wp
  rw [hrun, Oper.upon_enter]
  refine (hspec.out w hw).mono fun e w' he => ?_
  obtain ⟨v, L', rfl, hp, hw'⟩ := he
  exact (hk _ _ (h v L' hp)).out _ _ (ha.put v hn) hw'⟩
end
end Go.Ob
namespace Go.Proofs.YtlomjmdgcpjepaaGreatDoor
open Go Go.Vx Go.Ob Go.Lib
set_option linter.all false
set_option maxRecDepth 4000
theorem mth_bt : mthV Tryz.prog 29 "Bytes" = some 10 := by kernel_rfl
end Go.Proofs.YtlomjmdgcpjepaaGreatDoor
namespace Go.Proofs.YtlomjmdgcpjepaaGreatDoor
open Go Go.Vx Go.Ob Go.Lib
set_option linter.all false
set_option maxRecDepth 4000
variable [W0]
theorem RdAt.there' {C : Chunk} {L : List Chunk} {a : Addr} {xs : List Value} (h : RdAt L a xs) : RdAt (C :: L) a xs := by
  rcases h with h | ⟨b, off, c, T, fr, h1, h2, h3⟩
  · exact .inl h
  · exact .inr ⟨b, off, c, T, fr, h1, h2.there, h3⟩
set_option maxHeartbeats 2000000 in
theorem clone_n (v : Value) (m : Nat) (xs : List Value) (L : List Chunk) (h : Sl L 2 v m xs) (ho : ones xs = true) (hm : m ≤ 1000000) :
    Gv Tryz.prog 47 [v].toArray L (fun r L' => ∃ a c, r = .slice a m c ∧ L' = L) := by
  refine Gv.of_body (args := [v]) Tryz.func47 rfl rfl ?_
  rcases h with ⟨c, rfl, rfl, rfl⟩ | ⟨a, cap, rfl, hr, hl⟩
  · (repeat' first|refine kW ?_|refine kU fun bk=>?_|refine kV fun hc=>?_|refine kZ (fun hc=>?_) fun hc=>?_|fail)
    refine kR ?_
    exact ⟨L, iC, ⟨_, _, rfl, rfl⟩⟩
  · (repeat' first|refine kW ?_|refine kU fun bk=>?_|refine kV fun hc=>?_|refine kZ (fun hc=>?_) fun hc=>?_|fail)
    apply OW_buildSlice (parts := []) rfl (by rfl) (by simp [fillL]; rfl) (by omega) rfl rfl (fun b0 => ?_)
    (repeat' first|refine kW ?_|refine kU fun bk=>?_|refine kV fun hc=>?_|refine kZ (fun hc=>?_) fun hc=>?_|fail)
    refine OW_append (m := 0) (c := m) (xs := []) (ys := xs) (C := [(b0, cl [] 61)]) rfl rfl (.inr ⟨b0, 0, [], rfl, rfl, rfl, rfl, Nat.le_refl _, by simp [maxLen]⟩) (.inr ⟨a, cap, rfl, RdAt.there' hr, hl⟩) (by repeat (first | exact Zip.here _ | apply Zip.there)) rfl ho (by omega) (by unfold maxLen; omega) rfl (fun v1 C1 h1 _ _ => ?_)
    rw [Nat.zero_add] at h1
    (repeat' first|refine kW ?_|refine kU fun bk=>?_|refine kV fun hc=>?_|refine kZ (fun hc=>?_) fun hc=>?_|fail)
    refine kR ?_
    refine ⟨L, iC, ?_⟩
    rcases h1 with ⟨rfl, rfl, _, _⟩ | ⟨b, cp, rest, rfl, _⟩
    · exact ⟨none, 0, rfl, rfl⟩
    · exact ⟨_, _, rfl, rfl⟩
theorem run_any (t : Nat) (v : Value) (w : World) : (Op.equal 37 (.iface t v) .nilIface).run Tryz.prog w = .ok false w := by
  unfold Op.equal
  rw [show Op.maxDepth = 9999 + 1 from rfl]
  unfold Op.equalIn
  simp [run_underlying Tryz.underlying37]
theorem EV_anyNil {n d : Nat} {M : List (Nat × Value)} {L : List Chunk} {x y : Operand} {ty u : TypeId} {ps : String} {af : Array Edge} {g : Option (Nat × Bool)} {t : Nat} {v : Value} (hx : ev M x = some (.iface t v)) (hy : ev M y = some .nilIface) :
    EV Tryz.prog n ⟨some d, .binOp .eql 37 x y u, ty, ps, af, g⟩ M L d (.bool false) :=
  ⟨rfl, fun a w ha _ => by
    simp [execOp, ha.eval hx, ha.eval hy, eqGuard, binOp, run_any]⟩
theorem mth_lt : mthV Tryz.prog 29 "Links" = some 138 := by kernel_rfl
set_option maxHeartbeats 4000000 in
theorem treelinks_n (v : Value) (l : List Et) (L : List Chunk) (h : Sl L 3 v l.length (etc l)) (hm : ∀ x ∈ l, x.m = mFile ∨ x.m = mDir) (hll : l.length ≤ 1000000) :
    Gv Tryz.prog 138 [.agg [v].toArray].toArray L (fun r L' => ∃ xs C, Ow 61 2 r l.length xs C ∧ ones xs = true ∧ L' = C :: L) := by
  obtain ⟨a0, c0, rfl⟩ := sl_shape h
  refine Gv.of_body (args := [.agg [.slice a0 l.length c0].toArray]) Tryz.func138 rfl rfl ?_
  (repeat' first|refine kW ?_|refine kU fun bk=>?_|refine kV fun hc=>?_|refine kZ (fun hc=>?_) fun hc=>?_|fail)
  revert bk; intro q
  refine WC_loop (X := Nat × Value × List Value × Chunk) (fun x => [(1, .pointer (some ⟨q, 0, none⟩)), (3, x.2.1), (7, .slice a0 l.length c0), (8, .int .i64 (l.length : Int)), (9, .int .i64 (x.1 : Int))])
    (fun x => x.2.2.2 :: [(q, cl [.slice a0 l.length c0] 29)] :: L)
    (fun x => x.1 ≤ l.length ∧ Ow 61 2 x.2.1 x.1 x.2.2.1 x.2.2.2 ∧ ones x.2.2.1 = true) (fun x => l.length - x.1) (0, .slice none 0 0, [], []) ⟨Nat.zero_le _, .inl ⟨rfl, rfl, rfl, rfl⟩, rfl⟩ iS (fun w h => Holds.nil.2 h) ?_
  intro x ⟨h1, h2, h3⟩
  obtain ⟨k, v, xs, C⟩ := x
  simp only at h1 h2 h3 ⊢
  (repeat' first|refine kW ?_|refine kU fun bk=>?_|refine kV fun hc=>?_|refine kZ (fun hc=>?_) fun hc=>?_|fail)
  · have hk : k < l.length := by omega
    obtain ⟨e, he⟩ : ∃ e, l[k]? = some e := ⟨l[k], by simp [hk]⟩
    have hme := hm e (List.mem_of_getElem? he)
    obtain ⟨b, off, cap, c, T, fr, hv, hfn, g0, g1, g2⟩ := sl_at3 h he
    injection hv with e1 _ e3
    subst e1 e3
    refine OW_EV (EV_indexAddr (j := k) rfl rfl rfl hk) rfl ?_
    (repeat' first|refine kW ?_|refine kU fun bk=>?_|refine kV fun hc=>?_|refine kZ (fun hc=>?_) fun hc=>?_|fail)
    have hrd : ∀ C D, RdAt (C :: D :: L) ⟨b, off + k * 3, none⟩ [.string (str e.m), .string (str e.n), .string (str e.i)] := fun C D => .inr ⟨b, off + k * 3, c, T, fr, rfl, hfn.there.there, fun j u hj => by
      match j, hj with
      | 0, hj => simp at hj; subst hj; exact g0
      | 1, hj => simp at hj; subst hj; exact g1
      | 2, hj => simp at hj; subst hj; exact g2
      | j + 3, hj => simp at hj⟩
    refine OW_EV (EV_loadAgg rfl (hrd _ _) rfl) rfl ?_
    (repeat' first|refine kW ?_|refine kU fun bk=>?_|refine kV fun hc=>?_|refine kZ (fun hc=>?_) fun hc=>?_|fail)
    · refine OW_buildSlice (cs := [.string (str e.i), .int .i64 2]) rfl (by rfl) (by first | (simp [fillL, patch, Value.cells, zeros]; done) | (simp [fillL, patch, Value.cells, zeros]; rfl)) (by omega) rfl rfl (fun b1 => ?_)
      (repeat' first|refine kW ?_|refine kU fun bk=>?_|refine kV fun hc=>?_|refine kZ (fun hc=>?_) fun hc=>?_|fail)
      refine OW_append rfl rfl h2 (sl_cells (k := 2) (c := #[.string (str e.i), .int .i64 2]) (xs := [.string (str e.i), .int .i64 2]) (m := 1) Fnd.here rfl (by simp)) (by repeat (first | exact Zip.here _ | apply Zip.there)) rfl (by rfl) (by omega) (by unfold maxLen; omega) rfl (fun v1 C1 h4 _ _ => ?_)
      (repeat' first|refine kW ?_|refine kU fun bk=>?_|refine kV fun hc=>?_|refine kZ (fun hc=>?_) fun hc=>?_|fail)
      refine WQ_round (X := Nat × Value × List Value × Chunk) (μ := fun x => l.length - x.1) (x := (k, v, xs, C)) (k + 1, v1, xs ++ [.string (str e.i), .int .i64 2], C1) (by simp only; omega) ⟨by simp only; omega, h4, by simp only [ones, List.all_append, Bool.and_eq_true] at *; exact ⟨h3, rfl⟩⟩ iS (fun w h => iH h)
    · have hc2 : e.m = mMod := str_inj.1 hc
      rw [hc2] at hme
      exact absurd hme (by decide)
    · refine OW_buildSlice (cs := [.string (str e.i), .int .i64 3]) rfl (by rfl) (by first | (simp [fillL, patch, Value.cells, zeros]; done) | (simp [fillL, patch, Value.cells, zeros]; rfl)) (by omega) rfl rfl (fun b1 => ?_)
      (repeat' first|refine kW ?_|refine kU fun bk=>?_|refine kV fun hc=>?_|refine kZ (fun hc=>?_) fun hc=>?_|fail)
      refine OW_append rfl rfl h2 (sl_cells (k := 2) (c := #[.string (str e.i), .int .i64 3]) (xs := [.string (str e.i), .int .i64 3]) (m := 1) Fnd.here rfl (by simp)) (by repeat (first | exact Zip.here _ | apply Zip.there)) rfl (by rfl) (by omega) (by unfold maxLen; omega) rfl (fun v1 C1 h4 _ _ => ?_)
      (repeat' first|refine kW ?_|refine kU fun bk=>?_|refine kV fun hc=>?_|refine kZ (fun hc=>?_) fun hc=>?_|fail)
      refine WQ_round (X := Nat × Value × List Value × Chunk) (μ := fun x => l.length - x.1) (x := (k, v, xs, C)) (k + 1, v1, xs ++ [.string (str e.i), .int .i64 3], C1) (by simp only; omega) ⟨by simp only; omega, h4, by simp only [ones, List.all_append, Bool.and_eq_true] at *; exact ⟨h3, rfl⟩⟩ iS (fun w h => iH h)
  · have hk : k = l.length := by omega
    subst hk
    refine kR ?_
    exact ⟨C :: L, iC, ⟨xs, C, h2, h3, rfl⟩⟩
theorem catch_n (p : Option Addr) (w : World) : CallsD Tryz.prog 46 #[.pointer p] .returning w fun e u' w' => (∃ v, e = .returned v) ∧ u' = .returning ∧ w' = w := by
  refine callsD_of_wpS Tryz.func46 rfl fun c₀ cs hu => ?_
  apply wpS_seq
  apply wpS_region
  simp [wpOpsS, go_sem, recoverD, hu, Exit.thenS, Tryz.f46]
  refine wpS_cond (t := false) (by simp [Act.eval, Array.replicate]) ?_
  simp only [Bool.false_eq_true, if_false]
  refine wpS_of_wp (wp_skip ?_)
  cases c₀
  simp_all [bodyPostS, results]
set_option maxHeartbeats 4000000 in
theorem links_n (a0 : Option Addr) (c0 : Nat) (l : List Et) (L : List Chunk) (h : Sl L 3 (.slice a0 l.length c0) l.length (etc l)) (hm : ∀ x ∈ l, x.m = mFile ∨ x.m = mDir) (hll : l.length ≤ 1000000) :
    Gv Tryz.prog 18 [.iface 29 (.agg [.slice a0 l.length c0].toArray)].toArray L (fun r L' => ∃ a c, r = .slice a l.length c ∧ L' = L) := by
  refine Gv.of_bodyD (args := [.iface 29 (.agg [.slice a0 l.length c0].toArray)]) Tryz.func18 rfl rfl ?_
  refine kW ?_
  refine kU fun bk => ?_
  revert bk; intro q
  refine WL_nil ?_
  with_reducible refine WQ_then_normal ?_
  with_reducible refine WQ_code ?_
  refine WC_seq ?_
  refine WC_region ?_
  refine WL_makeFunc rfl rfl ?_
  refine WL_defer rfl ?_
  refine WDn_nil ?_
  refine WDq_thenN ?_
  refine WD_seq ?_
  refine WD_seq ?_
  refine WD_region ?_
  refine WDn_op rfl ?_
  refine kW ?_
  refine WDn_op rfl ?_
  refine OW_EV (EV_anyNil rfl rfl) rfl ?_
  refine WDn_nil ?_
  refine WDq_thenN ?_
  refine WD_cond (t := false) rfl ?_
  rw [if_neg (by decide)]
  refine WD_skip ?_
  refine WDq_thenN ?_
  refine WD_seq ?_
  refine WD_region ?_
  refine WDn_op rfl ?_
  refine kW ?_
  refine WDn_op rfl ?_
  refine OW_invokeV mth_lt rfl rfl (treelinks_n _ l _ (sl_there h) hm hll) rfl (fun r L' hp => ?_)
  obtain ⟨xs, C, ho, h1, rfl⟩ := hp
  refine WDn_op rfl ?_
  refine OW_call rfl rfl rfl (clone_n r l.length xs _ (ow_sl ho) h1 hll) rfl (fun r2 L' hp => ?_)
  obtain ⟨a, c, rfl, rfl⟩ := hp
  refine WDn_op rfl ?_
  refine OW_storeTo (l := [.slice none 0 0]) [.slice a l.length c] rfl rfl (by rfl) (by rfl) iU (by decide) ?_
  refine WDn_nil ?_
  refine WDq_thenN ?_
  refine WD_ret ?_
  refine WDq_end (f := 46) (args := #[.pointer (some ⟨q, 0, none⟩)]) (.inl rfl) rfl (.one (by rfl) rfl (by repeat (first | assumption | exact Fnd.here | refine Fnd.there ?_)) rfl .nil) (fun w => ?_) (fun w => catch_n _ w) ⟨L, fun w h => iH h, _, _, rfl, rfl⟩
  simp [go_sem]
end Go.Proofs.YtlomjmdgcpjepaaGreatDoor
namespace Go.Proofs.YtlomjmdgcpjepaaGreatDoor
open Go Go.Vx Go.Ob Go.Lib
set_option linter.all false
set_option maxRecDepth 4000
variable [W0]
set_option maxHeartbeats 4000000 in
theorem readtree_n (s : List UInt8) (L : List Chunk) (hb : BsAt L) (hs : s.length < 4294967281) :
    Gv Tryz.prog 33 [.string (str s)].toArray L (fun r L' => ∃ v C, r = .agg [v].toArray ∧ Ow 26 3 v (rdTr s).length (etc (rdTr s)) C ∧ L' = C :: L) := by
  refine Gv.of_body (args := [.string (str s)]) Tryz.func33 rfl rfl ?_
  (repeat' first|refine kW ?_|refine kU fun bk=>?_|refine kV fun hc=>?_|refine kZ (fun hc=>?_) fun hc=>?_|fail)
  revert bk; intro q3
  revert bk; intro q2
  refine WC_loop (X := List UInt8 × List Et × Value × Chunk) (fun x => [(0, .string (str x.1)), (2, .pointer (some ⟨q2, 0, none⟩)), (3, .pointer (some ⟨q3, 0, none⟩))])
    (fun x => x.2.2.2 :: [(q3, cl [x.2.2.1] 29)] :: [(q2, cl [.slice none 0 0] 29)] :: L)
    (fun x => x.2.1 ++ rdTr x.1 = rdTr s ∧ x.2.1.length + x.1.length ≤ s.length ∧ Ow 26 3 x.2.2.1 x.2.1.length (etc x.2.1) x.2.2.2) (fun x => x.1.length) (s, [], .slice none 0 0, [])
    ⟨rfl, by simp, .inl ⟨rfl, rfl, rfl, rfl⟩⟩ iS (fun w h => Holds.nil.2 h) ?_
  intro x ⟨i1, i2, i3⟩
  obtain ⟨t, l, v, C⟩ := x
  simp only at i1 i2 i3 ⊢
  have q1 : (str t = ({ data := #[] } : ByteArray)) = (t = []) := propext (str_inj (b := []))
  obtain ⟨s1, hs1⟩ : ∃ x, x = cutN 32 t := ⟨_, rfl⟩
  obtain ⟨s2, hs2⟩ : ∃ x, x = cutN 0 s1.2 := ⟨_, rfl⟩
  have l1 := cutN_len2 32 t
  have l2 := cutN_len2 0 s1.2
  have l3 := cutN_len 32 t
  rw [← hs1] at l1 l3
  rw [← hs2] at l2
  have c1 := fun L hb => cut_n t [32] L hb (by omega)
  have c2 := fun L hb => cut_n s1.2 [0] L hb (by omega)
  simp only [cut_one, ← hs1] at c1
  simp only [cut_one, ← hs2] at c2
  have hst : t ≠ [] → rdTr t = ⟨s1.1, s2.1, hexL (s2.2.take 20)⟩ :: rdTr (s2.2.drop 20) := fun h => by rw [rdTr_step t h, ← hs1, ← hs2]
  clear hs1 hs2
  (repeat' first|refine kW ?_|refine kU fun bk=>?_|refine kV fun hc=>?_|refine kZ (fun hc=>?_) fun hc=>?_|fail)
  all_goals simp only [q1] at *
  · have hne : t ≠ [] := hc
    rw [hst hne] at i1
    have l4 := l3
    have l5 : 0 < t.length := List.length_pos_iff.2 hne
    revert bk; intro q4
    refine OW_holds (L' := [(q4, cl [.string .empty, .string .empty, .string .empty] 26)] :: C :: [(q3, cl [v] 29)] :: [(q2, cl [.slice none 0 0] 29)] :: L) (fun w h => h) ?_
    refine OW_callP rfl rfl rfl (c1 _ hb.there.there.there.there) rfl ?_
    (repeat' first|refine kW ?_|refine kU fun bk=>?_|refine kV fun hc=>?_|refine kZ (fun hc=>?_) fun hc=>?_|fail)
    refine OW_callP rfl rfl rfl (c2 _ hb.there.there.there.there) rfl ?_
    (repeat' first|refine kW ?_|refine kU fun bk=>?_|refine kV fun hc=>?_|refine kZ (fun hc=>?_) fun hc=>?_|fail)
    have em : ((s2.2.drop 0).take (min 20 s2.2.length - 0)) = s2.2.take 20 := by rw [List.drop_zero, Nat.sub_zero, List.take_eq_take_iff]; omega
    have ed : ((s2.2.drop (min 20 s2.2.length)).take (s2.2.length - min 20 s2.2.length)) = s2.2.drop 20 := by
      rw [List.take_of_length_le (by rw [List.length_drop]; omega)]
      rcases Nat.lt_or_ge s2.2.length 20 with h' | h'
      · rw [List.drop_of_length_le (by omega), List.drop_of_length_le (by omega)]
      · rw [Nat.min_eq_left h']
    have el : (s2.2.take 20).length ≤ 20 := by rw [List.length_take]; omega
    refine OW_EV (EV_cutL s2.2 0 (min 20 s2.2.length) rfl rfl (bnd_int rfl (by rw [str_size]; omega)) (Nat.zero_le _) (Nat.min_le_right _ _)) rfl ?_
    rw [em]
    (repeat' first|refine kW ?_|refine kU fun bk=>?_|refine kV fun hc=>?_|refine kZ (fun hc=>?_) fun hc=>?_|fail)
    refine OW_convBytes rfl (by rw [str_size]; unfold maxLen; omega) rfl (fun vb Cb ho => ?_)
    rw [str_size, str_data] at ho
    (repeat' first|refine kW ?_|refine kU fun bk=>?_|refine kV fun hc=>?_|refine kZ (fun hc=>?_) fun hc=>?_|fail)
    refine OW_callP rfl rfl rfl (hex_n (s2.2.take 20) _ _ (by omega) (OwG.slc (OwG.f ho))) rfl ?_
    (repeat' first|refine kW ?_|refine kU fun bk=>?_|refine kV fun hc=>?_|refine kZ (fun hc=>?_) fun hc=>?_|fail)
    refine OW_EV (EV_cutL s2.2 (min 20 s2.2.length) s2.2.length rfl (bnd_int rfl (by rw [str_size]; omega)) rfl (Nat.min_le_right _ _) (Nat.le_refl _)) rfl ?_
    rw [ed]
    (repeat' first|refine kW ?_|refine kU fun bk=>?_|refine kV fun hc=>?_|refine kZ (fun hc=>?_) fun hc=>?_|fail)
    refine OW_buildSlice (cs := etc [⟨s1.1, s2.1, hexL (s2.2.take 20)⟩]) rfl (by rfl) (by first | (simp [fillL, patch, Value.cells, zeros, etc]; done) | (simp [fillL, patch, Value.cells, zeros, etc]; rfl)) (by omega) rfl rfl (fun b1 => ?_)
    (repeat' first|refine kW ?_|refine kU fun bk=>?_|refine kV fun hc=>?_|refine kZ (fun hc=>?_) fun hc=>?_|fail)
    refine OW_append rfl rfl i3 (sl_cells (k := 3) (c := (etc [⟨s1.1, s2.1, hexL (s2.2.take 20)⟩]).toArray) (xs := etc [⟨s1.1, s2.1, hexL (s2.2.take 20)⟩]) (m := 1) Fnd.here rfl (by simp [etc])) (by repeat (first | exact Zip.here _ | apply Zip.there)) rfl (by rfl) (by omega) (by unfold maxLen; omega) rfl (fun v1 C1 h1 _ _ => ?_)
    rw [← etc_app] at h1
    obtain ⟨va, vc, rfl⟩ : ∃ a c, v1 = .slice a (l.length + 1) c := by
      rcases h1 with ⟨_, h, _, _⟩ | ⟨b, cap, rest, rfl, _⟩
      · omega
      · exact ⟨_, _, rfl⟩
    (repeat' first|refine kW ?_|refine kU fun bk=>?_|refine kV fun hc=>?_|refine kZ (fun hc=>?_) fun hc=>?_|fail)
    refine WQ_round (X := List UInt8 × List Et × Value × Chunk) (μ := fun x => x.1.length) (x := (t, l, v, C)) (s2.2.drop 20, l ++ [⟨s1.1, s2.1, hexL (s2.2.take 20)⟩], .slice va (l.length + 1) vc, C1) (by simp only [List.length_drop]; omega) ⟨?_, ?_, ?_⟩ iS (fun w h => iH h)
    · simp only [List.append_assoc]; exact i1
    · simp only [List.length_append, List.length_cons, List.length_nil, List.length_drop]; omega
    · simp only [List.length_append, List.length_cons, List.length_nil]; exact h1
  · have ht : t = [] := hc
    subst ht
    rw [rdTr_nil, List.append_nil] at i1
    subst i1
    obtain ⟨va, vc, rfl⟩ : ∃ a c, v = .slice a (rdTr s).length c := by
      rcases i3 with ⟨rfl, h, _, _⟩ | ⟨b, cap, rest, rfl, _⟩
      · exact ⟨none, 0, by rw [h]⟩
      · exact ⟨_, _, rfl⟩
    refine OW_storeAggTo (l := [.slice none 0 0]) (vs := [.slice va (rdTr s).length vc]) [.slice va (rdTr s).length vc] rfl rfl rfl (by rfl) (by simp [patch, Value.cells]) iU (by simp) ?_
    (repeat' first|refine kW ?_|refine kU fun bk=>?_|refine kV fun hc=>?_|refine kZ (fun hc=>?_) fun hc=>?_|fail)
    (first | refine WQ_retC (vs := [.agg ([.slice va (rdTr s).length vc]).toArray]) rfl (.agg ⟨by kernel_rfl, by kernel_rfl⟩ rfl (RdAt.cl' (vs := [.slice va (rdTr s).length vc]) (by repeat (first | assumption | exact Fnd.here | refine Fnd.there ?_)) rfl) rfl .nil) ?_ | refine WQ_endC (vs := [.agg ([.slice va (rdTr s).length vc]).toArray]) rfl (.agg ⟨by kernel_rfl, by kernel_rfl⟩ rfl (RdAt.cl' (vs := [.slice va (rdTr s).length vc]) (by repeat (first | assumption | exact Fnd.here | refine Fnd.there ?_)) rfl) rfl .nil) ?_)
    exact ⟨C :: L, fun w h => iH h, _, C, rfl, i3, rfl⟩
end Go.Proofs.YtlomjmdgcpjepaaGreatDoor
namespace Go.Proofs.YtlomjmdgcpjepaaGreatDoor
open Go Go.Vx Go.Ob Go.Lib
set_option linter.all false
set_option maxRecDepth 4000
theorem zeros_str : ∀ n, zeros [.string .empty] n = List.replicate n (.string .empty)
  | 0 => rfl
  | n + 1 => by rw [zeros, zeros_str n]; rfl
theorem nms_set {l : List Et} {k : Nat} {e : Et} (h : l[k]? = some e) : (ssv ((l.take k).map Et.n) ++ List.replicate (l.length - k) (Value.string .empty)).set (k * 1) (.string (str e.n)) = ssv ((l.take (k + 1)).map Et.n) ++ List.replicate (l.length - (k + 1)) (Value.string .empty) := by
  have hk : k < l.length := (List.getElem?_eq_some_iff.1 h).1
  have hl : (ssv ((l.take k).map Et.n)).length = k := by rw [ssv_len, List.length_map, List.length_take]; omega
  obtain ⟨j, hj⟩ : ∃ j, l.length - k = j + 1 := ⟨l.length - k - 1, by omega⟩
  rw [Nat.mul_one, hj, show l.length - (k + 1) = j from by omega, List.set_append_right _ _ (by omega), hl, Nat.sub_self, List.replicate_succ, List.set_cons_zero, List.take_add_one, h]
  simp [ssv]
variable [W0]
set_option maxHeartbeats 4000000 in
theorem treevalid_n (v : Value) (l : List Et) (L : List Chunk) (hb : BsAt L) (h : Sl L 3 v l.length (etc l)) (hll : l.length ≤ 100000000000)
    (hx : ∀ x ∈ l, x.n.length < 4294967281 ∧ (∀ b ∈ x.n, b.toNat < 128) ∧ x.i.length ≤ 9223372036854775807) :
    GvP Tryz.prog 139 [.agg [v].toArray].toArray L (.bool (vlQ l)) := by
  obtain ⟨a0, c0, rfl⟩ := sl_shape h
  refine Gv.of_body (args := [.agg [.slice a0 l.length c0].toArray]) Tryz.func139 rfl rfl ?_
  (repeat' first|refine kW ?_|refine kU fun bk=>?_|refine kV fun hc=>?_|refine kZ (fun hc=>?_) fun hc=>?_|fail)
  revert bk; intro q
  refine OW_makeSlice (m := l.length) (c := l.length) rfl rfl (by rfl) (Nat.le_refl _) (by omega) (by omega) rfl (fun q1 => ?_)
  (repeat' first|refine kW ?_|refine kU fun bk=>?_|refine kV fun hc=>?_|refine kZ (fun hc=>?_) fun hc=>?_|fail)
  refine WC_loop (X := Nat) (fun k => [(1, .pointer (some ⟨q, 0, none⟩)), (2, .bool false), (3, .slice (some ⟨q1, 0, none⟩) l.length l.length), (11, .slice a0 l.length c0), (12, .int .i64 (l.length : Int)), (13, .int .i64 (k : Int))])
    (fun k => [(q1, cl (ssv ((l.take k).map Et.n) ++ List.replicate (l.length - k) (.string .empty)) 9)] :: [(q, cl [.slice a0 l.length c0] 29)] :: L)
    (fun k => k ≤ l.length ∧ (List.range k).all (atQ l) = true) (fun k => l.length - k) 0 ⟨Nat.zero_le _, rfl⟩ iS (fun w h => by rw [show (ssv ((l.take 0).map Et.n) ++ List.replicate (l.length - 0) (Value.string .empty)) = zeros (Value.string ByteArray.empty).cells.toList l.length from (zeros_str _).symm]; exact h) ?_
  intro k ⟨h1, h2⟩
  have hb1 := fun C D => (hb.there (C := C)).there (C := D)
  (repeat' first|refine kW ?_|refine kU fun bk=>?_|refine kV fun hc=>?_|refine kZ (fun hc=>?_) fun hc=>?_|fail)
  · have hk : k < l.length := by omega
    obtain ⟨e, he⟩ : ∃ e, l[k]? = some e := ⟨l[k], by simp [hk]⟩
    obtain ⟨hx1, hx2, hx3⟩ := hx e (List.mem_of_getElem? he)
    obtain ⟨b, off, cap, c, T, fr, hv, hfn, g0, g1, g2⟩ := sl_at3 h he
    injection hv with e1 _ e3
    subst e1 e3
    refine OW_EV (EV_indexAddr (j := k) rfl rfl rfl hk) rfl ?_
    (repeat' first|refine kW ?_|refine kU fun bk=>?_|refine kV fun hc=>?_|refine kZ (fun hc=>?_) fun hc=>?_|fail)
    have hrd : ∀ C D, RdAt (C :: D :: L) ⟨b, off + k * 3, none⟩ [.string (str e.m), .string (str e.n), .string (str e.i)] := fun C D => .inr ⟨b, off + k * 3, c, T, fr, rfl, hfn.there.there, fun j u hj => by
      match j, hj with
      | 0, hj => simp at hj; subst hj; exact g0
      | 1, hj => simp at hj; subst hj; exact g1
      | 2, hj => simp at hj; subst hj; exact g2
      | j + 3, hj => simp at hj⟩
    refine OW_EV (EV_loadAgg rfl (hrd _ _) rfl) rfl ?_
    (repeat' first|refine kW ?_|refine kU fun bk=>?_|refine kV fun hc=>?_|refine kZ (fun hc=>?_) fun hc=>?_|fail)
    revert bk; intro q2
    refine OW_holds (L' := [(q2, cl (etc [e]) 26)] :: [(q1, cl (ssv ((l.take k).map Et.n) ++ List.replicate (l.length - k) (Value.string .empty)) 9)] :: [(q, cl [.slice (some ⟨b, off, none⟩) l.length c0] 29)] :: L) (fun w h => h) ?_
    refine OW_EV (EV_indexAddr0 (j := k) (len := l.length) rfl rfl rfl hk) rfl ?_
    (repeat' first|refine kW ?_|refine kU fun bk=>?_|refine kV fun hc=>?_|refine kZ (fun hc=>?_) fun hc=>?_|fail)
    refine OW_storeTo (ssv ((l.take (k + 1)).map Et.n) ++ List.replicate (l.length - (k + 1)) (.string .empty)) rfl rfl (by rfl) (nms_set he) iU (by rw [List.length_append, ssv_len, List.length_map, List.length_take, List.length_replicate]; omega) ?_
    (repeat' first|refine kW ?_|refine kU fun bk=>?_|refine kV fun hc=>?_|refine kZ (fun hc=>?_) fun hc=>?_|fail)
    have hat : atQ l k = (oneQ e && ordQ l k e) := by unfold atQ; rw [he]
    have hbad : oneQ e = false → vlQ l = false := fun h => vlQ_bad (j := k) (by rw [hat, h, Bool.false_and])
    have hz : (str e.i = ({ data := #[48, 48, 48, 48, 48, 48, 48, 48, 48, 48, 48, 48, 48, 48, 48, 48, 48, 48, 48, 48, 48, 48, 48, 48, 48, 48, 48, 48, 48, 48, 48, 48, 48, 48, 48, 48, 48, 48, 48, 48] } : ByteArray)) = (e.i = zrL) := propext (str_inj (b := zrL))
    refine OW_callP rfl rfl rfl (ismode_n e.m _) rfl ?_
    cases hm : modB e.m with
    | false =>
      rw [hbad (by unfold oneQ; rw [hm]; rfl)]
      (repeat' first|refine kW ?_|refine kU fun bk=>?_|refine kV fun hc=>?_|refine kZ (fun hc=>?_) fun hc=>?_|fail)
      exact kE
    | true =>
      (repeat' first|refine kW ?_|refine kU fun bk=>?_|refine kV fun hc=>?_|refine kZ (fun hc=>?_) fun hc=>?_|fail)
      refine OW_callP rfl rfl rfl (isentry_n e.n _ hb.there.there.there hx1 hx2) rfl ?_
      cases hn : enB e.n with
      | false =>
        rw [hbad (by unfold oneQ; rw [hm, hn]; rfl)]
        (repeat' first|refine kW ?_|refine kU fun bk=>?_|refine kV fun hc=>?_|refine kZ (fun hc=>?_) fun hc=>?_|fail)
        exact kE
      | true =>
        (repeat' first|refine kW ?_|refine kU fun bk=>?_|refine kV fun hc=>?_|refine kZ (fun hc=>?_) fun hc=>?_|fail)
        refine OW_callP rfl rfl rfl (hash_n e.i _ hx3) rfl ?_
        cases hh : hshB e.i with
        | false =>
          rw [hbad (by unfold oneQ; rw [hm, hn, hh]; rfl)]
          (repeat' first|refine kW ?_|refine kU fun bk=>?_|refine kV fun hc=>?_|refine kZ (fun hc=>?_) fun hc=>?_|fail)
          exact kE
        | true =>
          by_cases hi : e.i = zrL
          · rw [hbad (by unfold oneQ; rw [hm, hn, hh, hi]; rfl)]
            (repeat' first|refine kW ?_|refine kU fun bk=>?_|refine kV fun hc=>?_|refine kZ (fun hc=>?_) fun hc=>?_|fail)
            all_goals simp only [hz] at *
            all_goals try contradiction
            all_goals exact kE
          · have hone : oneQ e = true := by unfold oneQ; rw [hm, hn, hh, decide_eq_true hi]; rfl
            rw [hone, Bool.true_and] at hat
            (repeat' first|refine kW ?_|refine kU fun bk=>?_|refine kV fun hc=>?_|refine kZ (fun hc=>?_) fun hc=>?_|fail)
            all_goals simp only [hz] at *
            all_goals try contradiction
            match k, hat, hk, he, h1, h2, hrd with
            | 0, hat, hk, he, h1, h2, hrd =>
              refine WC_drawAll [] mixed ?_
              (refine WR_t 0 ?_; refine WR_t 1 ?_; refine WR_t 2 ?_)
              rw [show decide (((0 : Nat) : Int) > 0) = false from rfl]
              (refine WR_v 3 ?_; refine WR_v 4 ?_; refine WR_v 5 ?_; refine WR_v 6 ?_; refine WR_v 7 ?_; refine WR_v 8 ?_; refine WR_v 9 ?_; refine WR_v 10 ?_; refine WR_v 11 ?_)
              (refine WR_t 12 ?_)
              (refine WR_done (by kernel_rfl) ?_)
              (repeat' first|refine kW ?_|refine kU fun bk=>?_|refine kV fun hc=>?_|refine kZ (fun hc=>?_) fun hc=>?_|fail)
              refine WQ_round (X := Nat) (μ := fun k => l.length - k) (x := 0) 1 (by omega) ⟨by omega, ?_⟩ iS (fun w h => iH h)
              simp [List.range_succ, hat, ordQ]
            | k + 1, hat, hk, he, h1, h2, hrd =>
              obtain ⟨y, hy⟩ : ∃ y, l[k]? = some y := ⟨l[k]'(by omega), by simp⟩
              have hat2 : atQ l (k + 1) = lesE y e := by rw [hat]; show (match l[k]? with | none => true | some y => lesE y e) = _; rw [hy]
              obtain ⟨b', off', cap', c', T', fr', hv', hfn', p0, p1, p2⟩ := sl_at3 h hy
              have hrd' : ∀ C D E, RdAt (C :: D :: E :: L) ⟨b', off' + k * 3, none⟩ [.string (str y.m), .string (str y.n), .string (str y.i)] := fun C D E => .inr ⟨b', off' + k * 3, c', T', fr', rfl, hfn'.there.there.there, fun j u hj => by
                match j, hj with
                | 0, hj => simp at hj; subst hj; exact p0
                | 1, hj => simp at hj; subst hj; exact p1
                | 2, hj => simp at hj; subst hj; exact p2
                | j + 3, hj => simp at hj⟩
              have hy1 := (hx y (List.mem_of_getElem? hy)).1
              injection hv' with e1 _ e3
              injection e1 with e1
              injection e1 with e1 e2
              subst e1 e2
              refine WC_drawAll [] mixed ?_
              (refine WR_t 0 ?_; refine WR_t 1 ?_; refine WR_t 2 ?_)
              rw [show decide (((k + 1 : Nat) : Int) > 0) = true from by simp]
              (refine WR_u 3 ?_; refine WR_u 4 ?_; refine WR_u 5 ?_; refine WR_u 6 ?_)
              (refine WR_takeOn 7 rfl rfl rfl (by kernel_rfl) iP iC (EV_indexAddr (j := k) rfl rfl (by omega) (by omega)) (by rfl) ?_)
              (refine WR_takeOn 8 rfl rfl rfl (by kernel_rfl) iP iC (EV_loadAgg rfl (hrd' _ _ _) rfl) (by rfl) ?_)
              (refine WR_u 9 ?_)
              (refine WR_oneOn 10 (by kernel_rfl) rfl rfl rfl ?_)
              refine OW_callP rfl rfl rfl (less_n y e _ (by omega) (by omega)) rfl ?_
              refine ⟨iC, ?_⟩
              (refine WR_u 11 ?_)
              (refine WR_t 12 ?_)
              (refine WR_done (by kernel_rfl) ?_)
              cases hl : lesE y e with
              | false =>
                rw [vlQ_bad (j := k + 1) (hat2.trans hl)]
                (repeat' first|refine kW ?_|refine kU fun bk=>?_|refine kV fun hc=>?_|refine kZ (fun hc=>?_) fun hc=>?_|fail)
                exact kE
              | true =>
                (repeat' first|refine kW ?_|refine kU fun bk=>?_|refine kV fun hc=>?_|refine kZ (fun hc=>?_) fun hc=>?_|fail)
                refine WQ_round (X := Nat) (μ := fun k => l.length - k) (x := k + 1) (k + 1 + 1) (by omega) ⟨by omega, ?_⟩ iS (fun w h => iH h)
                rw [List.range_succ, List.all_append, h2, Bool.true_and, List.all_cons, hat2, hl]
                rfl
  · have hk : k = l.length := by omega
    subst hk
    rw [vlQ_end h2]
    have h3 : (l.take l.length).map Et.n = l.map Et.n := by rw [List.take_of_length_le (Nat.le_refl _)]
    have hd := differ_n (.slice (some ⟨q1, 0, none⟩) l.length l.length) (l.map Et.n) ([(q1, cl (ssv ((l.take l.length).map Et.n) ++ List.replicate (l.length - l.length) (Value.string .empty)) 9)] :: [(q, cl [.slice a0 l.length c0] 29)] :: L)
      (by
        rw [h3, List.length_map, Nat.sub_self]
        exact sl_cells (k := 1) (c := (ssv (l.map Et.n) ++ List.replicate 0 (Value.string .empty)).toArray) (xs := ssv (l.map Et.n)) (m := l.length) Fnd.here (by simp [ssv_len]) (by simp [ssv_len, List.take_of_length_le]))
      (by rw [List.length_map]; omega)
    refine OW_callP rfl rfl rfl hd rfl ?_
    (repeat' first|refine kW ?_|refine kU fun bk=>?_|refine kV fun hc=>?_|refine kZ (fun hc=>?_) fun hc=>?_|fail)
    exact kE
end Go.Proofs.YtlomjmdgcpjepaaGreatDoor
namespace Go.Proofs.YtlomjmdgcpjepaaGreatDoor
open Go Go.Vx Go.Ob Go.Lib
set_option linter.all false
set_option maxRecDepth 4000
theorem mth_vt : mthV Tryz.prog 29 "stemma/object.valid" = some 139 := by kernel_rfl
variable [W0]
set_option maxHeartbeats 4000000 in
theorem parsetree_n (v : Value) (l : List Et) (L : List Chunk) (hb : BsAt L) (hv : Sl L 1 v (prT l).length (bsv (prT l))) (hg : ∀ x ∈ l, GdE x) (hll : l.length ≤ 1000) :
    Gv Tryz.prog 13 [.int .i64 2, v].toArray L (fun r L' => (vlQ l = true ∧ ∃ a c C, r = .tuple #[.iface 29 (.agg [.slice a l.length c].toArray), .int .i64 0] ∧ Ow 26 3 (.slice a l.length c) l.length (etc l) C ∧ L' = C :: L) ∨ (vlQ l = false ∧ r = .tuple #[.nilIface, .int .i64 3] ∧ L' = L)) := by
  have hlen := prT_gd hg
  refine Gv.of_body (args := [.int .i64 2, v]) Tryz.func13 rfl rfl ?_
  (repeat' first|refine kW ?_|refine kU fun bk=>?_|refine kV fun hc=>?_|refine kZ (fun hc=>?_) fun hc=>?_|fail)
  refine OW_EV (EV_convStr (b := prT l) rfl hv) rfl ?_
  (repeat' first|refine kW ?_|refine kU fun bk=>?_|refine kV fun hc=>?_|refine kZ (fun hc=>?_) fun hc=>?_|fail)
  refine OW_call rfl rfl rfl (readtree_n (prT l) _ hb (by omega)) rfl (fun r L' hp => ?_)
  obtain ⟨v1, C, rfl, ho, rfl⟩ := hp
  rw [gd_rd hg] at ho
  obtain ⟨a, c, rfl⟩ : ∃ a c, v1 = .slice a l.length c := by
    rcases ho with ⟨rfl, h, _, _⟩ | ⟨b, cap, rest, rfl, _⟩
    · exact ⟨none, 0, by rw [h]⟩
    · exact ⟨_, _, rfl⟩
  (repeat' first|refine kW ?_|refine kU fun bk=>?_|refine kV fun hc=>?_|refine kZ (fun hc=>?_) fun hc=>?_|fail)
  refine OW_invokeV mth_vt rfl rfl (treevalid_n _ l _ hb.there (ow_sl ho) (by omega) (fun x hx => ⟨by have := (hg x hx).nl; omega, (hg x hx).na, by rw [(hg x hx).il]; decide⟩)) rfl (fun r L' hp => ?_)
  obtain ⟨rfl, rfl⟩ := hp
  cases hq : vlQ l with
  | false =>
    (repeat' first|refine kW ?_|refine kU fun bk=>?_|refine kV fun hc=>?_|refine kZ (fun hc=>?_) fun hc=>?_|fail)
    refine kR ?_
    exact ⟨L, iC, .inr ⟨rfl, rfl, rfl⟩⟩
  | true =>
    (repeat' first|refine kW ?_|refine kU fun bk=>?_|refine kV fun hc=>?_|refine kZ (fun hc=>?_) fun hc=>?_|fail)
    refine OW_invokeV mth_bt rfl rfl (treebytes_n _ l _ (ow_sl ho) (by omega) (fun x hx => by rw [(hg x hx).il]; decide) (by omega)) rfl (fun r L' hp => ?_)
    obtain ⟨C2, h2, rfl⟩ := hp
    (repeat' first|refine kW ?_|refine kU fun bk=>?_|refine kV fun hc=>?_|refine kZ (fun hc=>?_) fun hc=>?_|fail)
    refine OW_callP rfl rfl rfl (bytesequal_n r v (prT l) (prT l) _ h2.sl (sl_there (sl_there hv))) rfl ?_
    rw [decide_eq_true rfl]
    (repeat' first|refine kW ?_|refine kU fun bk=>?_|refine kV fun hc=>?_|refine kZ (fun hc=>?_) fun hc=>?_|fail)
    refine kR ?_
    exact ⟨C :: L, iC, .inl ⟨rfl, a, c, C, rfl, ho, rfl⟩⟩
end Go.Proofs.YtlomjmdgcpjepaaGreatDoor
namespace Go.Proofs.YtlomjmdgcpjepaaGreatDoor
open Go Go.Vx Go.Ob Go.Lib
set_option linter.all false
set_option maxRecDepth 4000
section
variable [W0]
theorem EV_ari8 {P : Program} {n d : Nat} {M : List (Nat × Value)} {L : List Chunk} {ty : TypeId} {ps : String} {af : Array Edge} {g : Option (Nat × Bool)} {x y : Operand} {op : BinOp} {t u : TypeId} {i j r : Int} (s : Int) (hx : ev M x = some (.int .u8 i)) (hy : ev M y = some (.int .u8 j)) (hb : ariI op i j = some r) (hs : r % 256 = s) :
    EV P n ⟨some d, .binOp op t x y u, ty, ps, af, g⟩ M L d (.int .u8 s) := by
  have := EV_ari (P := P) (n := n) (L := L) (d := d) (ty := ty) (ps := ps) (af := af) (g := g) (op := op) (t := t) (u := u) hx hy hb
  rw [wrap_u8] at this
  rw [← hs]
  have e : ((r % 256).toNat : Int) = r % 256 := by omega
  rwa [e] at this
end
end Go.Proofs.YtlomjmdgcpjepaaGreatDoor
namespace Go.Vx
open Go
set_option linter.all false
variable [W0]
section
variable {P : Program} {ops : Array Oper} {Q : Exit → Act → World → Prop} {md : Region.Mode} {S : World → Prop} {T : List Nat}
theorem wpAnyT_first2 {i : Nat} {oi : Oper} {v : Value} (hi : ops[i]? = some oi) (hsel : ∀ (j : Nat) (o : Oper) cs b, ops[j]? = some o → o.op ≠ .select cs b)
    (hQ : ∀ c a w, Q (.panic c) (a.put oi.dst v) w → Q (.panic c) a w) :
    ∀ (fuel : Nat) (listed : Array Bool) (a : Act) (w : World), (∀ j ∈ T, j ≠ i → listed.getD j false = true ∨ ∃ f, ancB md ops i f j = true) →
      (∀ j oj, ops[j]? = some oj → j ≠ i → listed.getD j true = false → (∀ e ∈ oj.after, Region.binds md e = true → e.on ≠ i) → oi.apart ops oj = true) → DC md ops listed →
      i ∈ Region.ready md ops listed → YieldsIf P ops S oi v a → S w →
      wpAnyT P md ops Q S T fuel (listed.setIfInBounds i true) (a.put oi.dst v) w → wpAnyT P md ops Q S T (fuel + 1) listed a w := by
  intro fuel
  induction fuel with
  | zero =>
    intro listed a w _ _ _ hr hy hS H
    refine ⟨fun h => (by rw [h] at hr; cases hr), fun j hj => ?_⟩
    by_cases hji : j = i
    · subst hji; exact hy.wpOp hi hS ⟨fun _ => hS, H⟩
    · have := ready_mono hj hji
      rw [H.1] at this
      cases this
  | succ fuel ih =>
    intro listed a w hT hfree hdc hr hy hS H
    refine ⟨fun h => (by rw [h] at hr; cases hr), fun j hj => ?_⟩
    by_cases hji : j = i
    · subst hji; exact hy.wpOp hi hS ⟨fun _ => hS, H⟩
    · have h1 := H.2 j (ready_mono hj hji)
      obtain ⟨hjun, oj, hoj, hall⟩ := mem_ready.1 hj
      have hun := (mem_ready.1 hr).1
      have hnot : ∀ e ∈ oj.after, Region.binds md e = true → e.on ≠ i := fun e he hb heq => by
        have h1 := hall e he hb
        rw [heq] at h1
        exact listed_both hun h1
      have hnT : j ∉ T := fun hm => by
        rcases hT j hm hji with hl | ⟨f, hf⟩
        · exact listed_both hjun hl
        · exact listed_both hun (ancB_spec hdc f j oj hf hoj hall)
      have h2 := wpOp_putIf hoj (hfree j oj hoj hji hjun hnot) (fun cs b => hsel i oi cs b hi) (fun cs b => hsel j oj cs b hoj) hQ hy h1
      have hfree' : ∀ k ok, ops[k]? = some ok → k ≠ i → (listed.setIfInBounds j true).getD k true = false →
          (∀ e ∈ ok.after, Region.binds md e = true → e.on ≠ i) → oi.apart ops ok = true := fun k ok hk hki hun hno => by
        refine hfree k ok hk hki ?_ hno
        by_cases hjk : j = k
        · subst hjk; exact hjun
        · rw [getD_set_ne true hjk] at hun; exact hun
      have hT' : ∀ k ∈ T, k ≠ i → (listed.setIfInBounds j true).getD k false = true ∨ ∃ f, ancB md ops i f k = true := fun k hk hki => (hT k hk hki).imp getD_set_true id
      refine wpOp_mono (fun a' w' h3 => ⟨fun _ => h3.2.1 hnT, ih (listed.setIfInBounds j true) a' w' hT' hfree' (hdc.set hj) (ready_mono hr (Ne.symm hji)) h3.1 (h3.2.1 hnT) ?_⟩) h2
      rw [Array.setIfInBounds_comm _ _ hji]
      exact h3.2.2
theorem wpAnyT_float {i : Nat} {oi : Oper} {v : Value} (hi : ops[i]? = some oi) (hsel : ∀ (j : Nat) (o : Oper) cs b, ops[j]? = some o → o.op ≠ .select cs b)
    (hQ : ∀ c a w, Q (.panic c) (a.put oi.dst v) w → Q (.panic c) a w) (hiT : i ∈ T) :
    ∀ (fuel : Nat) (listed : Array Bool) (a : Act) (w : World),
      (∀ j oj, ops[j]? = some oj → j ≠ i → listed.getD j true = false → (∀ e ∈ oj.after, Region.binds md e = true → e.on ≠ i) → oi.apart ops oj = true) → DC md ops listed →
      i ∈ Region.ready md ops listed → YieldsIf P ops (fun _ => True) oi v a →
      wpAnyT P md ops Q S T fuel (listed.setIfInBounds i true) (a.put oi.dst v) w → wpAnyT P md ops Q S T (fuel + 1) listed a w := by
  intro fuel
  induction fuel with
  | zero =>
    intro listed a w _ _ hr hy H
    refine ⟨fun h => (by rw [h] at hr; cases hr), fun j hj => ?_⟩
    by_cases hji : j = i
    · subst hji; exact hy.wpOp hi trivial ⟨fun hn => absurd hiT hn, H⟩
    · have := ready_mono hj hji
      rw [H.1] at this
      cases this
  | succ fuel ih =>
    intro listed a w hfree hdc hr hy H
    refine ⟨fun h => (by rw [h] at hr; cases hr), fun j hj => ?_⟩
    by_cases hji : j = i
    · subst hji; exact hy.wpOp hi trivial ⟨fun hn => absurd hiT hn, H⟩
    · have h1 := H.2 j (ready_mono hj hji)
      obtain ⟨hjun, oj, hoj, hall⟩ := mem_ready.1 hj
      have hun := (mem_ready.1 hr).1
      have hnot : ∀ e ∈ oj.after, Region.binds md e = true → e.on ≠ i := fun e he hb heq => by
        have h1 := hall e he hb
        rw [heq] at h1
        exact listed_both hun h1
      have h2 := wpOp_putIf hoj (hfree j oj hoj hji hjun hnot) (fun cs b => hsel i oi cs b hi) (fun cs b => hsel j oj cs b hoj) hQ hy h1
      have hfree' : ∀ k ok, ops[k]? = some ok → k ≠ i → (listed.setIfInBounds j true).getD k true = false →
          (∀ e ∈ ok.after, Region.binds md e = true → e.on ≠ i) → oi.apart ops ok = true := fun k ok hk hki hun hno => by
        refine hfree k ok hk hki ?_ hno
        by_cases hjk : j = k
        · subst hjk; exact hjun
        · rw [getD_set_ne true hjk] at hun; exact hun
      refine wpOp_mono (fun a' w' h3 => ⟨h3.2.1, ih (listed.setIfInBounds j true) a' w' hfree' (hdc.set hj) (ready_mono hr (Ne.symm hji)) h3.1 ?_⟩) h2
      rw [Array.setIfInBounds_comm _ _ hji]
      exact h3.2.2
end
omit [W0] in
/-- The ground for taking number i first. -/
def takeB2 (ops : List Oper) (T : List Nat) (listed : Array Bool) (i : Nat) : Bool :=
  Region.noSelect ops.toArray && Region.free .any ops.toArray listed i && (Region.ready .any ops.toArray listed).contains i && dcB .any ops.toArray listed
    && T.all fun j => j == i || listed.getD j false || ancB .any ops.toArray i ops.length j
omit [W0] in
def takeB3 (ops : List Oper) (T : List Nat) (listed : Array Bool) (i : Nat) : Bool :=
  Region.noSelect ops.toArray && Region.free .any ops.toArray listed i && (Region.ready .any ops.toArray listed).contains i && dcB .any ops.toArray listed && T.contains i
section
variable {P : Program} {n : Nat} {Q : Exit → Act → World → Prop} {M : List (Nat × Value)} {L S : List Chunk} {ops : List Oper} {T : List Nat} {fuel : Nat} {listed : Array Bool} {d : Nat} {v : Value}
theorem WR_take2 (i : Nat) {o : Oper} (hi : ops[i]? = some o) (hg : o.guard = none) (hb : takeB2 ops T listed i = true) (hPO : PO Q) (hinc : Inc S L) (he : EV P n o M S d v) (hn : Nat.blt d n = true)
    (h : WR P n ops Q S T fuel (listed.setIfInBounds i true) ((d, v) :: M) L) : WR P n ops Q S T (fuel + 1) listed M L := ⟨fun a w ha hw => by
  simp only [takeB2, Bool.and_eq_true, List.all_eq_true, Bool.or_eq_true, beq_iff_eq] at hb
  obtain ⟨⟨⟨⟨h1, h2⟩, h3⟩, h4⟩, h5⟩ := hb
  have hi' : ops.toArray[i]? = some o := by simpa using hi
  refine wpAnyT_first2 hi' (Region.noSelect_spec h1) (fun c a w hq => hPO.out c a _ _ w hq) fuel listed a w (fun j hj hne => ?_) (Region.free_spec hi' h2) (DC.of h4) (by simpa using h3) (.inl ⟨by simp [Region.wanted, hg], fun w hw => he.run a w ha hw⟩) (hinc.holds hw) ?_
  · rcases h5 j hj with (h | h) | h
    · exact absurd h hne
    · exact .inl h
    · exact .inr ⟨_, h⟩
  · rw [he.dst]
    exact h.out _ w (ha.put v hn) hw⟩
structure EF (P : Program) (n : Nat) (o : Oper) (M : List (Nat × Value)) (d : Nat) (v : Value) : Prop where
  dst : o.dst = some d
  run : ∀ a w, St n M a → (execOp a.eval o).run P w = .ok (.value v) w
theorem WR_float (i : Nat) {o : Oper} (hi : ops[i]? = some o) (hg : o.guard = none) (hb : takeB3 ops T listed i = true) (hPO : PO Q) (he : EF P n o M d v) (hn : Nat.blt d n = true)
    (h : WR P n ops Q S T fuel (listed.setIfInBounds i true) ((d, v) :: M) L) : WR P n ops Q S T (fuel + 1) listed M L := ⟨fun a w ha hw => by
  simp only [takeB3, Bool.and_eq_true] at hb
  obtain ⟨⟨⟨⟨h1, h2⟩, h3⟩, h4⟩, h5⟩ := hb
  have hi' : ops.toArray[i]? = some o := by simpa using hi
  refine wpAnyT_float hi' (Region.noSelect_spec h1) (fun c a w hq => hPO.out c a _ _ w hq) (by simpa using h5) fuel listed a w (Region.free_spec hi' h2) (DC.of h4) (by simpa using h3) (.inl ⟨by simp [Region.wanted, hg], fun w _ => he.run a w ha⟩) ?_
  rw [he.dst]
  exact h.out _ w (ha.put v hn) hw⟩
variable {ty : TypeId} {ps : String} {af : Array Edge} {g : Option (Nat × Bool)} {x y : Operand}
theorem EF_move (hx : ev M x = some v) : EF P n ⟨some d, .move x, ty, ps, af, g⟩ M d v := ⟨rfl, fun a w ha => by simp [execOp, ha.eval hx]⟩
theorem EF_ari64 {op : BinOp} {t u : TypeId} {i j r : Int} (hx : ev M x = some (.int .i64 i)) (hy : ev M y = some (.int .i64 j)) (hb : ariI op i j = some r) (h1 : -9223372036854775808 ≤ r ∧ r ≤ 9223372036854775807) :
    EF P n ⟨some d, .binOp op t x y u, ty, ps, af, g⟩ M d (.int .i64 r) := ⟨rfl, fun a w ha => by
  have hw := wrap_i64 h1.1 h1.2
  cases op <;> simp [ariI] at hb <;> subst hb <;> simp [execOp, ha.eval hx, ha.eval hy, eqGuard, binOp, Op.intArith, hw]⟩
theorem WR_t2 (i : Nat) {o : Oper} (h : WR P n ops Q S T fuel (listed.setIfInBounds i true) ((d, v) :: M) L)
    (hi : ops[i]? = some o := by exact rfl) (hg : o.guard = none := by exact rfl) (hb : takeB2 ops T listed i = true := by kernel_rfl) (hPO : PO Q := by exact iP) (hinc : Inc S L := by exact iC) (he : EV P n o M S d v := by exact (by first | (show EV _ _ ⟨_, .move _, _, _, _, _⟩ _ _ _ _; first | exact EV_move rfl) | (show EV _ _ ⟨_, .assign _, _, _, _, _⟩ _ _ _ _; first | exact EV_assign rfl) | (show EV _ _ ⟨_, .nilCheck _, _, _, _, _⟩ _ _ _ _; first | exact EV_nilCheck rfl) | (show EV _ _ ⟨_, .fieldAddr .., _, _, _, _⟩ _ _ _ _; first | exact EV_fieldAddr0 rfl | exact EV_fieldAddr rfl) | (show EV _ _ ⟨_, .load .., _, _, _, _⟩ _ _ _ _; first | exact EV_loadc rfl (by repeat (first | assumption | exact Fnd.here | refine Fnd.there ?_)) rfl | exact EV_loadAggC rfl (by repeat (first | assumption | exact Fnd.here | refine Fnd.there ?_)) rfl) | (show EV _ _ ⟨_, .binOp .., _, _, _, _⟩ _ _ _ _; first | exact EV_cmp rfl rfl rfl | exact EV_ari64 rfl rfl rfl (by omega) | exact EV_shr rfl rfl (by decide) (shr_lit (by omega) (by simp [IntKind.bits]; rfl)) | exact EV_strEq rfl rfl | exact EV_strNe rfl rfl | exact EV_strLt rfl rfl | exact EV_sliceEqNil rfl rfl | exact EV_sliceNeNil rfl rfl | exact EV_ptrEqNil rfl rfl | exact EV_ptrNeNil rfl rfl | exact EV_boolEq rfl rfl | exact EV_boolNe rfl rfl) | (show EV _ _ ⟨_, .convert .., _, _, _, _⟩ _ _ _ _; first | exact EV_convII rfl (wrap_i64 (by omega) (by omega)) | exact EV_convII rfl (wrap_u64 (by omega) (by omega)) | exact EV_convII rfl rfl) | (show EV _ _ ⟨_, .extract .., _, _, _, _⟩ _ _ _ _; first | exact EV_extract rfl rfl) | (show EV _ _ ⟨_, .unOp .., _, _, _, _⟩ _ _ _ _; first | exact EV_not rfl) | (show EV _ _ ⟨_, .pick .., _, _, _, _⟩ _ _ _ _; first | exact EV_pick rfl rfl) | (show EV _ _ ⟨_, .call ⟨.builtin .len, _, _⟩, _, _, _, _⟩ _ _ _ _; first | exact EV_lenSl rfl | exact EV_lenStr rfl) | (show EV _ _ ⟨_, .call ⟨.builtin .cap, _, _⟩, _, _, _, _⟩ _ _ _ _; first | exact EV_capSl rfl) | (show EV _ _ ⟨_, .call ⟨.builtin .min, _, _⟩, _, _, _, _⟩ _ _ _ _; first | exact EV_min rfl rfl) | (show EV _ _ ⟨_, .call ⟨.builtin .max, _, _⟩, _, _, _, _⟩ _ _ _ _; first | exact EV_max rfl rfl) | (show EV _ _ ⟨_, .makeInterface .., _, _, _, _⟩ _ _ _ _; first | exact EV_makeInterface rfl) | (show EV _ _ ⟨_, .makeFunc .., _, _, _, _⟩ _ _ _ _; first | exact EV_makeFunc rfl rfl) | (show EV _ _ ⟨_, .typeAssert .., _, _, _, _⟩ _ _ _ _; first | exact EV_assertYes rfl | exact EV_assertNo rfl rfl) | (show EV _ _ ⟨_, .build .., _, _, _, _⟩ _ _ _ _; first | exact EV_build rfl (by simp [fillL, patch, Value.cells]; rfl)))) (hn : Nat.blt d n = true := by exact rfl) :
    WR P n ops Q S T (fuel + 1) listed M L := WR_take2 i hi hg hb hPO hinc he hn h
theorem WR_f (i : Nat) {o : Oper} (h : WR P n ops Q S T fuel (listed.setIfInBounds i true) ((d, v) :: M) L)
    (hi : ops[i]? = some o := by exact rfl) (hg : o.guard = none := by exact rfl) (hb : takeB3 ops T listed i = true := by kernel_rfl) (hPO : PO Q := by exact iP) (he : EF P n o M d v := by first | exact EF_move rfl | exact EF_ari64 rfl rfl rfl (by omega)) (hn : Nat.blt d n = true := by exact rfl) :
    WR P n ops Q S T (fuel + 1) listed M L := WR_float i hi hg hb hPO he hn h
end
end Go.Vx
namespace Go.Vx
open Go
set_option linter.all false
def cntU (n : Nat) (listed : Array Bool) : Nat := (List.range n).countP fun j => !listed.getD j true
theorem countP_less {p q : Nat → Bool} : ∀ {l : List Nat} {i : Nat}, i ∈ l → (∀ j, q j = true → p j = true) → p i = true → q i = false → l.countP q < l.countP p
  | [], i, h, _, _, _ => by simp at h
  | x :: r, i, h, hs, h1, h2 => by
    have hle : r.countP q ≤ r.countP p := List.countP_mono_left fun j _ hj => hs j hj
    rcases List.mem_cons.1 h with rfl | h
    · rw [List.countP_cons, List.countP_cons, h1, h2]
      simp; omega
    · have ih := countP_less h hs h1 h2
      rw [List.countP_cons, List.countP_cons]
      cases hq : q x with
      | false => simp; omega
      | true => rw [hs x hq]; simp; omega
theorem set_at {listed : Array Bool} {i j : Nat} (d : Bool) (hi : i < listed.size) : (listed.setIfInBounds i true).getD j d = if i = j then true else listed.getD j d := by
  simp only [Array.getD_eq_getD_getElem?, Array.getElem?_setIfInBounds]
  split
  · rename_i h; subst h; simp [hi]
  · rfl
theorem cntU_set {n i : Nat} {listed : Array Bool} (hi : i < listed.size) (hn : i < n) (h0 : listed.getD i true = false) : cntU n (listed.setIfInBounds i true) < cntU n listed := by
  refine countP_less (i := i) (List.mem_range.2 hn) (fun j hj => ?_) (by rw [h0]; rfl) (by rw [set_at _ hi, if_pos rfl]; rfl)
  rw [set_at _ hi] at hj
  split at hj
  · simp at hj
  · exact hj
def flowB (ops : List Oper) (last : Nat) : Bool := Nat.beq ops.length (last + 1) && ((List.range (last + 1)).all fun i => match ops[i]? with
  | none => false
  | some o => o.after.toList.all fun e => Nat.blt e.on i) && (match ops[last]? with
  | none => false
  | some o => (List.range last).all fun j => o.after.toList.any fun e => Nat.beq e.on j && Region.binds .any e)
section
variable [W0]
variable {P : Program} {n : Nat} {Q : Exit → Act → World → Prop} {ops : List Oper} {S : List Chunk} {T : List Nat}
theorem OW.mono {o : Oper} {K K' : List (Nat × Value) → List Chunk → Prop} {M : List (Nat × Value)} {L : List Chunk} (h : OW P n o K M L) (hk : ∀ M' L', K M' L' → K' M' L') : OW P n o K' M L :=
  ⟨fun a w next Q ha hw h1 => h.out a w next Q ha hw fun M' L' hK => h1 M' L' (hk M' L' hK)⟩
theorem WR_any' {fuel : Nat} {listed : Array Bool} {M : List (Nat × Value)} {L : List Chunk} (hne : Region.ready .any ops.toArray listed ≠ [])
    (h : ∀ j, j ∈ Region.ready .any ops.toArray listed → ∃ o, ops[j]? = some o ∧ o.guard = none ∧ OW P n o (WRk P n ops Q S T fuel (listed.setIfInBounds j true)) M L) : WR P n ops Q S T (fuel + 1) listed M L := ⟨fun a w ha hw => by
  refine ⟨fun h0 => absurd h0 hne, fun j hj => ?_⟩
  obtain ⟨o, hi, hg, ho⟩ := h j hj
  unfold wpOp
  simp only [List.getElem?_toArray, hi]
  rw [if_pos (by simp [Region.wanted, hg])]
  exact .inl (ho.out a w _ Q ha hw fun M' L' hk => ⟨fun a' w' ha' hw' => ⟨fun _ => hk.inc.holds hw', hk.out.out a' w' ha' hw'⟩⟩)⟩
theorem lk_ne {M : List (Nat × Value)} {t u : Nat} {v : Value} (h : t ≠ u) : lk ((t, v) :: M) u = lk M u := by
  show (bif Nat.beq t u then some v else lk M u) = lk M u
  rw [show Nat.beq t u = false from by rw [← Bool.not_eq_true, Nat.beq_eq]; exact h]
  rfl
theorem lk_eq {M : List (Nat × Value)} {t : Nat} {v : Value} : lk ((t, v) :: M) t = some v := by
  show (bif Nat.beq t t then some v else lk M t) = some v
  rw [Nat.beq_refl]
  rfl
theorem WR_flow (last : Nat) (B : List (Nat × Value) → List Chunk → Prop) (dst : Nat → Nat) (ψ : Nat → Value → List Chunk → Prop) (hf : flowB ops last = true) (hinc : ∀ M L, B M L → Inc S L)
    (hB : ∀ i M L v R, i < last → B M L → B ((dst i, v) :: M) (R ++ L)) (hψ : ∀ i v L R, ψ i v L → ψ i v (R ++ L)) (hd : ∀ i j, i < last → j < last → dst i = dst j → i = j)
    (hstep : ∀ (i : Nat) (o : Oper), i < last → ops[i]? = some o → o.guard = none ∧ ∀ M L, B M L → (∀ e ∈ o.after, Region.binds .any e = true → ∃ v, lk M (dst e.on) = some v ∧ ψ e.on v L) →
      OW P n o (fun M' L' => ∃ v R, M' = (dst i, v) :: M ∧ L' = R ++ L ∧ ψ i v (R ++ L)) M L)
    (hend : ∀ (o : Oper), ops[last]? = some o → o.guard = none ∧ ∀ M L, B M L → (∀ i, i < last → ∃ v, lk M (dst i) = some v ∧ ψ i v L) → OW P n o (fun M' L' => Inc S L' ∧ WQ n (Q .normal) M' L') M L) :
    ∀ (fuel : Nat) (listed : Array Bool) (M : List (Nat × Value)) (L : List Chunk), listed.size = last + 1 → cntU (last + 1) listed ≤ fuel → listed.getD last true = false → B M L →
      (∀ j, j < last → listed.getD j false = true → ∃ v, lk M (dst j) = some v ∧ ψ j v L) → WR P n ops Q S T fuel listed M L := by
  unfold flowB at hf
  simp only [Bool.and_eq_true] at hf
  obtain ⟨⟨hlen, hord⟩, hlast⟩ := hf
  have hlen : ops.length = last + 1 := Nat.eq_of_beq_eq_true hlen
  have hear : ∀ (i : Nat) (o : Oper), ops[i]? = some o → ∀ e ∈ o.after, e.on < i := by
    intro i o ho e he
    have hi : i < last + 1 := by
      rw [← hlen]
      rcases Nat.lt_or_ge i ops.length with h | h
      · exact h
      · rw [List.getElem?_eq_none h] at ho; exact absurd ho (by simp)
    have := List.all_eq_true.1 hord i (List.mem_range.2 hi)
    rw [ho] at this
    have := List.all_eq_true.1 this e (by simpa using he)
    exact Nat.le_of_ble_eq_true this
  intro fuel
  induction fuel with
  | zero =>
    intro listed M L hs hc hl hb hi
    have : 0 < cntU (last + 1) listed := by
      have h1 := cntU_set (n := last + 1) (i := last) (listed := listed) (by omega) (by omega) hl
      omega
    omega
  | succ fuel ih =>
    intro listed M L hs hc hl hb hi
    have hgd : ∀ j, j < last + 1 → listed.getD j true = true → listed.getD j false = true := by
      intro j hj h
      rw [Array.getD_eq_getD_getElem?, Array.getElem?_eq_getElem (by omega)] at h ⊢
      exact h
    have hne : Region.ready .any ops.toArray listed ≠ [] := by
      have hmin : ∀ k, k ≤ last → listed.getD k true = false → ∃ m, m ≤ last ∧ listed.getD m true = false ∧ ∀ j, j < m → listed.getD j true = true := by
        intro k
        induction k using Nat.strongRecOn with
        | _ k ihk =>
          intro hk h0
          by_cases hall : ∀ j, j < k → listed.getD j true = true
          · exact ⟨k, hk, h0, hall⟩
          · have : ∃ j, j < k ∧ listed.getD j true = false := by
              apply Classical.byContradiction
              intro hno
              apply hall
              intro j hj
              cases hq : listed.getD j true with
              | true => rfl
              | false => exact absurd ⟨j, hj, hq⟩ hno
            obtain ⟨j, hj, hq⟩ := this
            exact ihk j hj (by omega) hq
      obtain ⟨m, hm, hm0, hml⟩ := hmin last (Nat.le_refl _) hl
      obtain ⟨o, ho⟩ : ∃ o, ops[m]? = some o := ⟨ops[m]'(by omega), by simp⟩
      have : m ∈ Region.ready .any ops.toArray listed := mem_ready.2 ⟨hm0, o, by simpa using ho, fun e he _ => by
        have := hear m o ho e he
        exact hgd e.on (by omega) (hml e.on this)⟩
      intro h0
      rw [h0] at this
      simp at this
    refine WR_any' hne (fun i hir => ?_)
    obtain ⟨h0, o, ho, hdep⟩ := mem_ready.1 hir
    have ho : ops[i]? = some o := by simpa using ho
    have hil : i < last + 1 := by
      rw [← hlen]
      rcases Nat.lt_or_ge i ops.length with h | h
      · exact h
      · rw [List.getElem?_eq_none h] at ho; exact absurd ho (by simp)
    by_cases he : i = last
    · subst he
      obtain ⟨hg, hs2⟩ := hend o ho
      have hall : ∀ j, j < i → listed.getD j false = true := by
        intro j hj
        rw [ho] at hlast
        have := List.all_eq_true.1 hlast j (List.mem_range.2 hj)
        obtain ⟨e, he, h1⟩ := List.any_eq_true.1 this
        rw [Bool.and_eq_true] at h1
        have := hdep e (by simpa using he) h1.2
        rwa [Nat.eq_of_beq_eq_true h1.1] at this
      refine ⟨o, ho, hg, (hs2 M L hb fun j hj => hi j hj (hall j hj)).mono fun M' L' h => ⟨h.1, WR_done ?_ h.2⟩⟩
      have : ∀ j, j ∉ Region.ready .any ops.toArray (listed.setIfInBounds i true) := by
        intro j hj
        obtain ⟨h1, o2, ho2, _⟩ := mem_ready.1 hj
        have ho2 : ops[j]? = some o2 := by simpa using ho2
        have hjl : j < i + 1 := by
          rw [← hlen]
          rcases Nat.lt_or_ge j ops.length with h | h
          · exact h
          · rw [List.getElem?_eq_none h] at ho2; exact absurd ho2 (by simp)
        rw [set_at _ (by omega)] at h1
        split at h1
        · exact absurd h1 (by decide)
        · have h3 := hall j (by omega)
          rw [Array.getD_eq_getD_getElem?, Array.getElem?_eq_getElem (by omega)] at h1 h3
          simp only [Option.getD_some] at h1 h3
          rw [h1] at h3
          exact absurd h3 (by decide)
      exact List.eq_nil_iff_forall_not_mem.2 this
    · have hil2 : i < last := by omega
      obtain ⟨hg, hs2⟩ := hstep i o hil2 ho
      refine ⟨o, ho, hg, (hs2 M L hb fun e he hb2 => hi e.on (by have := hear i o ho e he; omega) (hdep e he hb2)).mono fun M' L' h => ?_⟩
      obtain ⟨v, R, rfl, rfl, hv⟩ := h
      have hb' := hB i M L v R hil2 hb
      refine ⟨hinc _ _ hb', ih _ _ _ (by simpa using hs) ?_ ?_ hb' ?_⟩
      · have := cntU_set (n := last + 1) (i := i) (listed := listed) (by omega) (by omega) h0
        omega
      · rw [set_at _ (by omega), if_neg he]; exact hl
      · intro j hj hlj
        by_cases hij : i = j
        · subst hij
          exact ⟨v, lk_eq, hv⟩
        · rw [set_at _ (by omega), if_neg hij] at hlj
          obtain ⟨v', h1, h2⟩ := hi j hj hlj
          exact ⟨v', by rw [lk_ne (fun h => hij (hd i j hil2 hj h))]; exact h1, hψ _ _ _ _ h2⟩
end
end Go.Vx
namespace Go.Vx
open Go
set_option linter.all false
inductive Fk where
  | pure (v : Value)
  | mem (f : Nat → Value) (o : Obj)
  | own (f : Nat → Value) (o : Obj)
def depB (o : Oper) (j : Nat) : Bool := o.after.toList.any fun e => Nat.beq e.on j && Region.binds .any e
section
variable [W0]
def psi (S : List Chunk) (F : Nat → Fk) (i : Nat) (v : Value) (L : List Chunk) : Prop := match F i with
  | .pure u => v = u
  | .mem f o => ∃ q, v = f q ∧ Fnd L q o
  | .own f o => ∃ q R1 R3, v = f q ∧ L = R1 ++ ([(q, o)] :: (R3 ++ S))
variable {P : Program} {n : Nat} {Q : Exit → Act → World → Prop} {ops : List Oper} {S : List Chunk} {T : List Nat}
theorem psi_more {F : Nat → Fk} {i : Nat} {v : Value} {L : List Chunk} (R : List Chunk) (h : psi S F i v L) : psi S F i v (R ++ L) := by
  unfold psi at h ⊢
  split at h
  · exact h
  · obtain ⟨q, h1, h2⟩ := h
    exact ⟨q, h1, h2.right⟩
  · obtain ⟨q, R1, R3, h1, rfl⟩ := h
    exact ⟨q, R ++ R1, R3, h1, by rw [List.append_assoc]⟩
theorem Sub.skip {M0 M : List (Nat × Value)} {d : Nat} {v : Value} (h : Sub M0 M) (hd : (M0.map (·.1)).contains d = false) : Sub M0 ((d, v) :: M) := by
  intro u x hu
  have : d ≠ u := by
    rintro rfl
    have : ∀ (m : List (Nat × Value)), lk m d = some x → (m.map (·.1)).contains d = true := by
      intro m
      induction m with
      | nil => intro h; simp [lk] at h
      | cons p r ih =>
        obtain ⟨t, y⟩ := p
        intro h
        by_cases ht : t = d
        · simp [ht]
        · rw [lk_ne ht] at h
          have := ih h
          simp only [List.map_cons, List.contains_cons, this, Bool.or_true]
    rw [this M0 hu] at hd
    exact absurd hd (by decide)
  rw [lk_ne this]
  exact h u x hu
theorem inc_app {R S : List Chunk} : Inc S (R ++ S) := ⟨R, List.perm_append_comm⟩
theorem inc_mid {c : Chunk} {R1 R3 S : List Chunk} : Inc (c :: S) (R1 ++ (c :: (R3 ++ S))) := by
  refine ⟨R1 ++ R3, ?_⟩
  have h1 : (R1 ++ (c :: (R3 ++ S))).Perm (c :: (R1 ++ (R3 ++ S))) := List.perm_middle
  have h2 : (R1 ++ (R3 ++ S)).Perm (S ++ (R1 ++ R3)) := by
    rw [← List.append_assoc]
    exact List.perm_append_comm
  exact h1.trans (h2.cons c)
theorem WQ.restate {K : Act → World → Prop} {M M' : List (Nat × Value)} {L L' : List Chunk} (hM : Sub M' M) (hL : ∀ w, Holds w L → Holds w L') (h : WQ n K M' L') : WQ n K M L := ⟨fun a w ha hw => h.out a w (ha.sub hM) (hL w hw)⟩
theorem OW.restate {o : Oper} {K : List (Nat × Value) → List Chunk → Prop} {M : List (Nat × Value)} {L L' : List Chunk} (hL : ∀ w, Holds w L → Holds w L') (h : OW P n o K M L') : OW P n o K M L := ⟨fun a w next Q ha hw hk => h.out a w next Q ha (hL w hw) hk⟩
theorem WR_flowK {M : List (Nat × Value)} (M0 : List (Nat × Value)) (last : Nat) (ds : List Nat) (F : Nat → Fk) (hf : flowB ops last = true) (hl : ds.length = last) (hnd : ds.Nodup) (hk : (ds.all fun d => !(M0.map (·.1)).contains d) = true)
    (hstep : ∀ (i : Nat) (o : Oper), i < last → ops[i]? = some o → o.guard = none ∧ ∀ M L, Sub M0 M → (∃ R, L = R ++ S) → (∀ j, depB o j = true → ∃ v, lk M (ds.getD j 0) = some v ∧ psi S F j v L) →
      OW P n o (fun M' L' => ∃ v R, M' = (ds.getD i 0, v) :: M ∧ L' = R ++ L ∧ psi S F i v (R ++ L)) M L)
    (hend : ∀ (o : Oper), ops[last]? = some o → o.guard = none ∧ ∀ M L, Sub M0 M → (∃ R, L = R ++ S) → (∀ i, i < last → ∃ v, lk M (ds.getD i 0) = some v ∧ psi S F i v L) → OW P n o (fun M' L' => Inc S L' ∧ WQ n (Q .normal) M' L') M L)
    (hM : Sub M0 M) : WR P n ops Q S T ops.length (Array.replicate ops.length false) M S := by
  have hlen : ops.length = last + 1 := by
    unfold flowB at hf
    simp only [Bool.and_eq_true] at hf
    exact Nat.eq_of_beq_eq_true hf.1.1
  have hget : ∀ i, i < last → ∃ d, ds.getD i 0 = d ∧ ds[i]? = some d ∧ (M0.map (·.1)).contains d = false := by
    intro i hi
    have h1 : ds[i]? = some (ds[i]'(by omega)) := by simp
    refine ⟨ds[i]'(by omega), by simp [List.getD, h1], h1, ?_⟩
    have := List.all_eq_true.1 hk _ (List.getElem_mem (h := by omega) : ds[i]'(by omega) ∈ ds)
    simpa using this
  have hrep : ∀ j (d : Bool), j < last + 1 → (Array.replicate ops.length false).getD j d = false := by
    intro j d hj
    rw [Array.getD_eq_getD_getElem?, Array.getElem?_replicate, if_pos (by omega)]
    rfl
  refine WR_flow last (fun M L => Sub M0 M ∧ ∃ R, L = R ++ S) (fun i => ds.getD i 0) (psi S F) hf ?_ ?_ ?_ ?_ ?_ ?_ _ _ _ _ ?_ ?_ ?_ ⟨hM, [], rfl⟩ ?_
  · rintro M L ⟨_, R, rfl⟩
    exact inc_app
  · rintro i M L v R hi ⟨h1, R2, rfl⟩
    obtain ⟨d, e1, _, e3⟩ := hget i hi
    refine ⟨?_, R ++ R2, by rw [List.append_assoc]⟩
    show Sub M0 ((ds.getD i 0, v) :: M)
    rw [e1]
    exact h1.skip e3
  · intro i v L R h
    exact psi_more R h
  · intro i j hi hj he
    obtain ⟨d1, e1, f1, _⟩ := hget i hi
    obtain ⟨d2, e2, f2, _⟩ := hget j hj
    have he : ds.getD i 0 = ds.getD j 0 := he
    rw [e1, e2] at he
    subst he
    exact (List.getElem?_inj (by omega) hnd).1 (f1.trans f2.symm)
  · intro i o hi ho
    obtain ⟨hg, h⟩ := hstep i o hi ho
    refine ⟨hg, fun M L hb hd => h M L hb.1 hb.2 fun j hj => ?_⟩
    unfold depB at hj
    obtain ⟨e, he, h1⟩ := List.any_eq_true.1 hj
    rw [Bool.and_eq_true] at h1
    have := hd e (by simpa using he) h1.2
    rwa [Nat.eq_of_beq_eq_true h1.1] at this
  · intro o ho
    obtain ⟨hg, h⟩ := hend o ho
    exact ⟨hg, fun M L hb hd => h M L hb.1 hb.2 hd⟩
  · rw [Array.size_replicate]; exact hlen
  · rw [hlen]
    unfold cntU
    exact Nat.le_trans List.countP_le_length (by simp)
  · exact hrep _ _ (by omega)
  · intro j hj h
    rw [hrep j false (by omega)] at h
    exact absurd h (by decide)
end
end Go.Vx
