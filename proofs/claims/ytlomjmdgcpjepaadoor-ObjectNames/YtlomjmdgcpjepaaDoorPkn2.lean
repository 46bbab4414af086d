/- ObjectNames returns true and leaves its arguments as they were, wherever what it reads is of bulk at most 1048576; the table that the program reads is tied to its text (the card). Condition: that bound. -/
import Derived.Test.YtlomjmdgcpjepaaDoorPkn1
namespace Go.Vx
open Go
set_option linter.all false
variable [W0]
omit [W0] in
/-- No cell of the row is marked. -/
def FrOk (fr : Nat × Nat) (n : Nat) : Prop := ∀ j, j < n → ¬ (fr.1 ≤ j ∧ j < fr.2)
theorem FrOk.zero (n : Nat) : FrOk (0, 0) n := fun j _ h => by simp at h
theorem FrOk.behind (n : Nat) : FrOk (n, n + 1) n := fun j hj h => by simp at h; omega
omit [W0] in
/-- A slice of the call's own whose row may bear a mark. -/
def OwF (e k : Nat) (v : Value) (m : Nat) (xs : List Value) (C : Chunk) : Prop :=
  ∃ b cap rest fr, v = .slice (some ⟨b, 0, none⟩) m cap ∧ C = [(b, .cells (xs ++ rest).toArray e fr)] ∧ xs.length = m * k ∧ rest.length = (cap - m) * k ∧ m ≤ cap ∧ cap ≤ maxLen ∧ FrOk fr (xs ++ rest).length
theorem owf_sl {e k m : Nat} {v : Value} {xs : List Value} {C : Chunk} {L : List Chunk} (h : OwF e k v m xs C) : Sl (C :: L) k v m xs := by
  obtain ⟨b, cap, rest, fr, rfl, rfl, hxl, hrl, hmc, hcm, hfr⟩ := h
  exact .inr ⟨_, _, rfl, .inr ⟨b, 0, _, _, _, rfl, .here, fun j u hj => by rw [Nat.zero_add]; simpa using getE_app hj⟩, hxl⟩
theorem setCells_at {b : Nat} {T : TypeId} {fr : Nat × Nat} : ∀ (vs : List Value) (off : Nat) (c : Array Value) (w : World), w.heap[b]? = some (.cells c T fr) → off + vs.length ≤ c.size →
    (w.setCells b off vs).heap[b]? = some (.cells (patch c.toList off vs).toArray T fr)
  | [], off, c, w, h, _ => by simpa [World.setCells, patch] using h
  | v :: r, off, c, w, h, hf => by
    simp only [List.length_cons] at hf
    have h1 := setCell_at (off := off) (v := v) h
    have h2 := setCells_at r (off + 1) _ _ h1 (by simp; omega)
    rw [World.setCells, h2]
    congr 2
    have e := list_seg_step c.toList off v r (by simp; omega)
    simpa [patch, Array.toList_setIfInBounds, Nat.add_assoc, Nat.add_comm 1] using e
theorem setCells_ne {b : Nat} : ∀ (vs : List Value) (off : Nat) (w : World) (c : Nat), c ≠ b → (w.setCells b off vs).heap[c]? = w.heap[c]?
  | [], _, _, _, _ => rfl
  | v :: r, off, w, c, h => by
    rw [World.setCells, setCells_ne r _ _ _ h, setCell_ne h]
theorem setCells_out {b : Nat} : ∀ (vs : List Value) (off : Nat) (w : World), (w.setCells b off vs).os = w.os ∧ (w.setCells b off vs).output = w.output
  | [], _, _ => ⟨rfl, rfl⟩
  | v :: r, off, w => by rw [World.setCells]; exact setCells_out r _ _
section
variable {P : Program} {n : Nat} {M : List (Nat × Value)} {L : List Chunk} {K : List (Nat × Value) → List Chunk → Prop}
variable {d : Nat} {ty : TypeId} {ps : String} {af : Array Edge} {g : Option (Nat × Bool)} {x y : Operand} {v : Value}
theorem bytesRow_eq {s : ByteArray} {cap : Nat} : bytesRow s cap = (bsv s.data.toList ++ List.replicate (cap - s.size) (Value.int .u8 0)).toArray := by
  apply Array.ext'
  simp [bytesRow, bsv]
theorem OW_convBytes {s t e by_ : Nat} [hs : ST P s] [ht : SL P t e 1 by_] [he : IK P e .u8] {str : ByteArray} (hx : ev M x = some (.string str)) (hm : str.size ≤ maxLen) (hn : Nat.blt d n = true)
    (h : ∀ v C, OwF e 1 v str.size (bsv str.data.toList) C → K ((d, v) :: M) (C :: L)) : OW P n ⟨some d, .convert s t x, ty, ps, af, g⟩ K M L := ⟨fun a w next Q ha hw hk => by
  have hr := run_bytes_of_string (P := P) w s t e str hs.out (slcOf_und ht.out) he.out
  have hrun : (execOp a.eval ⟨some d, .convert s t x, ty, ps, af, g⟩).run P w = .ok (.value (.slice (some ⟨w.heap.size, 0, none⟩) str.size (grownCap w str.size 0 e)))
      (w.drew.alloc (.cells (bytesRow str (grownCap w str.size 0 e)) e ((bytesRow str (grownCap w str.size 0 e)).size, (bytesRow str (grownCap w str.size 0 e)).size + 1))) := by
    simp only [execOp, Sem.run_bind, ha.eval hx, hr, Result.andThen_ok, Sem.run_pure]
  unfold Oper.wp
  rw [hrun, Oper.upon_value]
  have hH := (hw.same (w' := w.drew) rfl rfl rfl).alloc (.cells (bytesRow str (grownCap w str.size 0 e)) e ((bytesRow str (grownCap w str.size 0 e)).size, (bytesRow str (grownCap w str.size 0 e)).size + 1))
  rw [bytesRow_eq] at hH ⊢
  have hge := grownCap_ge w str.size 0 e
  refine (hk _ _ (h _ _ ⟨w.heap.size, grownCap w str.size 0 e, List.replicate (grownCap w str.size 0 e - str.size) (Value.int .u8 0), (_, _), rfl, rfl, ?_, by simp, hge, grownCap_le_maxLen w str.size 0 e hm, ?_⟩)).out _ _ (ha.put _ hn) hH
  · rw [bsv_length, Nat.mul_one]; rfl
  · simp only [List.size_toArray]
    exact FrOk.behind _⟩
theorem OW_appendF {t e k by_ : Nat} [hs : SL P t e k by_] {z : Value} [hz : ZV P e z] {v r : Value} {m c : Nat} {xs ys : List Value} {C : Chunk} {A B : List Chunk} (hx : ev M x = some v) (hy : ev M y = some r) (hown : OwF e k v m xs C)
    (hsl : Sl L k r c ys) (hzip : Zip C L A B) (hzk : z.cells.size = k) (h1 : ones ys = true) (hb : (m + c) * by_ ≤ 140737488355328) (h63 : m + c ≤ maxLen)
    (hn : Nat.blt d n = true) (h : ∀ v' C', OwF e k v' (m + c) (xs ++ ys) C' → K ((d, v') :: M) (A ++ C' :: B)) :
    OW P n ⟨some d, .call ⟨.builtin .append, #[x, y], #[t, t]⟩, ty, ps, af, g⟩ K M L := ⟨fun a w next Q ha hw0 hk => by
  have hL := hzip.eq
  subst hL
  have hw := hw0.perm List.perm_middle
  replace hsl := hsl.perm (List.perm_middle (a := C) (l₁ := A) (l₂ := B))
  obtain ⟨ht, i, hi, hik, hib, hk0⟩ := hs.parts
  have hzz : i.zero = some z := by have := hz.out; rw [hi] at this; simpa using this
  subst hik hib
  have hsmall : m + c ≤ 9223372036854775807 := by simpa [maxLen] using h63
  obtain ⟨b, cap, rest, fr, rfl, rfl, hxl, hrl, hmc, hcm, hfr⟩ := hown
  have main : ∃ v' C' w', (Builtin.append_ #[t, t] ty #[.slice (some ⟨b, 0, none⟩) m cap, r]).run P w = .ok v' w' ∧ OwF e i.size v' (m + c) (xs ++ ys) C' ∧ Holds w' (C' :: (A ++ B)) := by
    have hfnd : w.heap[b]? = some (.cells (xs ++ rest).toArray e fr) := (Fnd.here : Fnd ([(b, .cells (xs ++ rest).toArray e fr)] :: (A ++ B)) b _).get hw
    rcases hsl with ⟨c', rfl, rfl, rfl⟩ | ⟨a', c', rfl, hrd, hyl⟩
    · refine ⟨.slice (some ⟨b, 0, none⟩) m cap, _, w, ?_, ⟨b, cap, rest, fr, by simp, rfl, by simpa using hxl, by simpa using hrl, by simpa using hmc, hcm, by simpa using hfr⟩, by simpa using hw⟩
      simp [Builtin.append_, run_underlying ht, sizeOf, typeInfo, hi, Builtin.lenOf, Builtin.firstCells, hmc, storeCells]
    · by_cases hroom : m + c ≤ cap
      · have hlen : m * i.size + ys.length ≤ (xs ++ rest).length := by
          simp only [List.length_append, hxl, hrl, hyl, ← Nat.add_mul]
          exact Nat.mul_le_mul_right _ (by omega)
        have hr := run_append_room_cells (P := P) (w := w) t ty e i ht hi b 0 m cap a' c c' ys hyl (hrd.cells hw) (ones_mem h1) hroom
          (fun j hj => by rw [cell_of hfnd]; simp; simp at hlen; omega)
          (fun j hj => by
            have := hfr (0 + m * i.size + j) (by omega)
            simp only [World.frozen?, hfnd]
            cases hd : (decide (fr.1 ≤ 0 + m * i.size + j) && decide (0 + m * i.size + j < fr.2)) with
            | false => rfl
            | true => simp at hd; exact absurd (by simpa using hd) this)
        rw [Nat.zero_add] at hr
        have hx1 : patch (xs ++ rest).toArray.toList (m * i.size) ys = (xs ++ ys) ++ rest.drop ys.length := by
          simp only [List.toList_toArray, patch]
          rw [← hxl, List.take_left]
          congr 1
          rw [List.drop_append]
          simp
        have hat := setCells_at (T := e) (fr := fr) ys (m * i.size) _ w hfnd (by simpa using hlen)
        rw [hx1] at hat
        refine ⟨_, [(b, .cells ((xs ++ ys) ++ rest.drop ys.length).toArray e fr)], _, hr, ⟨b, cap, rest.drop ys.length, fr, rfl, rfl, ?_, ?_, hroom, hcm, ?_⟩, ?_⟩
        · rw [List.length_append, hxl, hyl, Nat.add_mul]
        · rw [List.length_drop, hrl, hyl, ← Nat.sub_mul]; congr 1; omega
        · intro j hj
          refine hfr j ?_
          simp at hj hlen ⊢
          omega
        · exact hw.upd .here hat (fun q hq => setCells_ne _ _ _ _ hq) (setCells_out _ _ _).1 (setCells_out _ _ _).2
      · have hrd0 : RdAt ([(b, .cells (xs ++ rest).toArray e fr)] :: (A ++ B)) ⟨b, 0, none⟩ xs := .inr ⟨b, 0, _, _, _, rfl, .here, fun j u hj => by rw [Nat.zero_add]; simpa using getE_app hj⟩
        have hr := run_append_grow (P := P) w t ty e i z ht hi hzz ⟨b, 0, none⟩ m cap xs hxl (hrd0.cells hw) a' c c' ys hyl (hrd.cells hw) (by omega) (by omega) (growslice_fits (by omega) hb)
        refine ⟨_, [(w.heap.size, .cells ((xs ++ ys) ++ (Builtin.zeroCells z.cells (grownCap w (m + c) cap e - (m + c))).toList).toArray e (0, 0))], _, hr, ⟨w.heap.size, _, _, (0, 0), rfl, rfl, ?_, ?_, grownCap_ge w (m + c) cap e, grownCap_le_maxLen w (m + c) cap e h63, FrOk.zero _⟩, ?_⟩
        · rw [List.length_append, hxl, hyl, Nat.add_mul]
        · simp [size_zeroCells, hzk]
        · have h0 := (hw.drop.same (w' := w.drew) rfl rfl rfl).alloc (.cells (xs.toArray ++ ys.toArray ++ Builtin.zeroCells z.cells (grownCap w (m + c) cap e - (m + c))) e)
          have e1 : (xs ++ ys ++ (Builtin.zeroCells z.cells (grownCap w (m + c) cap e - (m + c))).toList).toArray = xs.toArray ++ ys.toArray ++ Builtin.zeroCells z.cells (grownCap w (m + c) cap e - (m + c)) := by
            apply Array.ext'; simp
          rw [e1]; exact h0
  obtain ⟨v', C', w', hr, ho, hw'⟩ := main
  unfold Oper.wp
  have hrun : (execOp a.eval ⟨some d, .call ⟨.builtin .append, #[x, y], #[t, t]⟩, ty, ps, af, g⟩).run P w = .ok (.value v') w' := by
    simp only [execOp, resolve, invoke, builtin, Sem.run_bind, Sem.run_pure, Result.andThen_ok, List.map_toArray, List.map_cons, List.map_nil, ha.eval hx, ha.eval hy, hr]
  rw [hrun, Oper.upon_value]
  exact (hk _ _ (h v' C' ho)).out _ _ (ha.put v' hn) (hw'.perm List.perm_middle.symm)⟩
end
end Go.Vx
namespace Go.Proofs.YtlomjmdgcpjepaaDoor
open Go Go.Vx
variable [W0]
set_option maxRecDepth 4000
set_option linter.all false
omit [W0] in
/-- A text as the model has it. -/
def str (t : List UInt8) : ByteArray := ⟨t.toArray⟩
theorem str_size (t : List UInt8) : (str t).size = t.length := rfl
theorem str_get {t : List UInt8} {k : Nat} (h : k < t.length) : (str t)[k]? = some (t.getD k 0) := by
  show (str t).data[k]? = _
  simp [str, List.getD, h]
theorem str_data (t : List UInt8) : (str t).data.toList = t := rfl
theorem sl_word {L : List Chunk} {v : Value} {m k : Nat} {ws : List (BitVec 32)} (h : Sl L 1 v m (wsv ws)) (hk : k < m) :
    ∃ bb off cap c T fr, v = .slice (some ⟨bb, off, none⟩) m cap ∧ Fnd L bb (.cells c T fr) ∧ c[off + k * 1]? = some (w32 (ws.getD k 0)) := by
  rcases h with ⟨c, rfl, rfl, h0⟩ | ⟨a, cap, rfl, hr, hl⟩
  · omega
  · have hlt : k < ws.length := by rw [wsv_length] at hl; omega
    have hg : (wsv ws)[k]? = some (w32 (ws.getD k 0)) := wsv_get (by simp [List.getD, hlt])
    rcases hr with h0 | ⟨b, off, c, T, fr, rfl, h1, h2⟩
    · rw [h0] at hg; simp at hg
    · exact ⟨b, off, cap, c, T, fr, rfl, h1, by rw [Nat.mul_one]; exact h2 _ _ hg⟩
set_option maxHeartbeats 1000000 in
theorem words_n (ws : List (BitVec 32)) (v : Value) (L : List Chunk) (hlen : ws.length ≤ 1000) (hv : SlC L 1 v ws.length (wsv ws)) :
    Gv Tryd.prog 46 [v].toArray L (fun r L' => ∃ C, L' = C :: L ∧ Ow 5 1 r (4 * ws.length) (bsv (wbs ws)) C) := by
  refine Gv.of_body Tryd.func46 rfl rfl ?_
  obtain ⟨a, c, rfl, hmc⟩ := hv.room
  (repeat' first|refine kX ?_|refine kU fun bk=>?_|refine kV fun hc=>?_|refine kZ (fun hc=>?_) fun hc=>?_|fail)
  refine WC_holds' (L' := [] :: L) (fun w h => Holds.nil.2 h) ?_
  refine WC_loop (X := Nat × Value × Chunk) (fun x => [(0, .slice a ws.length c), (3, x.2.1), (4, .int .i64 (x.1 : Int))])
    (fun x => x.2.2 :: L) (fun x => x.1 ≤ ws.length ∧ Ow 5 1 x.2.1 (4 * x.1) (bsv (wbs (ws.take x.1))) x.2.2) (fun x => ws.length - x.1) (0, .slice none 0 0, []) ⟨Nat.zero_le _, .inl ⟨rfl, rfl, rfl, rfl⟩⟩ iS (fun w h => h) ?_
  intro x ⟨hx1, hx2⟩
  obtain ⟨k, s, C⟩ := x
  simp only at hx1 hx2 ⊢
  (repeat' first|refine kX ?_|refine kU fun bk=>?_|refine kV fun hc=>?_|refine kZ (fun hc=>?_) fun hc=>?_|fail)
  · have hlt : k < ws.length := by omega
    obtain ⟨bb, off, cap, cc, bT, bfr, hve, hfn, hcell⟩ := sl_word hv.sl hlt
    injection hve with e1 e2 e3
    subst e1 e3
    clear e2
    obtain ⟨w, hw⟩ : ∃ w, w = ws.getD k 0 := ⟨_, rfl⟩
    rw [← hw] at hcell
    refine WC_drawAll [25, 26] mixed ?_
    (refine WR_w 0 ?_; refine WR_w 1 ?_; refine WR_w 2 ?_; refine WR_w 3 ?_)
    (refine WR_take 4 rfl rfl (by kernel_rfl) iP iC (EV_load rfl hfn.there hcell) (by rfl) ?_)
    (refine WR_w 5 ?_; refine WR_w 6 ?_; refine WR_w 7 ?_; refine WR_w 8 ?_; refine WR_w 9 ?_)
    (refine WR_take 10 rfl rfl (by kernel_rfl) iP iC (EV_load rfl hfn.there hcell) (by rfl) ?_)
    (refine WR_w 11 ?_; refine WR_w 12 ?_; refine WR_w 13 ?_; refine WR_w 14 ?_; refine WR_w 15 ?_)
    (refine WR_take 16 rfl rfl (by kernel_rfl) iP iC (EV_load rfl hfn.there hcell) (by rfl) ?_)
    (refine WR_w 17 ?_; refine WR_w 18 ?_; refine WR_w 19 ?_; refine WR_w 20 ?_; refine WR_w 21 ?_)
    (refine WR_take 22 rfl rfl (by kernel_rfl) iP iC (EV_load rfl hfn.there hcell) (by rfl) ?_)
    (refine WR_w 23 ?_)
    (refine WR_one 24 (by kernel_rfl) rfl rfl ?_)
    refine OW_buildSlice (cs := bsv (wb w)) rfl (by rfl) (by simp [fillL, patch, Value.cells, zeros]; rfl) (by omega) rfl rfl (fun bk => ?_)
    refine ⟨iC, ?_⟩
    (refine WR_last 25 (by kernel_rfl) rfl rfl rfl ?_)
    refine OW_append rfl rfl hx2 (sl_cells (c := (bsv (wb w)).toArray) (xs := bsv (wb w)) (m := 4) Fnd.here rfl (by simp)) (by repeat (first | exact Zip.here _ | apply Zip.there)) (by rfl) bsv_ones (by omega) (by simp [maxLen]; omega) rfl (fun v' C' ho1 h1 h2 => ?_)
    (refine WR_last 26 (by kernel_rfl) rfl rfl rfl ?_)
    refine OW_W ?_
    (refine WR_done (by kernel_rfl) ?_)
    (repeat' first|refine kX ?_|refine kU fun bk=>?_|refine kV fun hc=>?_|refine kZ (fun hc=>?_) fun hc=>?_|fail)
    have e : wbs (ws.take (k + 1)) = wbs (ws.take k) ++ wb w := by
      rw [take_succ 0 hlt, wbs_append, ← hw]; simp [wbs]
    rw [← bsv_append, ← e] at ho1
    refine WQ_round (X := Nat × Value × Chunk) (μ := fun x => ws.length - x.1) (x := (k, s, C)) (k + 1, v', C') (by simp only; omega) ⟨by simp only; omega, ho1⟩ iS (fun w h => iH h)
  · have hk : k = ws.length := by omega
    subst hk
    rw [List.take_length] at hx2
    refine kR ?_
    exact ⟨C :: L, iC, C, rfl, hx2⟩
end Go.Proofs.YtlomjmdgcpjepaaDoor
namespace Go.Proofs.YtlomjmdgcpjepaaDoor
open Go Go.Vx
variable [W0]
set_option maxRecDepth 4000
set_option linter.all false
theorem owf_slc {e k m : Nat} {v : Value} {xs : List Value} {C : Chunk} (h : OwF e k v m xs C) : ∃ b c, v = .slice (some ⟨b, 0, none⟩) m c := by
  obtain ⟨b, cap, rest, fr, rfl, _⟩ := h
  exact ⟨_, _, rfl⟩
theorem blk_get {m : List UInt8} {k j : Nat} (hj : j < 64) : ((m.drop (64 * k)).take 64).getD j 0 = m.getD (64 * k + j) 0 := by
  simp only [List.getD, List.getElem?_take, hj, if_true, List.getElem?_drop]
omit [W0] in
def hcs (h : H5) : List Value := [w32 h.a, w32 h.b, w32 h.c, w32 h.d, w32 h.e]
theorem kind_eq (k : Nat) (a b c d e w : BitVec 32) (f : BitVec 32) (q : BitVec 32) (h : kindF k b c d = f + q) : rol a 5 + f + e + q + w = rol a 5 + kindF k b c d + e + w := by
  rw [h]
  ac_rfl
set_option maxHeartbeats 4000000 in
theorem refsha_n (t : List UInt8) (L : List Chunk) (hlen : t.length ≤ 140737488351232) :
    Gv Tryd.prog 28 [.string (str t)].toArray L (fun r L' => ∃ C, L' = C :: L ∧ Ow 5 1 r 20 (bsv (shaN t)) C) := by
  refine Gv.of_body Tryd.func28 rfl rfl ?_
  have hsz : (str t).size = t.length := rfl
  (repeat' first|refine kX ?_|refine kU fun bk=>?_|refine kV fun hc=>?_|refine kZ (fun hc=>?_) fun hc=>?_|fail)
  rw [hsz]
  refine OW_EV (EV_ari rfl rfl rfl) rfl ?_
  rw [wrap_u64 (by omega) (by omega)]
  obtain ⟨n, hn⟩ : ∃ n, n = t.length := ⟨_, rfl⟩
  obtain ⟨z, hz⟩ : ∃ z, z = (119 - n % 64) % 64 := ⟨_, rfl⟩
  rw [← hn] at hlen hsz ⊢
  (repeat' first|refine kX ?_|refine kU fun bk=>?_|refine kV fun hc=>?_|refine kZ (fun hc=>?_) fun hc=>?_|fail)
  refine OW_convBytes rfl (by rw [hsz]; simp [maxLen]; omega) rfl (fun v0 C0 ho0 => ?_)
  rw [str_data, hsz] at ho0
  (repeat' first|refine kX ?_|refine kU fun bk=>?_|refine kV fun hc=>?_|refine kZ (fun hc=>?_) fun hc=>?_|fail)
  refine OW_buildSlice (cs := bsv [128]) rfl (by rfl) (by simp [fillL, patch, Value.cells, zeros]; rfl) (by omega) rfl rfl (fun bk => ?_)
  (repeat' first|refine kX ?_|refine kU fun bk=>?_|refine kV fun hc=>?_|refine kZ (fun hc=>?_) fun hc=>?_|fail)
  refine OW_appendF rfl rfl ho0 (sl_cells (c := (bsv [128]).toArray) (xs := bsv [128]) (m := 1) Fnd.here rfl (by simp)) (by repeat (first | exact Zip.here _ | apply Zip.there)) (by rfl) bsv_ones (by omega) (by simp [maxLen]; omega) rfl (fun v1 C1 ho1 => ?_)
  rw [← bsv_append] at ho1
  (repeat' first|refine kX ?_|refine kU fun bk=>?_|refine kV fun hc=>?_|refine kZ (fun hc=>?_) fun hc=>?_|fail)
  refine WC_loop (X := Nat × Value × Chunk) (fun x => [(0, .string (str t)), (3, .int .u64 ((n : Int) * 8)), (4, x.2.1)])
    (fun x => x.2.2 :: L) (fun x => x.1 ≤ z ∧ OwF 5 1 x.2.1 (n + 1 + x.1) (bsv (t ++ [128] ++ List.replicate x.1 0)) x.2.2) (fun x => z - x.1) (0, v1, C1) ⟨Nat.zero_le _, by simpa using ho1⟩ iS (fun w h => iH h) ?_
  clear ho1 ho0
  intro x ⟨hx1, hx2⟩
  obtain ⟨j, v, C⟩ := x
  simp only at hx1 hx2 ⊢
  obtain ⟨bb, cap, rfl⟩ := owf_slc hx2
  (repeat' first|refine kX ?_|refine kU fun bk=>?_|refine kV fun hc=>?_|refine kZ (fun hc=>?_) fun hc=>?_|fail)
  refine OW_EV (EV_rem rfl rfl (by decide)) rfl ?_
  rw [show ((n + 1 + j : Nat) : Int).tmod 64 = (((n + 1 + j) % 64 : Nat) : Int) from by rw [Int.tmod_eq_emod_of_nonneg (by omega)]; omega]
  (repeat' first|refine kX ?_|refine kU fun bk=>?_|refine kV fun hc=>?_|refine kZ (fun hc=>?_) fun hc=>?_|fail)
  · have hj : j < z := by omega
    refine OW_buildSlice (cs := bsv [0]) rfl (by rfl) (by simp [fillL, patch, Value.cells, zeros]; rfl) (by omega) rfl rfl (fun bk => ?_)
    (repeat' first|refine kX ?_|refine kU fun bk=>?_|refine kV fun hc=>?_|refine kZ (fun hc=>?_) fun hc=>?_|fail)
    refine OW_appendF rfl rfl hx2 (sl_cells (c := (bsv [0]).toArray) (xs := bsv [0]) (m := 1) Fnd.here rfl (by simp)) (by repeat (first | exact Zip.here _ | apply Zip.there)) (by rfl) bsv_ones (by omega) (by simp [maxLen]; omega) rfl (fun v1 C1 ho1 => ?_)
    rw [← bsv_append, List.append_assoc, ← List.replicate_succ' (n := j)] at ho1
    (repeat' first|refine kX ?_|refine kU fun bk=>?_|refine kV fun hc=>?_|refine kZ (fun hc=>?_) fun hc=>?_|fail)
    refine WQ_round (X := Nat × Value × Chunk) (μ := fun x => z - x.1) (x := (j, .slice (some ⟨bb, 0, none⟩) (n + 1 + j) cap, C)) (j + 1, v1, C1) (by simp only; omega) ⟨by simp only; omega, ho1⟩ iS (fun w h => iH h)
  · have hj : j = z := by omega
    subst hj
    have e2 : BitVec.ofInt 32 ((n : Int) * 8 / 4294967296) = hiW n := by
      apply BitVec.eq_of_toNat_eq
      rw [BitVec.toNat_ofInt, hiW, BitVec.toNat_ofNat]
      omega
    have e3 : BitVec.ofInt 32 ((n : Int) * 8) = loW n := by
      apply BitVec.eq_of_toNat_eq
      rw [BitVec.toNat_ofInt, loW, BitVec.toNat_ofNat]
      omega
    rw [e2, e3]
    refine OW_buildSlice (cs := wsv [hiW n, loW n]) rfl (by rfl) (by simp [fillL, patch, Value.cells, zeros]; rfl) (by omega) rfl rfl (fun bk2 => ?_)
    (repeat' first|refine kX ?_|refine kU fun bk=>?_|refine kV fun hc=>?_|refine kZ (fun hc=>?_) fun hc=>?_|fail)
    refine OW_call rfl rfl rfl (words_n [hiW n, loW n] _ _ (by simp) ⟨sl_cells (c := (wsv [hiW n, loW n]).toArray) (m := 2) Fnd.here rfl (by simp), _, _, rfl, Nat.le_refl _⟩) rfl (fun r L' hp => ?_)
    obtain ⟨C2, rfl, ho2⟩ := hp
    (repeat' first|refine kX ?_|refine kU fun bk=>?_|refine kV fun hc=>?_|refine kZ (fun hc=>?_) fun hc=>?_|fail)
    refine OW_appendF rfl rfl hx2 (ow_sl ho2) (by repeat (first | exact Zip.here _ | apply Zip.there)) (by rfl) bsv_ones (by simp; omega) (by simp [maxLen]; omega) rfl (fun vb Cb hob => ?_)
    have hm : t ++ [128] ++ List.replicate j 0 ++ wbs [hiW n, loW n] = t ++ padOf t.length := by
      rw [← hn]
      simp [padOf, wbs, ← hz]
    rw [← bsv_append, hm] at hob
    have hpl := padOf_length n
    have hml : (t ++ padOf t.length).length = n + 1 + j + 4 * [hiW n, loW n].length := by rw [← hn]; simp [hpl]; omega
    rw [← hml] at hob
    have hsh : shaN t = wbs (hbs (chainN (t ++ padOf t.length) ((t ++ padOf t.length).length / 64))) := rfl
    rw [hsh]
    have hm64 : (t ++ padOf t.length).length % 64 = 0 := by rw [hml]; simp; omega
    have hmb : (t ++ padOf t.length).length ≤ 140737488355328 := by rw [hml]; simp; omega
    generalize t ++ padOf t.length = m at hob hm64 hmb ⊢
    clear hm hml hsh hpl e2 e3 hc hx1 hx2 hz hn hlen hsz ho2
    obtain ⟨bb, cap, rest, fr, rfl, rfl, hxl, hrl, hmc, hcm, hfr⟩ := hob
    (repeat' first|refine kX ?_|refine kU fun bk=>?_|refine kV fun hc=>?_|refine kZ (fun hc=>?_) fun hc=>?_|fail)
    refine OW_buildSlice (cs := hcs h50) rfl (by rfl) (by simp [fillL, patch, Value.cells, zeros]; rfl) (by omega) rfl rfl (fun bh => ?_)
    (repeat' first|refine kX ?_|refine kU fun bk=>?_|refine kV fun hc=>?_|refine kZ (fun hc=>?_) fun hc=>?_|fail)
    refine OW_makeSlice (m := 80) (c := 80) rfl rfl (by rfl) (by omega) (by omega) (by omega) rfl (fun bw => ?_)
    (repeat' first|refine kX ?_|refine kU fun bk=>?_|refine kV fun hc=>?_|refine kZ (fun hc=>?_) fun hc=>?_|fail)
    have hbyte : ∀ i, i < m.length → ((bsv m ++ rest).toArray)[i * 1]? = some (.int .u8 ((m.getD i 0).toNat : Int)) := fun i hi => by
      rw [Nat.mul_one, List.getElem?_toArray, List.getElem?_append_left (by simpa [bsv_length] using hi)]
      exact bsv_get (by simp [List.getD, hi])
    refine WC_loop (X := Nat × List Value × Nat) (fun x => [(4, .slice (some ⟨bb, 0, none⟩) m.length cap), (5, .slice (some ⟨x.2.2, 0, none⟩) 5 5), (6, .slice (some ⟨bw, 0, none⟩) 80 80), (7, .int .i64 ((64 * x.1 : Nat) : Int))])
      (fun x => [(x.2.2, cl (hcs (chainN m x.1)) 76)] :: [(bw, cl x.2.1 76)] :: [(bb, .cells (bsv m ++ rest).toArray 5 fr)] :: L)
      (fun x => 64 * x.1 ≤ m.length ∧ x.2.1.length = 80) (fun x => m.length - 64 * x.1) (0, zeros [.int .u32 0] 80, bh) ⟨Nat.zero_le _, by simp [zeros_length]⟩ iS (fun w h => iH h) ?_
    intro x ⟨hx1, hx2⟩
    obtain ⟨k, wl, bh⟩ := x
    simp only at hx1 hx2 ⊢
    (repeat' first|refine kX ?_|refine kU fun bk=>?_|refine kV fun hc=>?_|refine kZ (fun hc=>?_) fun hc=>?_|fail)
    · have hk : 64 * k + 64 ≤ m.length := by omega
      obtain ⟨blk, hblk⟩ : ∃ blk, blk = (m.drop (64 * k)).take 64 := ⟨_, rfl⟩
      have hbg : ∀ j, j < 64 → m.getD (64 * k + j) 0 = blk.getD j 0 := fun j hj => by rw [hblk, blk_get hj]
      refine WC_loop (X := Nat × List Value) (fun x => [(4, .slice (some ⟨bb, 0, none⟩) m.length cap), (5, .slice (some ⟨bh, 0, none⟩) 5 5), (6, .slice (some ⟨bw, 0, none⟩) 80 80), (7, .int .i64 ((64 * k : Nat) : Int)), (8, .int .i64 (x.1 : Int))])
        (fun x => [(bh, cl (hcs (chainN m k)) 76)] :: [(bw, cl (wsv (sched blk x.1) ++ x.2) 76)] :: [(bb, .cells (bsv m ++ rest).toArray 5 fr)] :: L)
        (fun x => x.1 ≤ 80 ∧ x.2.length = 80 - x.1) (fun x => 80 - x.1) (0, wl) ⟨by simp only; omega, hx2⟩ iS (fun w h => h) ?_
      intro y ⟨hy1, hy2⟩
      clear hx2 wl hc
      obtain ⟨t, wr⟩ := y
      simp only at hy1 hy2 ⊢
      (repeat' first|refine kX ?_|refine kU fun bk=>?_|refine kV fun hc=>?_|refine kZ (fun hc=>?_) fun hc=>?_|fail)
      · have hfB : Fnd ([(bh, cl (hcs (chainN m k)) 76)] :: [(bw, cl (wsv (sched blk t) ++ wr) 76)] :: [(bb, .cells (bsv m ++ rest).toArray 5 fr)] :: L) bb (.cells (bsv m ++ rest).toArray 5 fr) := Fnd.there (Fnd.there Fnd.here)
        have hb2 : ∀ j, j < 64 → ((bsv m ++ rest).toArray)[(64 * k + j) * 1]? = some (.int .u8 ((blk.getD j 0).toNat : Int)) := fun j hj => by
          rw [← hbg j hj]; exact hbyte _ (by omega)
        refine WC_drawAll [32] mixed ?_
        (refine WR_w 0 ?_; refine WR_w 1 ?_; refine WR_w 2 ?_; refine WR_w 3 ?_)
        (refine WR_take 4 rfl rfl (by kernel_rfl) iP iC (EV_indexAddr0 (j := 64 * k + (4 * t)) rfl rfl (by omega) (by omega)) (by rfl) ?_)
        (refine WR_take 5 rfl rfl (by kernel_rfl) iP iC (EV_load rfl hfB (hb2 (4 * t) (by omega))) (by rfl) ?_)
        (refine WR_w 6 ?_; refine WR_w 7 ?_; refine WR_w 8 ?_; refine WR_w 9 ?_; refine WR_w 10 ?_)
        (refine WR_take 11 rfl rfl (by kernel_rfl) iP iC (EV_indexAddr0 (j := 64 * k + (4 * t + 1)) rfl rfl (by omega) (by omega)) (by rfl) ?_)
        (refine WR_take 12 rfl rfl (by kernel_rfl) iP iC (EV_load rfl hfB (hb2 (4 * t + 1) (by omega))) (by rfl) ?_)
        (refine WR_w 13 ?_; refine WR_w 14 ?_; refine WR_w 15 ?_; refine WR_w 16 ?_; refine WR_w 17 ?_; refine WR_w 18 ?_)
        (refine WR_take 19 rfl rfl (by kernel_rfl) iP iC (EV_indexAddr0 (j := 64 * k + (4 * t + 2)) rfl rfl (by omega) (by omega)) (by rfl) ?_)
        (refine WR_take 20 rfl rfl (by kernel_rfl) iP iC (EV_load rfl hfB (hb2 (4 * t + 2) (by omega))) (by rfl) ?_)
        (refine WR_w 21 ?_; refine WR_w 22 ?_; refine WR_w 23 ?_; refine WR_w 24 ?_; refine WR_w 25 ?_; refine WR_w 26 ?_)
        (refine WR_take 27 rfl rfl (by kernel_rfl) iP iC (EV_indexAddr0 (j := 64 * k + (4 * t + 3)) rfl rfl (by omega) (by omega)) (by rfl) ?_)
        (refine WR_take 28 rfl rfl (by kernel_rfl) iP iC (EV_load rfl hfB (hb2 (4 * t + 3) (by omega))) (by rfl) ?_)
        (refine WR_w 29 ?_; refine WR_w 30 ?_; refine WR_w 31 ?_)
        (refine WR_last 32 (by kernel_rfl) rfl rfl rfl ?_)
        refine OW_storeTo (wsv (sched blk (t + 1)) ++ wr.tail) rfl rfl rfl ?_ iU (by simp [wsv_length, sched_length]; omega) ?_
        · rw [Nat.mul_one]
          have := wsv_put (sched blk t) (schedNext blk (sched blk t)) wr t (sched_length blk t).symm (by omega)
          rw [sched_lo (by omega)] at this
          rw [sched, sched_lo (by omega)]
          exact this
        (refine WR_done (by kernel_rfl) ?_)
        (repeat' first|refine kX ?_|refine kU fun bk=>?_|refine kV fun hc=>?_|refine kZ (fun hc=>?_) fun hc=>?_|fail)
        refine WQ_round (X := Nat × List Value) (μ := fun x => 80 - x.1) (x := (t, wr)) (t + 1, wr.tail) (by simp only; omega) ⟨by simp only; omega, by simp; omega⟩ iS (fun w h => h)
      · have ld : ∀ j, 0 < j → j ≤ t → nth (wsv (sched blk t) ++ wr) ((t - j) * 1) = some (w32 ((sched blk t).getD (t - j) 0)) := fun j h0 hj => by
          rw [nth_eq, Nat.mul_one]
          exact wsv_app_get _ _ (by rw [sched_length]; omega)
        refine WC_drawAll [27] mixed ?_
        (refine WR_w 0 ?_; refine WR_w 1 ?_; refine WR_w 2 ?_; refine WR_w 3 ?_; refine WR_w 4 ?_)
        (refine WR_take 5 rfl rfl (by kernel_rfl) iP iC (EV_indexAddr0 (j := t - 3) rfl rfl (by omega) (by omega)) (by rfl) ?_)
        (refine WR_take 6 rfl rfl (by kernel_rfl) iP iC (EV_loadc rfl (Fnd.there Fnd.here) (ld 3 (by omega) (by omega))) (by rfl) ?_)
        (refine WR_w 7 ?_; refine WR_w 8 ?_; refine WR_w 9 ?_)
        (refine WR_take 10 rfl rfl (by kernel_rfl) iP iC (EV_indexAddr0 (j := t - 8) rfl rfl (by omega) (by omega)) (by rfl) ?_)
        (refine WR_take 11 rfl rfl (by kernel_rfl) iP iC (EV_loadc rfl (Fnd.there Fnd.here) (ld 8 (by omega) (by omega))) (by rfl) ?_)
        (refine WR_w 12 ?_; refine WR_w 13 ?_; refine WR_w 14 ?_; refine WR_w 15 ?_)
        (refine WR_take 16 rfl rfl (by kernel_rfl) iP iC (EV_indexAddr0 (j := t - 14) rfl rfl (by omega) (by omega)) (by rfl) ?_)
        (refine WR_take 17 rfl rfl (by kernel_rfl) iP iC (EV_loadc rfl (Fnd.there Fnd.here) (ld 14 (by omega) (by omega))) (by rfl) ?_)
        (refine WR_w 18 ?_; refine WR_w 19 ?_; refine WR_w 20 ?_; refine WR_w 21 ?_)
        (refine WR_take 22 rfl rfl (by kernel_rfl) iP iC (EV_indexAddr0 (j := t - 16) rfl rfl (by omega) (by omega)) (by rfl) ?_)
        (refine WR_take 23 rfl rfl (by kernel_rfl) iP iC (EV_loadc rfl (Fnd.there Fnd.here) (ld 16 (by omega) (by omega))) (by rfl) ?_)
        (refine WR_w 24 ?_)
        (refine WR_one 25 (by kernel_rfl) rfl rfl ?_)
        refine OW_callP rfl rfl rfl (rol_n _ 1 _ (by omega)) rfl ?_
        refine ⟨iC, ?_⟩
        (refine WR_w 26 ?_)
        (refine WR_last 27 (by kernel_rfl) rfl rfl rfl ?_)
        refine OW_storeTo (wsv (sched blk (t + 1)) ++ wr.tail) rfl rfl rfl ?_ iU (by simp [wsv_length, sched_length]; omega) ?_
        · rw [Nat.mul_one]
          have := wsv_put (sched blk t) (schedNext blk (sched blk t)) wr t (sched_length blk t).symm (by omega)
          rw [sched_hi (by omega)] at this
          rw [sched, sched_hi (by omega)]
          exact this
        (refine WR_done (by kernel_rfl) ?_)
        (repeat' first|refine kX ?_|refine kU fun bk=>?_|refine kV fun hc=>?_|refine kZ (fun hc=>?_) fun hc=>?_|fail)
        refine WQ_round (X := Nat × List Value) (μ := fun x => 80 - x.1) (x := (t, wr)) (t + 1, wr.tail) (by simp only; omega) ⟨by simp only; omega, by simp; omega⟩ iS (fun w h => h)
      · have ht : t = 80 := by omega
        subst ht
        have hr : wr = [] := List.eq_nil_of_length_eq_zero (by simpa using hy2)
        subst hr
        rw [List.append_nil]
        have hch : chainN m (k + 1) = add5 (chainN m k) (rounds (sched blk 80) (chainN m k) 80) := by rw [hblk]; rfl
        have hwl : (sched blk 80).length = 80 := sched_length blk 80
        generalize sched blk 80 = ws at hch hwl ⊢
        obtain ⟨H, hH⟩ : ∃ H, H = chainN m k := ⟨_, rfl⟩
        rw [← hH] at hch ⊢
        refine WC_loop (X := Nat × H5) (fun x => [(4, .slice (some ⟨bb, 0, none⟩) m.length cap), (5, .slice (some ⟨bh, 0, none⟩) 5 5), (6, .slice (some ⟨bw, 0, none⟩) 80 80), (7, .int .i64 ((64 * k : Nat) : Int)),
            (10, w32 x.2.a), (11, w32 x.2.b), (12, w32 x.2.c), (13, w32 x.2.d), (14, w32 x.2.e), (15, .int .i64 (x.1 : Int))])
          (fun x => [(bh, cl (hcs H) 76)] :: [(bw, cl (wsv ws) 76)] :: [(bb, .cells (bsv m ++ rest).toArray 5 fr)] :: L)
          (fun x => x.1 ≤ 80 ∧ x.2 = rounds ws H x.1) (fun x => 80 - x.1) (0, H) ⟨by simp only; omega, rfl⟩ iS (fun w h => h) ?_
        intro y ⟨hy3, hy4⟩
        clear hy1 hy2 hc hbg
        obtain ⟨t, r⟩ := y
        simp only at hy3 hy4 ⊢
        have hld : t < 80 → nth (wsv ws) (t * 1) = some (w32 (ws.getD t 0)) := fun h => by
          rw [nth_eq, Nat.mul_one]
          exact wsv_get (by simp [List.getD, show t < ws.length from by omega])
        (repeat' first|refine kX ?_|refine kU fun bk=>?_|refine kV fun hc=>?_|refine kZ (fun hc=>?_) fun hc=>?_|fail)
        · have hk5 : t / 20 = 3 := by omega
          refine WC_drawAll [] mixed ?_
          (refine WR_w 0 ?_; refine WR_w 2 ?_; refine WR_w 4 ?_; refine WR_w 6 ?_; refine WR_w 8 ?_; refine WR_w 9 ?_; refine WR_w 10 ?_)
          refine WR_take 11 rfl rfl (by kernel_rfl) iP iC (EV_loadc rfl (Fnd.there Fnd.here) (hld (by omega))) (by rfl) ?_
          (refine WR_one 1 (by kernel_rfl) rfl rfl ?_)
          refine OW_callP rfl rfl rfl (rol_n _ 5 _ (by omega)) rfl ?_
          refine ⟨iC, ?_⟩
          (refine WR_w 3 ?_; refine WR_w 5 ?_; refine WR_w 7 ?_; refine WR_w 12 ?_; refine WR_w 13 ?_)
          (refine WR_done (by kernel_rfl) ?_)
          (repeat' first|refine kX ?_|refine kU fun bk=>?_|refine kV fun hc=>?_|refine kZ (fun hc=>?_) fun hc=>?_|fail)
          refine OW_callP rfl rfl rfl (rol_n _ 30 _ (by omega)) rfl ?_
          (repeat' first|refine kX ?_|refine kU fun bk=>?_|refine kV fun hc=>?_|refine kZ (fun hc=>?_) fun hc=>?_|fail)
          rw [kind_eq 3 r.a r.b r.c r.d r.e (ws.getD t 0) _ 3395469782#32 rfl]
          refine WQ_round (X := Nat × H5) (μ := fun x => 80 - x.1) (x := (t, r)) (t + 1, rnd 3 r (ws.getD t 0)) (by simp only; omega) ⟨by simp only; omega, by simp only [rounds]; rw [hk5, hy4]⟩ iS (fun w h => h)
        · have hk5 : t / 20 = 2 := by omega
          refine WC_drawAll [] mixed ?_
          (refine WR_w 0 ?_; refine WR_w 2 ?_; refine WR_w 4 ?_; refine WR_w 6 ?_; refine WR_w 8 ?_; refine WR_w 9 ?_; refine WR_w 10 ?_)
          refine WR_take 11 rfl rfl (by kernel_rfl) iP iC (EV_loadc rfl (Fnd.there Fnd.here) (hld (by omega))) (by rfl) ?_
          (refine WR_one 1 (by kernel_rfl) rfl rfl ?_)
          refine OW_callP rfl rfl rfl (rol_n _ 5 _ (by omega)) rfl ?_
          refine ⟨iC, ?_⟩
          (refine WR_w 3 ?_; refine WR_w 5 ?_; refine WR_w 7 ?_; refine WR_w 12 ?_; refine WR_w 13 ?_)
          (refine WR_done (by kernel_rfl) ?_)
          (repeat' first|refine kX ?_|refine kU fun bk=>?_|refine kV fun hc=>?_|refine kZ (fun hc=>?_) fun hc=>?_|fail)
          refine OW_callP rfl rfl rfl (rol_n _ 30 _ (by omega)) rfl ?_
          (repeat' first|refine kX ?_|refine kU fun bk=>?_|refine kV fun hc=>?_|refine kZ (fun hc=>?_) fun hc=>?_|fail)
          rw [kind_eq 2 r.a r.b r.c r.d r.e (ws.getD t 0) _ 2400959708#32 rfl]
          refine WQ_round (X := Nat × H5) (μ := fun x => 80 - x.1) (x := (t, r)) (t + 1, rnd 2 r (ws.getD t 0)) (by simp only; omega) ⟨by simp only; omega, by simp only [rounds]; rw [hk5, hy4]⟩ iS (fun w h => h)
        · have hk5 : t / 20 = 1 := by omega
          refine WC_drawAll [] mixed ?_
          (refine WR_w 0 ?_; refine WR_w 2 ?_; refine WR_w 4 ?_; refine WR_w 6 ?_; refine WR_w 8 ?_; refine WR_w 9 ?_; refine WR_w 10 ?_)
          refine WR_take 11 rfl rfl (by kernel_rfl) iP iC (EV_loadc rfl (Fnd.there Fnd.here) (hld (by omega))) (by rfl) ?_
          (refine WR_one 1 (by kernel_rfl) rfl rfl ?_)
          refine OW_callP rfl rfl rfl (rol_n _ 5 _ (by omega)) rfl ?_
          refine ⟨iC, ?_⟩
          (refine WR_w 3 ?_; refine WR_w 5 ?_; refine WR_w 7 ?_; refine WR_w 12 ?_; refine WR_w 13 ?_)
          (refine WR_done (by kernel_rfl) ?_)
          (repeat' first|refine kX ?_|refine kU fun bk=>?_|refine kV fun hc=>?_|refine kZ (fun hc=>?_) fun hc=>?_|fail)
          refine OW_callP rfl rfl rfl (rol_n _ 30 _ (by omega)) rfl ?_
          (repeat' first|refine kX ?_|refine kU fun bk=>?_|refine kV fun hc=>?_|refine kZ (fun hc=>?_) fun hc=>?_|fail)
          rw [kind_eq 1 r.a r.b r.c r.d r.e (ws.getD t 0) _ 1859775393#32 rfl]
          refine WQ_round (X := Nat × H5) (μ := fun x => 80 - x.1) (x := (t, r)) (t + 1, rnd 1 r (ws.getD t 0)) (by simp only; omega) ⟨by simp only; omega, by simp only [rounds]; rw [hk5, hy4]⟩ iS (fun w h => h)
        · have hk5 : t / 20 = 0 := by omega
          refine WC_drawAll [] mixed ?_
          (refine WR_w 0 ?_; refine WR_w 2 ?_; refine WR_w 4 ?_; refine WR_w 6 ?_; refine WR_w 8 ?_; refine WR_w 9 ?_; refine WR_w 10 ?_)
          refine WR_take 11 rfl rfl (by kernel_rfl) iP iC (EV_loadc rfl (Fnd.there Fnd.here) (hld (by omega))) (by rfl) ?_
          (refine WR_one 1 (by kernel_rfl) rfl rfl ?_)
          refine OW_callP rfl rfl rfl (rol_n _ 5 _ (by omega)) rfl ?_
          refine ⟨iC, ?_⟩
          (refine WR_w 3 ?_; refine WR_w 5 ?_; refine WR_w 7 ?_; refine WR_w 12 ?_; refine WR_w 13 ?_)
          (refine WR_done (by kernel_rfl) ?_)
          (repeat' first|refine kX ?_|refine kU fun bk=>?_|refine kV fun hc=>?_|refine kZ (fun hc=>?_) fun hc=>?_|fail)
          refine OW_callP rfl rfl rfl (rol_n _ 30 _ (by omega)) rfl ?_
          (repeat' first|refine kX ?_|refine kU fun bk=>?_|refine kV fun hc=>?_|refine kZ (fun hc=>?_) fun hc=>?_|fail)
          rw [kind_eq 0 r.a r.b r.c r.d r.e (ws.getD t 0) _ 1518500249#32 rfl]
          refine WQ_round (X := Nat × H5) (μ := fun x => 80 - x.1) (x := (t, r)) (t + 1, rnd 0 r (ws.getD t 0)) (by simp only; omega) ⟨by simp only; omega, by simp only [rounds]; rw [hk5, hy4]⟩ iS (fun w h => h)
        · have ht : t = 80 := by omega
          subst ht
          rw [← hy4] at hch
          refine WC_drawAll [] mixed ?_
          (refine WR_w 0 ?_; refine WR_w 1 ?_; refine WR_w 2 ?_; refine WR_w 3 ?_; refine WR_w 4 ?_; refine WR_w 5 ?_; refine WR_w 6 ?_; refine WR_w 7 ?_; refine WR_w 8 ?_; refine WR_w 9 ?_; refine WR_w 10 ?_; refine WR_w 11 ?_; refine WR_w 12 ?_; refine WR_w 13 ?_; refine WR_w 14 ?_; refine WR_w 15 ?_; refine WR_w 16 ?_; refine WR_w 17 ?_; refine WR_w 18 ?_; refine WR_w 19 ?_; refine WR_w 20 ?_; refine WR_w 21 ?_; refine WR_w 22 ?_; refine WR_w 23 ?_; refine WR_w 24 ?_)
          (refine WR_one 25 (by kernel_rfl) rfl rfl ?_)
          refine OW_buildSlice (cs := hcs (add5 H r)) rfl (by rfl) (by simp [fillL, patch, Value.cells, zeros]; rfl) (by omega) rfl rfl (fun bh2 => ?_)
          refine ⟨iC, ?_⟩
          (refine WR_w 26 ?_)
          (refine WR_done (by kernel_rfl) ?_)
          (repeat' first|refine kX ?_|refine kU fun bk=>?_|refine kV fun hc=>?_|refine kZ (fun hc=>?_) fun hc=>?_|fail)
          refine WQ_round (X := Nat × List Value × Nat) (μ := fun x => m.length - 64 * x.1) (x := (k, wsv ws, bh)) (k + 1, wsv ws, bh2) (by simp only; omega) ⟨by simp only; omega, by rw [wsv_length]; exact hwl⟩ iS (fun w h => by simp only; rw [hch]; exact iH h)
    · have hk : k = m.length / 64 := by omega
      rw [← hk]
      refine OW_call rfl rfl rfl (words_n (hbs (chainN m k)) _ _ (by show 5 ≤ 1000; omega) ⟨sl_cells (c := (hcs (chainN m k)).toArray) (m := 5) Fnd.here rfl (by show (hcs (chainN m k)).take 5 = hcs (chainN m k); rfl), _, _, rfl, Nat.le_refl _⟩) rfl (fun r L' hp => ?_)
      obtain ⟨C2, rfl, ho2⟩ := hp
      (repeat' first|refine kX ?_|refine kU fun bk=>?_|refine kV fun hc=>?_|refine kZ (fun hc=>?_) fun hc=>?_|fail)
      refine kR ?_
      exact ⟨C2 :: L, iC, C2, rfl, ho2⟩
end Go.Proofs.YtlomjmdgcpjepaaDoor
namespace Go.Proofs.YtlomjmdgcpjepaaDoor
open Go Go.Vx
variable [W0]
set_option maxRecDepth 4000
set_option linter.all false
omit [W0] in
/-- A digit's number; -1: it is none. -/
def dv (d : UInt8) : Int := if 48 ≤ d.toNat ∧ d.toNat ≤ 57 then (d.toNat : Int) - 48 else if 97 ≤ d.toNat ∧ d.toNat ≤ 102 then (d.toNat : Int) - 87 else -1
theorem dv_lt (d : UInt8) : dv d < 16 := by
  unfold dv; split
  · omega
  · split <;> omega
theorem dv_dig {i : Nat} (h : i < 16) : dv (dig i) = (i : Int) := by
  have : ∀ i : Fin 16, dv (dig i.val) = (i.val : Int) := by decide
  exact this ⟨i, h⟩
theorem dv_none (d : UInt8) (h : ∀ j, j < 16 → dig j ≠ d) : dv d = -1 := by
  have : ∀ n : Fin 256, (∀ j : Fin 16, dig j.val ≠ UInt8.ofNat n.val) → dv (UInt8.ofNat n.val) = -1 := by decide +kernel
  have h2 := this ⟨d.toNat, d.toNat_lt⟩
  simp only [UInt8.ofNat_toNat] at h2
  exact h2 fun j => h j.val j.isLt
omit [W0] in
def halfV (d : UInt8) : Value := if 0 ≤ dv d then .tuple #[.int .u8 (dv d), .bool true] else .tuple #[.int .u8 0, .bool false]
theorem half_n (d : UInt8) (L : List Chunk) : GvP Tryd.prog 48 [.int .u8 (d.toNat : Int)].toArray L (halfV d) := by
  refine Gv.of_body Tryd.func48 rfl rfl ?_
  have hd := d.toNat_lt
  (repeat' first|refine kX ?_|refine kU fun bk=>?_|refine kV fun hc=>?_|refine kZ (fun hc=>?_) fun hc=>?_|fail)
  · refine OW_EV (EV_ari rfl rfl rfl) rfl ?_
    have e : dv d = (d.toNat : Int) - 48 := by unfold dv; rw [if_pos (by omega)]
    have h0 : halfV d = .tuple #[.int .u8 ((d.toNat : Int) - 48), .bool true] := by unfold halfV; rw [if_pos (by omega), e]
    rw [wrap_u8, show (((d.toNat : Int) - 48) % 256).toNat = (d.toNat - 48 : Nat) from by omega, h0]
    (repeat' first|refine kX ?_|refine kU fun bk=>?_|refine kV fun hc=>?_|refine kZ (fun hc=>?_) fun hc=>?_|fail)
    refine kR ?_
    refine ⟨L, iC, ?_, rfl⟩
    rw [show ((d.toNat - 48 : Nat) : Int) = (d.toNat : Int) - 48 from by omega]
    rfl
  · refine OW_EV (EV_ari rfl rfl rfl) rfl ?_
    have e : dv d = (d.toNat : Int) - 87 := by unfold dv; rw [if_neg (by omega), if_pos (by omega)]
    have h0 : halfV d = .tuple #[.int .u8 ((d.toNat : Int) - 87), .bool true] := by unfold halfV; rw [if_pos (by omega), e]
    rw [wrap_u8, show (((d.toNat : Int) - 97) % 256).toNat = (d.toNat - 97 : Nat) from by omega, h0]
    (repeat' first|refine kX ?_|refine kU fun bk=>?_|refine kV fun hc=>?_|refine kZ (fun hc=>?_) fun hc=>?_|fail)
    refine OW_EV (EV_ari rfl rfl rfl) rfl ?_
    rw [wrap_u8, show ((((d.toNat - 97 : Nat) : Int) + 10) % 256).toNat = (d.toNat - 87 : Nat) from by omega]
    (repeat' first|refine kX ?_|refine kU fun bk=>?_|refine kV fun hc=>?_|refine kZ (fun hc=>?_) fun hc=>?_|fail)
    refine kR ?_
    refine ⟨L, iC, ?_, rfl⟩
    rw [show ((d.toNat - 87 : Nat) : Int) = (d.toNat : Int) - 87 from by omega]
    rfl
  all_goals
    have e : dv d = -1 := by unfold dv; rw [if_neg (by omega), if_neg (by omega)]
    have h0 : halfV d = .tuple #[.int .u8 0, .bool false] := by unfold halfV; rw [if_neg (by omega)]
    rw [h0]
    refine kR ?_
    exact ⟨L, iC, rfl, rfl⟩
theorem digit_n (d : UInt8) (L : List Chunk) : GvP Tryd.prog 49 [.int .u8 (d.toNat : Int)].toArray L (.int .i64 (dv d)) := by
  refine Gv.of_body Tryd.func49 rfl rfl ?_
  (repeat' first|refine kX ?_|refine kU fun bk=>?_|refine kV fun hc=>?_|refine kZ (fun hc=>?_) fun hc=>?_|fail)
  refine WC_loop (X := Nat) (fun k => [(0, .int .u8 (d.toNat : Int)), (3, .int .i64 (k : Int))]) (fun k => L) (fun k => k ≤ 16 ∧ ∀ j, j < k → dig j ≠ d) (fun k => 16 - k) 0 ⟨Nat.zero_le _, fun j h => by omega⟩ iS (fun w h => h) ?_
  intro k ⟨hk, hall⟩
  (repeat' first|refine kX ?_|refine kU fun bk=>?_|refine kV fun hc=>?_|refine kZ (fun hc=>?_) fun hc=>?_|fail)
  · have hlt : k < 16 := by omega
    refine OW_EV (EV_indexStr (s := digS) (j := k) rfl rfl rfl (dig_get hlt)) rfl ?_
    (repeat' first|refine kX ?_|refine kU fun bk=>?_|refine kV fun hc=>?_|refine kZ (fun hc=>?_) fun hc=>?_|fail)
    · have he : dig k = d := by
        apply UInt8.toNat_inj.1
        omega
      refine kR ?_
      refine ⟨L, iC, ?_, rfl⟩
      rw [← he, dv_dig hlt]
      rfl
    · have hne : dig k ≠ d := fun he => hc (by rw [he])
      refine WQ_round (X := Nat) (J := fun k => k ≤ 16 ∧ ∀ j, j < k → dig j ≠ d) (μ := fun k => 16 - k) (x := k) (k + 1) (by omega) ⟨by omega, fun j hj => ?_⟩ iS (fun w h => h)
      rcases Nat.lt_or_ge j k with h' | h'
      · exact hall j h'
      · rw [show j = k from by omega]; exact hne
  · have hk2 : k = 16 := by omega
    subst hk2
    refine kR ?_
    refine ⟨L, iC, ?_, rfl⟩
    rw [dv_none d hall]
    rfl
end Go.Proofs.YtlomjmdgcpjepaaDoor
namespace Go.Proofs.YtlomjmdgcpjepaaDoor
open Go Go.Vx
variable [W0]
set_option maxRecDepth 4000
set_option linter.all false
omit [W0] in
/-- Two digits, and what they are. -/
def okAt (t : List UInt8) (i : Nat) : Bool := decide (0 ≤ dv (t.getD (2 * i) 0)) && decide (0 ≤ dv (t.getD (2 * i + 1) 0))
omit [W0] in
def byAt (t : List UInt8) (i : Nat) : UInt8 := UInt8.ofNat (16 * (dv (t.getD (2 * i) 0)).toNat + (dv (t.getD (2 * i + 1) 0)).toNat)
omit [W0] in
def outN (t : List UInt8) (k : Nat) : List UInt8 := (List.range k).map (byAt t)
theorem outN_length (t : List UInt8) (k : Nat) : (outN t k).length = k := by simp [outN]
theorem outN_succ (t : List UInt8) (k : Nat) : outN t (k + 1) = outN t k ++ [byAt t k] := by simp [outN, List.range_succ]
omit [W0] in
def unB (t : List UInt8) : Bool := decide (t.length % 2 = 0) && (List.range (t.length / 2)).all (okAt t)
omit [W0] in
def unL (t : List UInt8) : List UInt8 := if unB t then outN t (t.length / 2) else []
theorem unB_odd {t : List UInt8} (h : t.length % 2 ≠ 0) : unB t = false := by simp [unB, h]
theorem unB_bad {t : List UInt8} {i : Nat} (h : i < t.length / 2) (hk : okAt t i = false) : unB t = false := by
  simp only [unB, Bool.and_eq_false_iff]
  refine .inr ?_
  rw [List.all_eq_false]
  exact ⟨i, List.mem_range.2 h, by simp [hk]⟩
theorem unB_good {t : List UInt8} (h : t.length % 2 = 0) (hk : ∀ i, i < t.length / 2 → okAt t i = true) : unB t = true := by
  simp only [unB, h, decide_true, Bool.true_and, List.all_eq_true]
  exact fun i hi => hk i (List.mem_range.1 hi)
theorem halfV_yes {d : UInt8} (h : 0 ≤ dv d) : halfV d = .tuple #[.int .u8 (dv d), .bool true] := if_pos h
theorem halfV_no {d : UInt8} (h : ¬ 0 ≤ dv d) : halfV d = .tuple #[.int .u8 0, .bool false] := if_neg h
theorem byAt_val {t : List UInt8} {i : Nat} (h1 : 0 ≤ dv (t.getD (2 * i) 0)) (h2 : 0 ≤ dv (t.getD (2 * i + 1) 0)) : ((byAt t i).toNat : Int) = 16 * dv (t.getD (2 * i) 0) + dv (t.getD (2 * i + 1) 0) := by
  have a1 := dv_lt (t.getD (2 * i) 0)
  have a2 := dv_lt (t.getD (2 * i + 1) 0)
  simp only [byAt, UInt8.toNat_ofNat']
  omega
theorem halves {a b : Nat} (ha : a < 16) (hb : b < 16) : bitI .or .u8 (IntKind.u8.wrap ((a : Int) * 2 ^ (min ((4 : Int)).toNat IntKind.u8.bits))) (b : Int) = some ((16 * a + b : Nat) : Int) := by
  have : ∀ a b : Fin 16, bitI .or .u8 (IntKind.u8.wrap ((a.val : Int) * 2 ^ (min ((4 : Int)).toNat IntKind.u8.bits))) (b.val : Int) = some ((16 * a.val + b.val : Nat) : Int) := by decide +kernel
  exact this ⟨a, ha⟩ ⟨b, hb⟩
set_option maxHeartbeats 2000000 in
theorem unhex_n (t : List UInt8) (L : List Chunk) (hlen : t.length ≤ 70368744177664) :
    Gv Tryd.prog 29 [.string (str t)].toArray L (fun r L' => ∃ v C, r = .tuple #[v, .bool (unB t)] ∧ L' = C :: L ∧ Ow 5 1 v (unL t).length (bsv (unL t)) C) := by
  refine Gv.of_body Tryd.func29 rfl rfl ?_
  have hno : unB t = false → Ow 5 1 (.slice none 0 0) (unL t).length (bsv (unL t)) [] := fun h => by
    unfold unL; rw [h]; exact .inl ⟨rfl, rfl, rfl, rfl⟩
  (repeat' first|refine kX ?_|refine kU fun bk=>?_|refine kV fun hc=>?_|refine kZ (fun hc=>?_) fun hc=>?_|fail)
  refine OW_EV (EV_rem rfl rfl (by decide)) rfl ?_
  rw [show (((str t).size : Nat) : Int).tmod 2 = ((t.length % 2 : Nat) : Int) from by rw [str_size, Int.tmod_eq_emod_of_nonneg (by omega)]; omega]
  (repeat' first|refine kX ?_|refine kU fun bk=>?_|refine kV fun hc=>?_|refine kZ (fun hc=>?_) fun hc=>?_|fail)
  · have hb := unB_odd (t := t) (by omega)
    refine WQ_holds (L' := [] :: L) (fun w h => Holds.nil.2 h) ?_
    refine kR ?_
    exact ⟨[] :: L, iC, .slice none 0 0, [], by rw [hb]; rfl, rfl, hno hb⟩
  · have hev : t.length % 2 = 0 := by omega
    refine OW_EV (EV_quo rfl rfl (by decide)) rfl ?_
    rw [show IntKind.i64.wrap ((((str t).size : Nat) : Int).tdiv 2) = ((t.length / 2 : Nat) : Int) from by
      rw [str_size, Int.tdiv_eq_ediv_of_nonneg (by omega), wrap_i64 (by omega) (by omega)]; omega]
    (repeat' first|refine kX ?_|refine kU fun bk=>?_|refine kV fun hc=>?_|refine kZ (fun hc=>?_) fun hc=>?_|fail)
    refine OW_makeSlice (m := 0) rfl rfl (by rfl) (by omega) (by omega) (by omega) rfl (fun bn => ?_)
    (repeat' first|refine kX ?_|refine kU fun bk=>?_|refine kV fun hc=>?_|refine kZ (fun hc=>?_) fun hc=>?_|fail)
    have ho : Ow 5 1 (.slice (some ⟨bn, 0, none⟩) 0 (t.length / 2)) 0 (bsv (outN t 0)) [(bn, cl (zeros [.int .u8 0] (t.length / 2)) 5)] :=
      .inr ⟨bn, t.length / 2, zeros [.int .u8 0] (t.length / 2), rfl, rfl, rfl, by simp [zeros_length], by omega, by simp [maxLen]; omega⟩
    refine WC_loop (X := Nat × Value × Chunk) (fun x => [(0, .string (str t)), (4, x.2.1), (5, .int .i64 ((2 * x.1 : Nat) : Int))])
      (fun x => x.2.2 :: L) (fun x => 2 * x.1 ≤ t.length ∧ (∀ i, i < x.1 → okAt t i = true) ∧ Ow 5 1 x.2.1 x.1 (bsv (outN t x.1)) x.2.2) (fun x => t.length - x.1) (0, _, _) ⟨Nat.zero_le _, fun i h => by omega, ho⟩ iS (fun w h => h) ?_
    intro x ⟨hx1, hx2, hx3⟩
    obtain ⟨k, s, C⟩ := x
    simp only at hx1 hx2 hx3 ⊢
    (repeat' first|refine kX ?_|refine kU fun bk=>?_|refine kV fun hc=>?_|refine kZ (fun hc=>?_) fun hc=>?_|fail)
    · rw [str_size] at hc
      have h0 : 2 * k + 1 < t.length := by omega
      obtain ⟨a, haq⟩ : ∃ a, a = t.getD (2 * k) 0 := ⟨_, rfl⟩
      obtain ⟨b, hbq⟩ : ∃ b, b = t.getD (2 * k + 1) 0 := ⟨_, rfl⟩
      have hal := dv_lt a
      have hbl := dv_lt b
      refine OW_EV (EV_indexStr (s := str t) (j := 2 * k) rfl rfl rfl (str_get (by omega))) rfl ?_
      rw [← haq]
      (repeat' first|refine kX ?_|refine kU fun bk=>?_|refine kV fun hc=>?_|refine kZ (fun hc=>?_) fun hc=>?_|fail)
      refine OW_callP rfl rfl rfl (half_n a _) rfl ?_
      by_cases ha : 0 ≤ dv a
      · rw [halfV_yes ha]
        (repeat' first|refine kX ?_|refine kU fun bk=>?_|refine kV fun hc=>?_|refine kZ (fun hc=>?_) fun hc=>?_|fail)
        refine OW_EV (EV_indexStr (s := str t) (j := 2 * k + 1) rfl rfl (by omega) (str_get h0)) rfl ?_
        rw [← hbq]
        (repeat' first|refine kX ?_|refine kU fun bk=>?_|refine kV fun hc=>?_|refine kZ (fun hc=>?_) fun hc=>?_|fail)
        refine OW_callP rfl rfl rfl (half_n b _) rfl ?_
        by_cases hb : 0 ≤ dv b
        · rw [halfV_yes hb]
          have hok : okAt t k = true := by unfold okAt; rw [← haq, ← hbq]; simp [ha, hb]
          have hby := byAt_val (t := t) (i := k) (by rw [← haq]; exact ha) (by rw [← hbq]; exact hb)
          rw [← haq, ← hbq] at hby
          (repeat' first|refine kX ?_|refine kU fun bk=>?_|refine kV fun hc=>?_|refine kZ (fun hc=>?_) fun hc=>?_|fail)
          refine OW_EV (EV_shl rfl rfl (by omega) rfl) rfl ?_
          (repeat' first|refine kX ?_|refine kU fun bk=>?_|refine kV fun hc=>?_|refine kZ (fun hc=>?_) fun hc=>?_|fail)
          have hh : bitI .or .u8 (IntKind.u8.wrap (dv a * 2 ^ (min ((4 : Int)).toNat IntKind.u8.bits))) (dv b) = some ((byAt t k).toNat : Int) := by
            have := halves (a := (dv a).toNat) (b := (dv b).toNat) (by omega) (by omega)
            rw [Int.toNat_of_nonneg ha, Int.toNat_of_nonneg hb] at this
            rw [this]
            congr 1
            omega
          refine OW_EV (EV_bit rfl rfl hh) rfl ?_
          (repeat' first|refine kX ?_|refine kU fun bk=>?_|refine kV fun hc=>?_|refine kZ (fun hc=>?_) fun hc=>?_|fail)
          refine OW_buildSlice (cs := bsv [byAt t k]) rfl (by rfl) (by simp [fillL, patch, Value.cells, zeros]; rfl) (by omega) rfl rfl (fun bk => ?_)
          (repeat' first|refine kX ?_|refine kU fun bk=>?_|refine kV fun hc=>?_|refine kZ (fun hc=>?_) fun hc=>?_|fail)
          refine OW_append rfl rfl hx3 (sl_cells (c := (bsv [byAt t k]).toArray) (xs := bsv [byAt t k]) (m := 1) Fnd.here rfl (by simp)) (by repeat (first | exact Zip.here _ | apply Zip.there)) (by rfl) bsv_ones (by omega) (by simp [maxLen]; omega) rfl (fun v' C' ho1 h1 h2 => ?_)
          rw [← bsv_append, ← outN_succ] at ho1
          (repeat' first|refine kX ?_|refine kU fun bk=>?_|refine kV fun hc=>?_|refine kZ (fun hc=>?_) fun hc=>?_|fail)
          refine WQ_round (X := Nat × Value × Chunk) (μ := fun x => t.length - x.1) (x := (k, s, C)) (k + 1, v', C') (by simp only; omega)
            ⟨by simp only; omega, fun i hi => ?_, ho1⟩ iS (fun w h => iH h)
          rcases Nat.lt_or_ge i k with h' | h'
          · exact hx2 i h'
          · rw [show i = k from by simp only at hi; omega]; exact hok
        · rw [halfV_no hb]
          have hbad := unB_bad (t := t) (i := k) (by omega) (by unfold okAt; rw [← haq, ← hbq, decide_eq_false hb]; simp)
          (repeat' first|refine kX ?_|refine kU fun bk=>?_|refine kV fun hc=>?_|refine kZ (fun hc=>?_) fun hc=>?_|fail)
          refine WQ_holds (L' := [] :: L) (fun w h => Holds.nil.2 h.drop) ?_
          refine kR ?_
          exact ⟨[] :: L, iC, .slice none 0 0, [], by rw [hbad]; rfl, rfl, hno hbad⟩
      · rw [halfV_no ha]
        (repeat' first|refine kX ?_|refine kU fun bk=>?_|refine kV fun hc=>?_|refine kZ (fun hc=>?_) fun hc=>?_|fail)
        refine OW_EV (EV_indexStr (s := str t) (j := 2 * k + 1) rfl rfl (by omega) (str_get h0)) rfl ?_
        rw [← hbq]
        (repeat' first|refine kX ?_|refine kU fun bk=>?_|refine kV fun hc=>?_|refine kZ (fun hc=>?_) fun hc=>?_|fail)
        refine OW_callP rfl rfl rfl (half_n b _) rfl ?_
        have hx : ∃ x y, halfV b = .tuple #[.int .u8 x, .bool y] := by
          unfold halfV; split <;> exact ⟨_, _, rfl⟩
        obtain ⟨x, y, hxy⟩ := hx
        rw [hxy]
        have hbad := unB_bad (t := t) (i := k) (by omega) (by unfold okAt; rw [← haq, ← hbq, decide_eq_false ha]; simp)
        (repeat' first|refine kX ?_|refine kU fun bk=>?_|refine kV fun hc=>?_|refine kZ (fun hc=>?_) fun hc=>?_|fail)
        refine WQ_holds (L' := [] :: L) (fun w h => Holds.nil.2 h.drop) ?_
        refine kR ?_
        exact ⟨[] :: L, iC, .slice none 0 0, [], by rw [hbad]; rfl, rfl, hno hbad⟩
    · rw [str_size] at hc
      have hk : k = t.length / 2 := by omega
      have hb : unB t = true := unB_good hev fun i hi => hx2 i (by omega)
      have hl : unL t = outN t k := by unfold unL; rw [hb, hk]; rfl
      refine kR ?_
      refine ⟨C :: L, iC, s, C, by rw [hb]; rfl, rfl, ?_⟩
      rw [hl, outN_length]
      exact hx3
end Go.Proofs.YtlomjmdgcpjepaaDoor
namespace Go.Proofs.YtlomjmdgcpjepaaDoor
open Go Go.Vx
variable [W0]
set_option maxRecDepth 4000
set_option linter.all false
set_option maxHeartbeats 2000000 in
theorem refunhex_n (t : List UInt8) (L : List Chunk) (hlen : t.length ≤ 70368744177664) :
    Gv Tryd.prog 30 [.string (str t)].toArray L (fun r L' => ∃ v C, r = .tuple #[v, .bool (unB t)] ∧ L' = C :: L ∧ Ow 5 1 v (unL t).length (bsv (unL t)) C) := by
  refine Gv.of_body Tryd.func30 rfl rfl ?_
  have hno : unB t = false → Ow 5 1 (.slice none 0 0) (unL t).length (bsv (unL t)) [] := fun h => by
    unfold unL; rw [h]; exact .inl ⟨rfl, rfl, rfl, rfl⟩
  (repeat' first|refine kX ?_|refine kU fun bk=>?_|refine kV fun hc=>?_|refine kZ (fun hc=>?_) fun hc=>?_|fail)
  refine OW_EV (EV_rem rfl rfl (by decide)) rfl ?_
  rw [show (((str t).size : Nat) : Int).tmod 2 = ((t.length % 2 : Nat) : Int) from by rw [str_size, Int.tmod_eq_emod_of_nonneg (by omega)]; omega]
  (repeat' first|refine kX ?_|refine kU fun bk=>?_|refine kV fun hc=>?_|refine kZ (fun hc=>?_) fun hc=>?_|fail)
  · have hb := unB_odd (t := t) (by omega)
    refine WQ_holds (L' := [] :: L) (fun w h => Holds.nil.2 h) ?_
    refine kR ?_
    exact ⟨[] :: L, iC, .slice none 0 0, [], by rw [hb]; rfl, rfl, hno hb⟩
  · have hev : t.length % 2 = 0 := by omega
    apply OW_buildSlice (parts := []) rfl (by rfl) (by simp [fillL]; rfl) (by omega) rfl rfl (fun bn => ?_)
    (repeat' first|refine kX ?_|refine kU fun bk=>?_|refine kV fun hc=>?_|refine kZ (fun hc=>?_) fun hc=>?_|fail)
    have ho : Ow 5 1 (.slice (some ⟨bn, 0, none⟩) 0 0) 0 (bsv (outN t 0)) [(bn, cl [] 5)] :=
      .inr ⟨bn, 0, [], rfl, rfl, rfl, rfl, Nat.le_refl _, by simp [maxLen]⟩
    refine WC_loop (X := Nat × Value × Chunk) (fun x => [(0, .string (str t)), (4, x.2.1), (5, .int .i64 ((2 * x.1 : Nat) : Int))])
      (fun x => x.2.2 :: L) (fun x => 2 * x.1 ≤ t.length ∧ (∀ i, i < x.1 → okAt t i = true) ∧ Ow 5 1 x.2.1 x.1 (bsv (outN t x.1)) x.2.2) (fun x => t.length - x.1) (0, _, _) ⟨Nat.zero_le _, fun i h => by omega, ho⟩ iS (fun w h => h) ?_
    intro x ⟨hx1, hx2, hx3⟩
    obtain ⟨k, s, C⟩ := x
    simp only at hx1 hx2 hx3 ⊢
    (repeat' first|refine kX ?_|refine kU fun bk=>?_|refine kV fun hc=>?_|refine kZ (fun hc=>?_) fun hc=>?_|fail)
    · rw [str_size] at hc
      have h0 : 2 * k + 1 < t.length := by omega
      obtain ⟨a, haq⟩ : ∃ a, a = t.getD (2 * k) 0 := ⟨_, rfl⟩
      obtain ⟨b, hbq⟩ : ∃ b, b = t.getD (2 * k + 1) 0 := ⟨_, rfl⟩
      have hal := dv_lt a
      have hbl := dv_lt b
      have hal0 : -1 ≤ dv a := by unfold dv; split; omega; split <;> omega
      have hbl0 : -1 ≤ dv b := by unfold dv; split; omega; split <;> omega
      refine OW_EV (EV_indexStr (s := str t) (j := 2 * k) rfl rfl rfl (str_get (by omega))) rfl ?_
      rw [← haq]
      (repeat' first|refine kX ?_|refine kU fun bk=>?_|refine kV fun hc=>?_|refine kZ (fun hc=>?_) fun hc=>?_|fail)
      refine OW_callP rfl rfl rfl (digit_n a _) rfl ?_
      (repeat' first|refine kX ?_|refine kU fun bk=>?_|refine kV fun hc=>?_|refine kZ (fun hc=>?_) fun hc=>?_|fail)
      refine OW_EV (EV_indexStr (s := str t) (j := 2 * k + 1) rfl rfl (by omega) (str_get h0)) rfl ?_
      rw [← hbq]
      (repeat' first|refine kX ?_|refine kU fun bk=>?_|refine kV fun hc=>?_|refine kZ (fun hc=>?_) fun hc=>?_|fail)
      refine OW_callP rfl rfl rfl (digit_n b _) rfl ?_
      (repeat' first|refine kX ?_|refine kU fun bk=>?_|refine kV fun hc=>?_|refine kZ (fun hc=>?_) fun hc=>?_|fail)
      · have hbad := unB_bad (t := t) (i := k) (by omega) (by unfold okAt; rw [← haq, ← hbq, decide_eq_false (by omega)]; simp)
        refine WQ_holds (L' := [] :: L) (fun w h => Holds.nil.2 h.drop) ?_
        refine kR ?_
        exact ⟨[] :: L, iC, .slice none 0 0, [], by rw [hbad]; rfl, rfl, hno hbad⟩
      · have hbad := unB_bad (t := t) (i := k) (by omega) (by unfold okAt; rw [← haq, ← hbq, decide_eq_false (p := 0 ≤ dv b) (by omega)]; simp)
        refine WQ_holds (L' := [] :: L) (fun w h => Holds.nil.2 h.drop) ?_
        refine kR ?_
        exact ⟨[] :: L, iC, .slice none 0 0, [], by rw [hbad]; rfl, rfl, hno hbad⟩
      · have ha : 0 ≤ dv a := by omega
        have hb : 0 ≤ dv b := by omega
        have hok : okAt t k = true := by unfold okAt; rw [← haq, ← hbq]; simp [ha, hb]
        have hby := byAt_val (t := t) (i := k) (by rw [← haq]; exact ha) (by rw [← hbq]; exact hb)
        rw [← haq, ← hbq] at hby
        have hh : IntKind.u8.wrap (16 * dv a + dv b) = ((byAt t k).toNat : Int) := by
          rw [hby, wrap_u8]; omega
        rw [hh]
        refine OW_buildSlice (cs := bsv [byAt t k]) rfl (by rfl) (by simp [fillL, patch, Value.cells, zeros]; rfl) (by omega) rfl rfl (fun bk => ?_)
        (repeat' first|refine kX ?_|refine kU fun bk=>?_|refine kV fun hc=>?_|refine kZ (fun hc=>?_) fun hc=>?_|fail)
        refine OW_append rfl rfl hx3 (sl_cells (c := (bsv [byAt t k]).toArray) (xs := bsv [byAt t k]) (m := 1) Fnd.here rfl (by simp)) (by repeat (first | exact Zip.here _ | apply Zip.there)) (by rfl) bsv_ones (by omega) (by simp [maxLen]; omega) rfl (fun v' C' ho1 h1 h2 => ?_)
        rw [← bsv_append, ← outN_succ] at ho1
        (repeat' first|refine kX ?_|refine kU fun bk=>?_|refine kV fun hc=>?_|refine kZ (fun hc=>?_) fun hc=>?_|fail)
        refine WQ_round (X := Nat × Value × Chunk) (μ := fun x => t.length - x.1) (x := (k, s, C)) (k + 1, v', C') (by simp only; omega)
          ⟨by simp only; omega, fun i hi => ?_, ho1⟩ iS (fun w h => iH h)
        rcases Nat.lt_or_ge i k with h' | h'
        · exact hx2 i h'
        · rw [show i = k from by simp only at hi; omega]; exact hok
    · rw [str_size] at hc
      have hk : k = t.length / 2 := by omega
      have hb : unB t = true := unB_good hev fun i hi => hx2 i (by omega)
      have hl : unL t = outN t k := by unfold unL; rw [hb, hk]; rfl
      refine kR ?_
      refine ⟨C :: L, iC, s, C, by rw [hb]; rfl, rfl, ?_⟩
      rw [hl, outN_length]
      exact hx3
set_option maxHeartbeats 1000000 in
theorem refhex_n (t : List UInt8) (v : Value) (L : List Chunk) (hlen : t.length ≤ 35184372088832) (hv : SlC L 1 v t.length (bsv t)) :
    GvP Tryd.prog 27 [v].toArray L (.string ⟨(hexL t).toArray⟩) := by
  refine Gv.of_body Tryd.func27 rfl rfl ?_
  obtain ⟨a, c, rfl, hmc⟩ := hv.room
  (repeat' first|refine kX ?_|refine kU fun bk=>?_|refine kV fun hc=>?_|refine kZ (fun hc=>?_) fun hc=>?_|fail)
  refine WC_holds' (L' := [] :: L) (fun w h => Holds.nil.2 h) ?_
  refine WC_loop (X := Nat × Value × Chunk) (fun x => [(0, .slice a t.length c), (3, x.2.1), (4, .int .i64 (x.1 : Int))])
    (fun x => x.2.2 :: L) (fun x => x.1 ≤ t.length ∧ Ow 5 1 x.2.1 (2 * x.1) (bsv (hexL (t.take x.1))) x.2.2) (fun x => t.length - x.1) (0, .slice none 0 0, []) ⟨Nat.zero_le _, .inl ⟨rfl, rfl, rfl, rfl⟩⟩ iS (fun w h => h) ?_
  intro x ⟨hx1, hx2⟩
  obtain ⟨k, s, C⟩ := x
  simp only at hx1 hx2 ⊢
  (repeat' first|refine kX ?_|refine kU fun bk=>?_|refine kV fun hc=>?_|refine kZ (fun hc=>?_) fun hc=>?_|fail)
  · have hlt : k < t.length := by omega
    obtain ⟨bb, off, cap, cc, bT, bfr, hve, hfn, hcell⟩ := sl_byte hv.sl hlt
    injection hve with e1 e2 e3
    subst e1 e3
    clear e2
    obtain ⟨x, hx⟩ : ∃ x, x = t.getD k 0 := ⟨_, rfl⟩
    rw [← hx] at hcell
    have hxl := x.toNat_lt
    refine WC_drawAll [14, 15] mixed ?_
    (refine WR_w 0 ?_; refine WR_w 1 ?_; refine WR_w 2 ?_; refine WR_w 3 ?_)
    (refine WR_take 4 rfl rfl (by kernel_rfl) iP iC (EV_load rfl hfn.there hcell) (by rfl) ?_)
    (refine WR_w 5 ?_)
    (refine WR_take 6 rfl rfl (by kernel_rfl) iP iC (EV_indexStr (s := digS) (j := x.toNat / 16) rfl rfl (by omega) (dig_get (by omega))) (by rfl) ?_)
    (refine WR_w 7 ?_; refine WR_w 8 ?_; refine WR_w 9 ?_)
    (refine WR_take 10 rfl rfl (by kernel_rfl) iP iC (EV_load rfl hfn.there hcell) (by rfl) ?_)
    (refine WR_take 11 rfl rfl (by kernel_rfl) iP iC (EV_mask rfl rfl rfl) (by rfl) ?_)
    (refine WR_take 12 rfl rfl (by kernel_rfl) iP iC (EV_indexStr (s := digS) (j := x.toNat % 16) rfl rfl rfl (dig_get (by omega))) (by rfl) ?_)
    (refine WR_one 13 (by kernel_rfl) rfl rfl ?_)
    refine OW_buildSlice (cs := bsv (hexB x)) rfl (by rfl) (by simp [fillL, patch, Value.cells, zeros]; rfl) (by omega) rfl rfl (fun bk => ?_)
    refine ⟨iC, ?_⟩
    (refine WR_last 14 (by kernel_rfl) rfl rfl rfl ?_)
    refine OW_append rfl rfl hx2 (sl_cells (c := (bsv (hexB x)).toArray) (xs := bsv (hexB x)) (m := 2) Fnd.here rfl (by simp)) (by repeat (first | exact Zip.here _ | apply Zip.there)) (by rfl) bsv_ones (by omega) (by simp [maxLen]; omega) rfl (fun v' C' ho1 h1 h2 => ?_)
    (refine WR_last 15 (by kernel_rfl) rfl rfl rfl ?_)
    refine OW_W ?_
    (refine WR_done (by kernel_rfl) ?_)
    (repeat' first|refine kX ?_|refine kU fun bk=>?_|refine kV fun hc=>?_|refine kZ (fun hc=>?_) fun hc=>?_|fail)
    have e : hexL (t.take (k + 1)) = hexL (t.take k) ++ hexB x := by
      rw [take_succ 0 hlt, hexL_append, ← hx]; simp [hexL]
    rw [← bsv_append, ← e] at ho1
    refine WQ_round (X := Nat × Value × Chunk) (μ := fun x => t.length - x.1) (x := (k, s, C)) (k + 1, v', C') (by simp only; omega) ⟨by simp only; omega, ho1⟩ iS (fun w h => iH h)
  · have hk : k = t.length := by omega
    subst hk
    rw [List.take_length] at hx2
    refine OW_EV (EV_convStr (b := hexL t) rfl (ow_sl hx2)) rfl ?_
    (repeat' first|refine kX ?_|refine kU fun bk=>?_|refine kV fun hc=>?_|refine kZ (fun hc=>?_) fun hc=>?_|fail)
    refine kR ?_
    exact ⟨L, iC, rfl, rfl⟩
end Go.Proofs.YtlomjmdgcpjepaaDoor
namespace Go.Vx
open Go
set_option linter.all false
variable [W0]
section
variable {P : Program} {n : Nat} {M : List (Nat × Value)} {L : List Chunk} {K : List (Nat × Value) → List Chunk → Prop}
variable {d : Nat} {ty : TypeId} {ps : String} {af : Array Edge} {g : Option (Nat × Bool)} {x y : Operand} {v : Value}
theorem OW_rangeS {t : TypeId} [hst : ST P t] {s : ByteArray} (hx : ev M x = some (.string s)) (hn : Nat.blt d n = true) (h : ∀ b, K ((d, .pointer (some ⟨b, 0, none⟩)) :: M) ([(b, .stringIter s 0)] :: L)) :
    OW P n ⟨some d, .range t x, ty, ps, af, g⟩ K M L :=
  OW_newval (f := fun b => .pointer (some ⟨b, 0, none⟩)) rfl hn (fun a w ha hw => by
    simp [execOp, Instr.range, ha.eval hx, underlying, hst.out, newObj, Sem.run, Result.andThen]) h
theorem OW_nextS {b pos : Nat} {s : ByteArray} {L' : List Chunk} (hx : ev M x = some (.pointer (some ⟨b, 0, none⟩))) (hp : pos < s.size) (hu : Upd L b (.stringIter s pos) (.stringIter s (pos + (Utf8.decode s pos).2)) L') (hn : Nat.blt d n = true)
    (h : K ((d, .tuple #[.bool true, .int .i64 (pos : Int), .int .i32 ((Utf8.decode s pos).1 : Int)]) :: M) L') :
    OW P n ⟨some d, .next x true, ty, ps, af, g⟩ K M L := ⟨fun a w nx Q ha hw hk => by
  have hb := hu.fnd.get hw
  have hlt : b < w.heap.size := (Array.getElem?_eq_some_iff.1 hb).1
  have hrun : (execOp a.eval ⟨some d, .next x true, ty, ps, af, g⟩).run P w = .ok (.value (.tuple #[.bool true, .int .i64 (pos : Int), .int .i32 ((Utf8.decode s pos).1 : Int)])) { w with heap := w.heap.setIfInBounds b (.stringIter s (pos + (Utf8.decode s pos).2)) } := by
    simp [execOp, ha.eval hx, Instr.next, getObj, setObj, Sem.run, hb, hp, goInt]
  unfold Oper.wp
  rw [hrun, Oper.upon_value]
  refine (hk _ _ h).out _ _ (ha.put _ hn) (hw.upd hu ?_ ?_ rfl rfl)
  · simp [hlt]
  · intro c hc; simp [Ne.symm hc]⟩
theorem EV_endS {b pos : Nat} {s : ByteArray} (hx : ev M x = some (.pointer (some ⟨b, 0, none⟩))) (hf : Fnd L b (.stringIter s pos)) (hp : ¬ pos < s.size) :
    EV P n ⟨some d, .next x true, ty, ps, af, g⟩ M L d (.tuple #[.bool false]) :=
  ⟨rfl, fun a w ha hw => by
    have hb := hf.get hw
    simp [execOp, ha.eval hx, Instr.next, getObj, Sem.run, hb, hp]⟩
end
end Go.Vx
namespace Go.Ob
open Go Go.Lib Go.Vx
set_option linter.all false
set_option maxRecDepth 4000
def sCommit : List UInt8 := [99, 111, 109, 109, 105, 116]
def sTree : List UInt8 := [116, 114, 101, 101]
def sBlob : List UInt8 := [98, 108, 111, 98]
def sTag : List UInt8 := [116, 97, 103]
open Go.Proofs.YtlomjmdgcpjepaaDoor
def nmL : Nat → List UInt8
  | 1 => sCommit
  | 2 => sTree
  | 3 => sBlob
  | 4 => sTag
  | _ => []
def nmI (k : Int) : List UInt8 := if 1 ≤ k ∧ k ≤ 4 then nmL k.toNat else []
def kdL (s : List UInt8) : Nat := if s = sCommit then 1 else if s = sTree then 2 else if s = sBlob then 3 else if s = sTag then 4 else 0
def dgF : Nat → Nat → List UInt8
  | 0, _ => []
  | f + 1, n => if n < 10 then [UInt8.ofNat (48 + n)] else dgF f (n / 10) ++ [UInt8.ofNat (48 + n % 10)]
def dgL (n : Nat) : List UInt8 := dgF 20 n
def hdL (k size : Int) : List UInt8 := nmI k ++ [32] ++ dgL (max size 0).toNat ++ [0]
def idL (k : Int) (body : List UInt8) : List UInt8 := hexL (shaN (hdL k (body.length : Int) ++ body))
def hshB (s : List UInt8) : Bool := decide (s.length = 40) && unB s
def inP (c : Nat) : Bool := decide (c ≠ 60) && decide (c ≠ 62) && decide (c ≠ 10) && decide (c ≠ 0)
def inD (c : Nat) : Bool := decide (48 ≤ c) && decide (c ≤ 57)
def cutN (c : UInt8) : List UInt8 → List UInt8 × List UInt8
  | [] => ([], [])
  | x :: t => if x = c then ([], t) else (x :: (cutN c t).1, (cutN c t).2)
def cutT (a b : UInt8) : List UInt8 → List UInt8 × List UInt8
  | [] => ([], [])
  | x :: t => if x = a ∧ t.head? = some b then ([], t.tail) else (x :: (cutT a b t).1, (cutT a b t).2)
def timB (s : List UInt8) : Bool := decide (s ≠ []) && decide (s.length ≤ 12) && (decide (s.length ≤ 1) || decide (s.getD 0 0 ≠ 48)) && s.all (fun b => inD b.toNat)
def zonB (s : List UInt8) : Bool := decide (s.length = 5) && (decide (s.getD 0 0 = 43) || decide (s.getD 0 0 = 45)) && (s.drop 1).all (fun b => inD b.toNat)
def perB (s : List UInt8) : Bool :=
  let p1 := cutT 32 60 s
  let p2 := cutT 62 32 p1.2
  let p3 := cutN 32 p2.2
  consB inP p1.1 && consB inP p2.1 && timB p3.1 && zonB p3.2
def upL (c : UInt8) : List UInt8 → Option (List UInt8 × List UInt8)
  | [] => none
  | x :: t => if x = c then some ([], t) else (upL c t).map fun r => (x :: r.1, r.2)
def numB (s : List UInt8) : Bool := s.all (fun b => inD b.toNat) && decide (0 < s.length) && decide (s.length ≤ 12) && (decide (s.getD 0 0 ≠ 48) || decide (s.length = 1))
def wthB (bad s : List UInt8) : Bool := s.all (fun b => !bad.contains b) && validD s
def perD (s : List UInt8) : Bool := match upL 60 s with
  | none => false
  | some (name, rest) =>
    if name = [] ∨ name.getLast? ≠ some 32 ∨ wthB [62, 10, 0] name = false then false else
    match upL 62 rest with
    | none => false
    | some (mail, rest) =>
      if wthB [60, 10, 0] mail = false ∨ rest.length < 1 ∨ rest.getD 0 0 ≠ 32 then false else
      match upL 32 (rest.drop 1) with
      | none => false
      | some (time, zone) => numB time && zonB zone
end Go.Ob
namespace Go.Ob
open Go Go.Lib Go.Vx
set_option linter.all false
set_option maxRecDepth 4000
theorem cutN_spec (c : UInt8) : ∀ s : List UInt8, (c ∉ s ∧ cutN c s = (s, [])) ∨ ∃ a t, c ∉ a ∧ s = a ++ c :: t ∧ cutN c s = (a, t)
  | [] => .inl ⟨by simp, rfl⟩
  | x :: s => by
    unfold cutN
    by_cases hx : x = c
    · subst hx
      exact .inr ⟨[], s, by simp, rfl, by rw [if_pos rfl]⟩
    · rw [if_neg hx]
      rcases cutN_spec c s with ⟨h1, h2⟩ | ⟨a, t, h1, h2, h3⟩
      · exact .inl ⟨by simp [h1, Ne.symm hx], by rw [h2]⟩
      · exact .inr ⟨x :: a, t, by simp [h1, Ne.symm hx], by rw [h2]; rfl, by rw [h3]⟩
theorem cutN_app (c : UInt8) (t : List UInt8) : ∀ a : List UInt8, c ∉ a → cutN c (a ++ c :: t) = (a, t)
  | [], _ => by simp [cutN]
  | x :: a, h => by
    simp only [List.mem_cons, not_or] at h
    simp only [List.cons_append, cutN]
    rw [if_neg (Ne.symm h.1), cutN_app c t a h.2]
theorem upL_app (c : UInt8) (t : List UInt8) : ∀ a : List UInt8, c ∉ a → upL c (a ++ c :: t) = some (a, t)
  | [], _ => by simp [upL]
  | x :: a, h => by
    simp only [List.mem_cons, not_or] at h
    simp only [List.cons_append, upL]
    rw [if_neg (Ne.symm h.1), upL_app c t a h.2]
    rfl
theorem upL_no (c : UInt8) : ∀ a : List UInt8, c ∉ a → upL c a = none
  | [], _ => rfl
  | x :: a, h => by
    simp only [List.mem_cons, not_or] at h
    simp only [upL]
    rw [if_neg (Ne.symm h.1), upL_no c a h.2]
    rfl
theorem upL_spec (c : UInt8) (s : List UInt8) : (c ∉ s ∧ upL c s = none) ∨ ∃ a t, c ∉ a ∧ s = a ++ c :: t ∧ upL c s = some (a, t) := by
  rcases cutN_spec c s with ⟨h1, h2⟩ | ⟨a, t, h1, h2, h3⟩
  · exact .inl ⟨h1, upL_no c s h1⟩
  · exact .inr ⟨a, t, h1, h2, by rw [h2]; exact upL_app c t a h1⟩
theorem cutT_spec (a b : UInt8) : ∀ s : List UInt8, cutT a b s = (s, []) ∨ ∃ x t, s = x ++ a :: b :: t ∧ cutT a b s = (x, t)
  | [] => .inl rfl
  | x :: s => by
    unfold cutT
    by_cases hx : x = a ∧ s.head? = some b
    · rw [if_pos hx]
      obtain ⟨rfl, hx⟩ := hx
      cases s with
      | nil => simp at hx
      | cons y s =>
        simp only [List.head?_cons, Option.some.injEq] at hx
        subst hx
        exact .inr ⟨[], s, rfl, rfl⟩
    · rw [if_neg hx]
      rcases cutT_spec a b s with h | ⟨y, t, h1, h2⟩
      · left; rw [h]
      · exact .inr ⟨x :: y, t, by rw [h1]; rfl, by rw [h2]⟩
theorem cutT_app (a b : UInt8) (hab : a ≠ b) (t : List UInt8) : ∀ x : List UInt8, b ∉ x → cutT a b (x ++ a :: b :: t) = (x, t)
  | [], _ => by simp [cutT]
  | y :: x, h => by
    simp only [List.mem_cons, not_or] at h
    simp only [List.cons_append, cutT]
    rw [if_neg ?_, cutT_app a b hab t x h.2]
    rintro ⟨_, h2⟩
    cases x with
    | nil => simp at h2; exact hab h2
    | cons z x =>
      simp at h2
      exact h.2 (by rw [h2]; simp)
theorem inP_hi (c : Nat) (h : 128 ≤ c) : inP c = true := by unfold inP; simp; omega
theorem inD_lo (c : Nat) (h : 128 ≤ c) : inD c = false := by unfold inD; simp; omega
theorem consP (l : List UInt8) : consB inP l = (l.all (fun b => inP b.toNat) && validD l) := by unfold consB; rw [rall_hi _ inP_hi]
theorem notin {p : Nat → Bool} {l : List UInt8} (h : l.all (fun b => p b.toNat) = true) (c : UInt8) (hc : p c.toNat = false) : c ∉ l := by
  intro hm
  have := List.all_eq_true.1 h c hm
  rw [hc] at this
  exact absurd this (by decide)
theorem num_tim (s : List UInt8) : numB s = timB s := by
  unfold numB timB
  rw [Bool.eq_iff_iff]
  simp only [Bool.and_eq_true, Bool.or_eq_true, decide_eq_true_eq, ne_eq, ← List.length_eq_zero_iff]
  constructor
  · rintro ⟨⟨⟨h1, h2⟩, h3⟩, h4⟩
    exact ⟨⟨⟨by omega, h3⟩, h4.elim .inr (fun h => .inl (by omega))⟩, h1⟩
  · rintro ⟨⟨⟨h1, h2⟩, h3⟩, h4⟩
    exact ⟨⟨⟨h4, by omega⟩, h2⟩, h3.elim (fun h => .inr (by omega)) .inl⟩
theorem zon_len {z : List UInt8} (h : zonB z = true) : z.length = 5 := by
  unfold zonB at h
  simp only [Bool.and_eq_true, decide_eq_true_eq] at h
  exact h.1.1
theorem tim_dig {q : List UInt8} (h : timB q = true) : q.all (fun b => inD b.toNat) = true := by
  unfold timB at h
  simp only [Bool.and_eq_true] at h
  exact h.2
def PerR (s : List UInt8) : Prop := ∃ n m q z, s = n ++ 32 :: 60 :: (m ++ 62 :: 32 :: (q ++ 32 :: z)) ∧ consB inP n = true ∧ consB inP m = true ∧ timB q = true ∧ zonB z = true
theorem perB_iff (s : List UInt8) : perB s = true ↔ PerR s := by
  unfold perB
  simp only [Bool.and_eq_true]
  constructor
  · rintro ⟨⟨⟨h1, h2⟩, h3⟩, h4⟩
    have hz := zon_len h4
    rcases cutT_spec 32 60 s with e | ⟨n, r, rfl, e⟩
    · rw [e] at hz; simp [cutT, cutN] at hz
    · rw [e] at h1 h2 h3 h4 hz
      simp only at h1 h2 h3 h4 hz
      rcases cutT_spec 62 32 r with e2 | ⟨m, r2, rfl, e2⟩
      · rw [e2] at hz; simp [cutN] at hz
      · rw [e2] at h2 h3 h4 hz
        simp only at h2 h3 h4 hz
        rcases cutN_spec 32 r2 with ⟨_, e3⟩ | ⟨q, z, _, rfl, e3⟩
        · rw [e3] at hz; simp at hz
        · rw [e3] at h3 h4
          exact ⟨n, m, q, z, rfl, h1, h2, h3, h4⟩
  · rintro ⟨n, m, q, z, rfl, h1, h2, h3, h4⟩
    have hn : (60 : UInt8) ∉ n := by rw [consP] at h1; simp only [Bool.and_eq_true] at h1; exact notin h1.1 60 (by decide)
    have hm : (32 : UInt8) ∉ q := notin (tim_dig h3) 32 (by decide)
    rw [cutT_app 32 60 (by decide) _ n hn]
    have hm2 : (62 : UInt8) ∉ m := by rw [consP] at h2; simp only [Bool.and_eq_true] at h2; exact notin h2.1 62 (by decide)
    have : ∀ x : List UInt8, (62 : UInt8) ∉ x → cutT 62 32 (x ++ 62 :: 32 :: (q ++ 32 :: z)) = (x, q ++ 32 :: z) := by
      intro x
      induction x with
      | nil => intro _; simp [cutT]
      | cons y x ih =>
        intro hx
        simp only [List.mem_cons, not_or] at hx
        simp only [List.cons_append, cutT]
        rw [if_neg (fun hh => hx.1 hh.1.symm), ih hx.2]
    simp only [this m hm2, cutN_app 32 z q hm]
    exact ⟨⟨⟨h1, h2⟩, h3⟩, h4⟩
theorem wth_iff (bad l : List UInt8) : wthB bad l = true ↔ (∀ b ∈ l, b ∉ bad) ∧ validD l = true := by
  unfold wthB
  simp only [Bool.and_eq_true, List.all_eq_true, Bool.not_eq_true', List.contains_eq_mem, decide_eq_false_iff_not]
theorem consP_iff (l : List UInt8) : consB inP l = true ↔ (∀ b ∈ l, b ≠ 60 ∧ b ≠ 62 ∧ b ≠ 10 ∧ b ≠ 0) ∧ validD l = true := by
  rw [consP]
  simp only [Bool.and_eq_true, List.all_eq_true]
  refine and_congr_left fun _ => forall_congr' fun b => forall_congr' fun _ => ?_
  unfold inP
  simp only [Bool.and_eq_true, decide_eq_true_eq, and_assoc]
  have q : ∀ y : UInt8, b.toNat ≠ y.toNat ↔ b ≠ y := fun y => not_congr UInt8.toNat_inj
  exact and_congr (q 60) (and_congr (q 62) (and_congr (q 10) (q 0)))
theorem perD_iff (s : List UInt8) : perD s = true ↔ PerR s := by
  unfold perD
  constructor
  · intro h
    rcases upL_spec 60 s with ⟨_, e⟩ | ⟨a, r, ha, rfl, e⟩
    · rw [e] at h; simp at h
    · rw [e] at h
      simp only at h
      split at h
      · simp at h
      · rename_i hg
        simp only [not_or, Classical.not_not, Bool.not_eq_false] at hg
        obtain ⟨g1, g2, g3⟩ := hg
        obtain ⟨n, rfl⟩ := List.getLast?_eq_some_iff.1 g2
        rcases upL_spec 62 r with ⟨_, e2⟩ | ⟨m, r2, hm, rfl, e2⟩
        · rw [e2] at h; simp at h
        · rw [e2] at h
          simp only at h
          split at h
          · simp at h
          · rename_i hg
            simp only [not_or, Classical.not_not, Bool.not_eq_false] at hg
            obtain ⟨g4, g5, g6⟩ := hg
            cases r2 with
            | nil => simp at g5
            | cons y r2 =>
              have hy : y = 32 := g6
              subst hy
              simp only [List.drop_succ_cons, List.drop_zero] at h
              rcases upL_spec 32 r2 with ⟨_, e3⟩ | ⟨q, z, hq, rfl, e3⟩
              · rw [e3] at h; simp at h
              · rw [e3] at h
                simp only [Bool.and_eq_true, num_tim] at h
                rw [wth_iff] at g3 g4
                refine ⟨n, m, q, z, by simp, (consP_iff n).2 ⟨fun b hb => ?_, ?_⟩, (consP_iff m).2 ⟨fun b hb => ?_, g4.2⟩, h.1, h.2⟩
                · have h1 := g3.1 b (by simp [hb])
                  simp only [List.mem_cons, not_or, List.not_mem_nil] at h1
                  exact ⟨fun hh => ha (by subst hh; simp [hb]), h1.1, h1.2.1, h1.2.2.1⟩
                · have := valid_app 32 [] (by decide) n
                  rw [g3.2] at this
                  simp only [Bool.true_eq, Bool.and_eq_true] at this
                  exact this.1
                · have h1 := g4.1 b hb
                  simp only [List.mem_cons, not_or, List.not_mem_nil] at h1
                  exact ⟨h1.1, fun hh => hm (by subst hh; exact hb), h1.2.1, h1.2.2.1⟩
  · rintro ⟨n, m, q, z, rfl, h1, h2, h3, h4⟩
    rw [consP_iff] at h1 h2
    have e1 : n ++ 32 :: 60 :: (m ++ 62 :: 32 :: (q ++ 32 :: z)) = (n ++ [32]) ++ 60 :: (m ++ 62 :: 32 :: (q ++ 32 :: z)) := by simp
    rw [e1, upL_app 60 _ (n ++ [32]) (by
      simp only [List.mem_append, List.mem_singleton, not_or]
      exact ⟨fun hh => (h1.1 _ hh).1 rfl, by decide⟩)]
    simp only
    rw [if_neg ?_, upL_app 62 _ m (fun hh => (h2.1 _ hh).2.1 rfl)]
    · simp only
      rw [if_neg ?_]
      · simp only [List.drop_succ_cons, List.drop_zero]
        rw [upL_app 32 z q (notin (tim_dig h3) 32 (by decide))]
        simp only [Bool.and_eq_true, num_tim]
        exact ⟨h3, h4⟩
      · simp only [not_or, Classical.not_not, Bool.not_eq_false]
        refine ⟨(wth_iff _ _).2 ⟨fun b hb => ?_, h2.2⟩, by simp, rfl⟩
        have := h2.1 b hb
        simp [this.1, this.2.2.1, this.2.2.2]
    · simp only [not_or, Classical.not_not, Bool.not_eq_false]
      refine ⟨by simp, by simp, (wth_iff _ _).2 ⟨fun b hb => ?_, ?_⟩⟩
      · simp only [List.mem_append, List.mem_singleton] at hb
        rcases hb with hb | rfl
        · have := h1.1 b hb
          simp [this.2.1, this.2.2.1, this.2.2.2]
        · decide
      · rw [valid_app 32 [] (by decide) n, h1.2]; rfl
theorem perD_eq (s : List UInt8) : perD s = perB s := by rw [Bool.eq_iff_iff, perD_iff, perB_iff]
end Go.Ob
namespace Go.Vx
open Go Go.Lib Go.RowKit
set_option linter.all false
variable [W0]
omit [W0] in
/-- A slice of bytes of the call's own: none, or a row that may bear a mark. -/
def OwG (e : Nat) (v : Value) (m : Nat) (xs : List Value) (C : Chunk) : Prop := (v = .slice none 0 0 ∧ m = 0 ∧ xs = [] ∧ C = []) ∨ OwF e 1 v m xs C
theorem OwG.nil {e : Nat} : OwG e (.slice none 0 0) 0 [] [] := .inl ⟨rfl, rfl, rfl, rfl⟩
theorem OwG.f {e m : Nat} {v : Value} {xs : List Value} {C : Chunk} (h : OwF e 1 v m xs C) : OwG e v m xs C := .inr h
theorem OwG.ow {e m : Nat} {v : Value} {xs : List Value} {C : Chunk} (h : Ow e 1 v m xs C) : OwG e v m xs C := by
  rcases h with h | ⟨b, cap, rest, rfl, rfl, h1, h2, h3, h4⟩
  · exact .inl h
  · exact .inr ⟨b, cap, rest, (0, 0), rfl, rfl, h1, h2, h3, h4, FrOk.zero _⟩
theorem OwG.sl {e m : Nat} {v : Value} {xs : List Value} {C : Chunk} {L : List Chunk} (h : OwG e v m xs C) : Sl (C :: L) 1 v m xs := by
  rcases h with ⟨rfl, rfl, rfl, rfl⟩ | h
  · exact .inl ⟨0, rfl, rfl, rfl⟩
  · exact owf_sl h
theorem OwG.room {e m : Nat} {v : Value} {xs : List Value} {C : Chunk} (h : OwG e v m xs C) : ∃ a c, v = .slice a m c ∧ m ≤ c := by
  rcases h with ⟨rfl, rfl, rfl, rfl⟩ | ⟨b, cap, rest, fr, rfl, rfl, h1, h2, h3, h4, _⟩
  · exact ⟨_, _, rfl, Nat.le_refl _⟩
  · exact ⟨_, _, rfl, h3⟩
theorem OwG.len {e m : Nat} {v : Value} {xs : List Value} {C : Chunk} (h : OwG e v m xs C) : xs.length = m := by
  rcases h with ⟨rfl, rfl, rfl, rfl⟩ | ⟨b, cap, rest, fr, rfl, rfl, h1, h2, h3, h4, _⟩
  · rfl
  · simpa using h1
section
variable {P : Program} {n : Nat} {M : List (Nat × Value)} {L : List Chunk} {K : List (Nat × Value) → List Chunk → Prop}
variable {d : Nat} {ty : TypeId} {ps : String} {af : Array Edge} {g : Option (Nat × Bool)} {x y : Operand} {v : Value}
theorem OW_appG {t e by_ : Nat} [hs : SL P t e 1 by_] {z : Value} [hz : ZV P e z] {v r : Value} {m c : Nat} {xs ys : List Value} {C : Chunk} {A B : List Chunk} (hx : ev M x = some v) (hy : ev M y = some r) (hown : OwG e v m xs C)
    (hsl : Sl L 1 r c ys) (hzip : Zip C L A B) (hzk : z.cells.size = 1) (h1 : ones ys = true) (hb : (m + c) * by_ ≤ 140737488355328) (h63 : m + c ≤ maxLen)
    (hn : Nat.blt d n = true) (h : ∀ v' C', OwG e v' (m + c) (xs ++ ys) C' → K ((d, v') :: M) (A ++ C' :: B)) :
    OW P n ⟨some d, .call ⟨.builtin .append, #[x, y], #[t, t]⟩, ty, ps, af, g⟩ K M L := by
  rcases hown with ⟨rfl, rfl, rfl, rfl⟩ | hown
  · exact OW_append hx hy (.inl ⟨rfl, rfl, rfl, rfl⟩) hsl hzip hzk h1 hb h63 hn (fun v' C' ho _ _ => h v' C' (OwG.ow ho))
  · exact OW_appendF hx hy hown hsl hzip hzk h1 hb h63 hn (fun v' C' ho => h v' C' (.inr ho))
omit [W0] in
theorem strCells_bsv (q : ByteArray) : strCells q = bsv q.data.toList := rfl
theorem OW_appGS {t s e by_ : Nat} [hs : SL P t e 1 by_] [hst : ST P s] [hz : ZV P e (.int .u8 0)] {v : Value} {m : Nat} {xs : List Value} {C : Chunk} {A B : List Chunk} {q : ByteArray} (hx : ev M x = some v) (hy : ev M y = some (.string q)) (hown : OwG e v m xs C)
    (hzip : Zip C L A B) (hb : (m + q.size) * by_ ≤ 140737488355328) (h63 : m + q.size ≤ maxLen)
    (hn : Nat.blt d n = true) (h : ∀ v' C', OwG e v' (m + q.size) (xs ++ bsv q.data.toList) C' → K ((d, v') :: M) (A ++ C' :: B)) :
    OW P n ⟨some d, .call ⟨.builtin .append, #[x, y], #[t, s]⟩, ty, ps, af, g⟩ K M L := ⟨fun a w next Q ha hw0 hk => by
  have hL := hzip.eq
  subst hL
  have hw := hw0.perm List.perm_middle
  obtain ⟨ht, i, hi, hik, hib, hk0⟩ := hs.parts
  have hu := hst.out
  have hzz : i.zero = some (.int .u8 0) := by have := hz.out; rw [hi] at this; simpa using this
  subst hib
  have hsmall : m + q.size ≤ 9223372036854775807 := by simpa [maxLen] using h63
  have main : ∃ v' C' w', (Builtin.append_ #[t, s] ty #[v, .string q]).run P w = .ok v' w' ∧ OwG e v' (m + q.size) (xs ++ bsv q.data.toList) C' ∧ Holds w' (C' :: (A ++ B)) := by
    rcases hown with ⟨rfl, rfl, rfl, rfl⟩ | ⟨b, cap, rest, fr, rfl, rfl, hxl, hrl, hmc, hcm, hfr⟩
    · by_cases hm : q.size = 0
      · have hn : strCells q = [] := List.eq_nil_of_length_eq_zero (by rw [strCells_length]; exact hm)
        refine ⟨.slice none 0 0, [], w, ?_, ?_, hw⟩
        · have hf := run_firstCells_string (P := P) w 1 q
          rw [hm] at hf
          simp [Builtin.append_, run_underlying ht, run_underlying hu, sizeOf, typeInfo, hi, hik, Builtin.lenOf, hm, hf]
        · rw [← strCells_bsv, hn, hm]; exact OwG.nil
      · have hr := run_append_nil_string (P := P) w t s ty e i (.int .u8 0) ht hu hi hzz q (by omega) (by omega) (by have h2 := hb; simp only [Nat.zero_add] at h2; omega)
        have e0 : (q.data.map fun b => Value.int .u8 b.toNat) = (strCells q).toArray := by
          apply Array.ext'
          simp [strCells]
        rw [e0] at hr
        refine ⟨_, [(w.heap.size, .cells (bsv q.data.toList ++ (Builtin.zeroCells (Value.int .u8 0).cells (grownCap w q.size 0 e - q.size)).toList).toArray e (0, 0))], _, hr, .inr ⟨w.heap.size, grownCap w q.size 0 e, (Builtin.zeroCells (Value.int .u8 0).cells (grownCap w q.size 0 e - q.size)).toList, (0, 0), by rw [Nat.zero_add], rfl, ?_, ?_, ?_, grownCap_le_maxLen w q.size 0 e (by omega), FrOk.zero _⟩, ?_⟩
        · rw [List.nil_append, ← strCells_bsv, strCells_length]; omega
        · simp [size_zeroCells, Value.cells]
        · rw [Nat.zero_add]; exact grownCap_ge w q.size 0 e
        · have h0 := (hw.drop.same (w' := w.drew) rfl rfl rfl).alloc (.cells ((strCells q).toArray ++ Builtin.zeroCells (Value.int .u8 0).cells (grownCap w q.size 0 e - q.size)) e)
          have e1 : (bsv q.data.toList ++ (Builtin.zeroCells (Value.int .u8 0).cells (grownCap w q.size 0 e - q.size)).toList).toArray = (strCells q).toArray ++ Builtin.zeroCells (Value.int .u8 0).cells (grownCap w q.size 0 e - q.size) := by
            apply Array.ext'; simp [strCells_bsv]
          rw [e1]; exact h0
    · have hfnd : w.heap[b]? = some (.cells (xs ++ rest).toArray e fr) := (Fnd.here : Fnd ([(b, .cells (xs ++ rest).toArray e fr)] :: (A ++ B)) b _).get hw
      by_cases hroom : m + q.size ≤ cap
      · have hxl' : xs.length = m := by simpa using hxl
        have hrl' : rest.length = cap - m := by simpa using hrl
        have hlen : m + (strCells q).length ≤ (xs ++ rest).length := by
          simp only [List.length_append, hxl', hrl', strCells_length]; omega
        have hf := run_firstCells_string (P := P) w 1 q
        have hst := run_storeCells_cells (P := P) b m (strCells q) 0 w
          (fun j hj => by rw [cell_of hfnd]; simp; simp at hlen; omega)
          (fun j hj => by
            have := hfr (m + 0 + j) (by omega)
            simp only [World.frozen?, hfnd]
            cases hd : (decide (fr.1 ≤ m + 0 + j) && decide (m + 0 + j < fr.2)) with
            | false => simpa using hd
            | true => simp at hd; exact absurd (by simpa using hd) this)
          (strCells_oneCell q)
        simp only [Nat.add_zero] at hst
        have hr : (Builtin.append_ #[t, s] ty #[.slice (some ⟨b, 0, none⟩) m cap, .string q]).run P w = .ok (.slice (some ⟨b, 0, none⟩) (m + q.size) cap) (w.setCells b m (strCells q)) := by
          simp [Builtin.append_, run_underlying ht, run_underlying hu, sizeOf, typeInfo, hi, hik, Builtin.lenOf, hroom, hf, Addr.add_lit, hst]
        have hx1 : patch (xs ++ rest).toArray.toList m (strCells q) = (xs ++ bsv q.data.toList) ++ rest.drop (strCells q).length := by
          simp only [List.toList_toArray, patch]
          rw [← hxl', List.take_left]
          congr 1
          rw [List.drop_append]
          simp
        have hat := setCells_at (T := e) (fr := fr) (strCells q) m _ w hfnd (by simpa using hlen)
        rw [hx1] at hat
        refine ⟨_, [(b, .cells ((xs ++ bsv q.data.toList) ++ rest.drop (strCells q).length).toArray e fr)], _, hr, .inr ⟨b, cap, rest.drop (strCells q).length, fr, rfl, rfl, ?_, ?_, hroom, hcm, ?_⟩, ?_⟩
        · rw [List.length_append, hxl', ← strCells_bsv, strCells_length]; omega
        · rw [List.length_drop, hrl', strCells_length]; omega
        · intro j hj
          refine hfr j ?_
          simp only [List.length_append, List.length_drop, ← strCells_bsv] at hj hlen ⊢
          omega
        · exact hw.upd .here hat (fun q hq => setCells_ne _ _ _ _ hq) (setCells_out _ _ _).1 (setCells_out _ _ _).2
      · have hrd0 : RdAt ([(b, .cells (xs ++ rest).toArray e fr)] :: (A ++ B)) ⟨b, 0, none⟩ xs := .inr ⟨b, 0, _, _, _, rfl, .here, fun j u hj => by rw [Nat.zero_add]; simpa using getE_app hj⟩
        have hr := run_append_grow_string (P := P) w t s ty e i (.int .u8 0) ht hu hi hzz ⟨b, 0, none⟩ m cap xs (by rw [hik]; exact hxl) (hrd0.cells hw) q (by omega) (by omega) (growslice_fits (by omega) hb)
        refine ⟨_, [(w.heap.size, .cells ((xs ++ bsv q.data.toList) ++ (Builtin.zeroCells (Value.int .u8 0).cells (grownCap w (m + q.size) cap e - (m + q.size))).toList).toArray e (0, 0))], _, hr, .inr ⟨w.heap.size, _, _, (0, 0), rfl, rfl, ?_, ?_, grownCap_ge w (m + q.size) cap e, grownCap_le_maxLen w (m + q.size) cap e h63, FrOk.zero _⟩, ?_⟩
        · have hxl' : xs.length = m := by simpa using hxl
          rw [List.length_append, hxl', ← strCells_bsv, strCells_length]; omega
        · simp [size_zeroCells, Value.cells]
        · have h0 := (hw.drop.same (w' := w.drew) rfl rfl rfl).alloc (.cells (xs.toArray ++ (strCells q).toArray ++ Builtin.zeroCells (Value.int .u8 0).cells (grownCap w (m + q.size) cap e - (m + q.size))) e)
          have e1 : (xs ++ bsv q.data.toList ++ (Builtin.zeroCells (Value.int .u8 0).cells (grownCap w (m + q.size) cap e - (m + q.size))).toList).toArray = xs.toArray ++ (strCells q).toArray ++ Builtin.zeroCells (Value.int .u8 0).cells (grownCap w (m + q.size) cap e - (m + q.size)) := by
            apply Array.ext'; simp [strCells_bsv]
          rw [e1]; exact h0
  obtain ⟨v', C', w', hr, ho, hw'⟩ := main
  unfold Oper.wp
  have hrun : (execOp a.eval ⟨some d, .call ⟨.builtin .append, #[x, y], #[t, s]⟩, ty, ps, af, g⟩).run P w = .ok (.value v') w' := by
    simp only [execOp, resolve, invoke, builtin, Sem.run_bind, Sem.run_pure, Result.andThen_ok, List.map_toArray, List.map_cons, List.map_nil, ha.eval hx, ha.eval hy, hr]
  rw [hrun, Oper.upon_value]
  exact (hk _ _ (h v' C' ho)).out _ _ (ha.put v' hn) (hw'.perm List.perm_middle.symm)⟩
end
end Go.Vx
namespace Go.Ob
open Go Go.Vx Go.Proofs.YtlomjmdgcpjepaaDoor Go.Lib
set_option linter.all false
variable [W0]
theorem str_app (a b : List UInt8) : str a ++ str b = str (a ++ b) := by
  apply ByteArray.ext
  simp [str]
theorem str_inj {a b : List UInt8} : str a = str b ↔ a = b := by
  constructor
  · intro h
    have := congrArg (fun s => s.data.toList) h
    simpa [str] using this
  · rintro rfl; rfl
theorem str_ext (t : List UInt8) (l h : Nat) : (str t).extract l h = str ((t.drop l).take (h - l)) := by
  apply ByteArray.ext
  apply Array.ext'
  simp [str, List.drop_take]
theorem str_dec (t : List UInt8) (pos : Nat) : Utf8.decode (str t) pos = decodeL (t.drop pos) := (decodeL_drop (str t) pos).symm
theorem str_of (s : ByteArray) : ∃ t, s = str t ∧ t.length = s.size := ⟨s.data.toList, by cases s; rfl, by cases s; simp [ByteArray.size]⟩
section
variable {P : Program} {n : Nat} {M : List (Nat × Value)} {L : List Chunk} {K : List (Nat × Value) → List Chunk → Prop}
variable {d : Nat} {ty : TypeId} {ps : String} {af : Array Edge} {g : Option (Nat × Bool)} {x y : Operand} {v : Value}
theorem EV_catL (a b : List UInt8) {t u : TypeId} (hx : ev M x = some (.string (str a))) (hy : ev M y = some (.string (str b))) (hs : a.length + b.length ≤ 9223372036854775807) :
    EV P n ⟨some d, .binOp .add t x y u, ty, ps, af, g⟩ M L d (.string (str (a ++ b))) := by
  have := EV_strCat (P := P) (n := n) (M := M) (L := L) (d := d) (ty := ty) (ps := ps) (af := af) (g := g) (t := t) (u := u) hx hy (by simpa [str_size] using hs)
  rw [str_app] at this
  exact this
theorem EV_eqL (a b : List UInt8) {t u : TypeId} (hx : ev M x = some (.string (str a))) (hy : ev M y = some (.string (str b))) :
    EV P n ⟨some d, .binOp .eql t x y u, ty, ps, af, g⟩ M L d (.bool (decide (a = b))) := by
  have := EV_strEq (P := P) (n := n) (M := M) (L := L) (d := d) (ty := ty) (ps := ps) (af := af) (g := g) (t := t) (u := u) hx hy
  simpa only [str_inj] using this
theorem EV_cutL (t : List UInt8) (l h : Nat) {T : Nat} [hs : ST P T] {lo hi : Option Operand} (hx : ev M x = some (.string (str t))) (hl : bnd M lo 0 = some (l : Int)) (hh : bnd M hi t.length = some (h : Int))
    (h1 : l ≤ h) (h2 : h ≤ t.length) : EV P n ⟨some d, .slice T x lo hi none, ty, ps, af, g⟩ M L d (.string (str ((t.drop l).take (h - l)))) := by
  have := EV_sliceStr (P := P) (n := n) (M := M) (L := L) (d := d) (ty := ty) (ps := ps) (af := af) (g := g) (T := T) hx hl hh h1 h2
  rw [str_ext] at this
  exact this
end
omit [W0] in
theorem kdL_hit {k : Nat} (h1 : 1 ≤ k) (h2 : k ≤ 4) : kdL (nmL k) = k := by
  match k, h1, h2 with
  | 1, _, _ => decide
  | 2, _, _ => decide
  | 3, _, _ => decide
  | 4, _, _ => decide
omit [W0] in
theorem kdL_miss {s : List UInt8} (h : ∀ j, 1 ≤ j → j ≤ 4 → nmL j ≠ s) : kdL s = 0 := by
  have h1 := h 1 (by decide) (by decide)
  have h2 := h 2 (by decide) (by decide)
  have h3 := h 3 (by decide) (by decide)
  have h4 := h 4 (by decide) (by decide)
  unfold kdL
  exact (if_neg (Ne.symm h1)).trans ((if_neg (Ne.symm h2)).trans ((if_neg (Ne.symm h3)).trans (if_neg (Ne.symm h4))))
omit [W0] in
theorem nmI_nat {k : Nat} (h1 : 1 ≤ k) (h2 : k ≤ 4) : nmI (k : Int) = nmL k := by
  unfold nmI
  rw [if_pos (by omega)]
  rfl
omit [W0] in
theorem nmI_no {k : Int} (h : ¬ (1 ≤ k ∧ k ≤ 4)) : nmI k = [] := if_neg h
omit [W0] in
theorem nmI_len (k : Int) : (nmI k).length ≤ 6 := by
  unfold nmI
  split
  · rename_i h
    obtain ⟨n, rfl⟩ : ∃ n : Nat, k = n := ⟨k.toNat, by omega⟩
    match n, h with
    | 1, _ => decide
    | 2, _ => decide
    | 3, _ => decide
    | 4, _ => decide
    | 0, h => exact absurd h.1 (by decide)
    | n + 5, h => omega
  · exact Nat.zero_le _
end Go.Ob
namespace Go.Proofs.YtlomjmdgcpjepaaDoor
open Go Go.Vx Go.Ob
set_option linter.all false
variable [W0]
set_option maxRecDepth 4000
theorem obname_n (k : Int) (L : List Chunk) : GvP Tryd.prog 8 [.int .i64 k].toArray L (.string (str (nmI k))) := by
  refine Gv.of_body Tryd.func8 rfl rfl ?_
  (repeat' first|refine kW ?_|refine kU fun bk=>?_|refine kV fun hc=>?_|refine kZ (fun hc=>?_) fun hc=>?_|fail)
  · subst hc; exact kE
  · subst hc; exact kE
  · subst hc; exact kE
  · subst hc; exact kE
  · refine kR ?_
    exact ⟨_, iC, by rw [nmI_no (by omega)]; rfl, rfl⟩
theorem obkind_n (s : List UInt8) (L : List Chunk) : GvP Tryd.prog 6 [.string (str s)].toArray L (.tuple #[.int .i64 (kdL s : Int), .bool (decide (kdL s ≠ 0))]) := by
  refine Gv.of_body Tryd.func6 rfl rfl ?_
  (repeat' first|refine kW ?_|refine kU fun bk=>?_|refine kV fun hc=>?_|refine kZ (fun hc=>?_) fun hc=>?_|fail)
  refine WC_loop (X := Nat) (fun k => [(0, .string (str s)), (4, .int .i64 (k : Int))]) (fun _ => L) (fun k => 1 ≤ k ∧ k ≤ 5 ∧ ∀ j, 1 ≤ j → j < k → nmL j ≠ s) (fun k => 5 - k) 1 ⟨by omega, by omega, fun j h1 h2 => by omega⟩ iS (fun w h => h) ?_
  intro k ⟨h1, h2, h3⟩
  (repeat' first|refine kW ?_|refine kU fun bk=>?_|refine kV fun hc=>?_|refine kZ (fun hc=>?_) fun hc=>?_|fail)
  · refine OW_callP rfl rfl rfl (obname_n _ _) rfl ?_
    rw [nmI_nat h1 (by omega)]
    (repeat' first|refine kW ?_|refine kU fun bk=>?_|refine kV fun hc=>?_|refine kZ (fun hc=>?_) fun hc=>?_|fail)
    (repeat' first|refine kW ?_|refine kU fun bk=>?_|refine kV fun hc=>?_|refine kZ (fun hc=>?_) fun hc=>?_|fail)
    · have hc := str_inj.1 hc
      refine kR ?_
      refine ⟨_, iC, ?_, rfl⟩
      rw [← hc, kdL_hit h1 (by omega), decide_eq_true (by omega)]
      rfl
    · refine WQ_round (X := Nat) (μ := fun k => 5 - k) (x := k) (k + 1) (by omega) ⟨by omega, by omega, fun j g1 g2 => ?_⟩ iS (fun w h => h)
      rcases Nat.lt_or_ge j k with h | h
      · exact h3 j g1 h
      · rw [show j = k from by omega]; exact fun hh => hc (str_inj.2 hh)
  · refine kR ?_
    refine ⟨_, iC, ?_, rfl⟩
    rw [kdL_miss (fun j g1 g2 => h3 j g1 (by omega))]
    rfl
theorem refname_n (k : Int) (L : List Chunk) : GvP Tryd.prog 9 [.int .i64 k].toArray L (.string (str (nmI k))) := by
  refine Gv.of_body Tryd.func9 rfl rfl ?_
  (repeat' first|refine kW ?_|refine kU fun bk=>?_|refine kV fun hc=>?_|refine kZ (fun hc=>?_) fun hc=>?_|fail)
  refine OW_buildSlice (cs := [.string (str (nmL 0)), .string (str (nmL 1)), .string (str (nmL 2)), .string (str (nmL 3)), .string (str (nmL 4))]) rfl (by rfl) (by simp [fillL, patch, Value.cells, zeros]; exact ⟨rfl, rfl, rfl, rfl, rfl⟩) (by omega) rfl rfl (fun bn => ?_)
  (repeat' first|refine kW ?_|refine kU fun bk=>?_|refine kV fun hc=>?_|refine kZ (fun hc=>?_) fun hc=>?_|fail)
  · refine kR ?_
    exact ⟨_, iC, by rw [nmI_no (by omega)]; rfl, rfl⟩
  · refine kR ?_
    exact ⟨_, iC, by rw [nmI_no (by omega)]; rfl, rfl⟩
  · obtain ⟨j, rfl⟩ : ∃ j : Nat, k = j := ⟨k.toNat, by omega⟩
    have hj : j < 5 := by omega
    refine OW_EV (EV_indexAddr0 (j := j) rfl rfl rfl hj) rfl ?_
    (repeat' first|refine kW ?_|refine kU fun bk=>?_|refine kV fun hc=>?_|refine kZ (fun hc=>?_) fun hc=>?_|fail)
    refine OW_EV (v := .string (str (nmI (j : Int)))) (EV_loadc rfl Fnd.here (by
      match j, hj with
      | 0, _ => rfl
      | 1, _ => rfl
      | 2, _ => rfl
      | 3, _ => rfl
      | 4, _ => rfl)) rfl ?_
    (repeat' first|refine kW ?_|refine kU fun bk=>?_|refine kV fun hc=>?_|refine kZ (fun hc=>?_) fun hc=>?_|fail)
    exact kE
end Go.Proofs.YtlomjmdgcpjepaaDoor
namespace Go.Proofs.YtlomjmdgcpjepaaDoor
open Go Go.Shelf Go.Proofs
set_option linter.all false
set_option maxRecDepth 100000
def sh_v_ren : Go.Shelf.Ren :=
  {
    f := fun x =>
      match x with
      | 196 => 51
      | 259 => 60
      | n => n,
    t := fun x =>
      match x with
      | 9 => 9
      | 4 => 4
      | 3 => 3
      | 5 => 5
      | 12 => 12
      | 119 => 91
      | 0 => 0
      | 46 => 70
      | 139 => 94
      | 138 => 93
      | 53 => 74
      | n => n,
    g := fun x =>
      match x with
      | 3 => 0
      | 4 => 1
      | n => n }
theorem sh_v : Go.Proofs.Lays.n196 Go.Proofs.Tryd.prog sh_v_ren :=
  { mixed := by kernel_rfl,
    f196 := Eq.trans Go.Proofs.Tryd.func51 (congrArg Option.some (Eq.refl (Go.Proofs.Body.n196 sh_v_ren))),
    f259 := Eq.trans Go.Proofs.Tryd.func60 (congrArg Option.some (Eq.refl (Go.Proofs.Body.n259 sh_v_ren))),
    t0 := Go.Proofs.Tryd.underlying0, a0 := Go.Proofs.Tryd.isAgg0, z0 := Go.Proofs.Tryd.sizeOf0,
    v0 := Go.Proofs.Tryd.zeroValue0, t3 := Go.Proofs.Tryd.underlying3, a3 := Go.Proofs.Tryd.isAgg3,
    z3 := Go.Proofs.Tryd.sizeOf3, v3 := Go.Proofs.Tryd.zeroValue3, t4 := Go.Proofs.Tryd.underlying4,
    a4 := Go.Proofs.Tryd.isAgg4, z4 := Go.Proofs.Tryd.sizeOf4, v4 := Go.Proofs.Tryd.zeroValue4,
    t5 := Go.Proofs.Tryd.underlying5, a5 := Go.Proofs.Tryd.isAgg5, z5 := Go.Proofs.Tryd.sizeOf5,
    v5 := Go.Proofs.Tryd.zeroValue5, t9 := Go.Proofs.Tryd.underlying9, a9 := Go.Proofs.Tryd.isAgg9,
    z9 := Go.Proofs.Tryd.sizeOf9, v9 := Go.Proofs.Tryd.zeroValue9, t12 := Go.Proofs.Tryd.underlying12,
    a12 := Go.Proofs.Tryd.isAgg12, z12 := Go.Proofs.Tryd.sizeOf12, v12 := Go.Proofs.Tryd.zeroValue12,
    t46 := Go.Proofs.Tryd.underlying70, a46 := Go.Proofs.Tryd.isAgg70, z46 := Go.Proofs.Tryd.sizeOf70,
    v46 := Go.Proofs.Tryd.zeroValue70, t53 := Go.Proofs.Tryd.underlying74, a53 := Go.Proofs.Tryd.isAgg74,
    z53 := Go.Proofs.Tryd.sizeOf74, v53 := Go.Proofs.Tryd.zeroValue74, t119 := Go.Proofs.Tryd.underlying91,
    a119 := Go.Proofs.Tryd.isAgg91, z119 := Go.Proofs.Tryd.sizeOf91, t138 := Go.Proofs.Tryd.underlying93,
    a138 := Go.Proofs.Tryd.isAgg93, z138 := Go.Proofs.Tryd.sizeOf93, v138 := Go.Proofs.Tryd.zeroValue93,
    t139 := Go.Proofs.Tryd.underlying94, a139 := Go.Proofs.Tryd.isAgg94, z139 := Go.Proofs.Tryd.sizeOf94,
    v139 := Go.Proofs.Tryd.zeroValue94, g3 := by kernel_rfl,
    g4 := by kernel_rfl }
def sh_c_ren : Go.Shelf.Ren :=
  {
    f := fun x =>
      match x with
      | 145 => 31
      | 220 => 50
      | 219 => 59
      | 217 => 68
      | 225 => 69
      | 224 => 70
      | 267 => 71
      | 266 => 81
      | 314 => 82
      | n => n,
    t := fun x =>
      match x with
      | 9 => 9
      | 4 => 4
      | 59 => 54
      | 3 => 3
      | 5 => 5
      | 46 => 70
      | 146 => 114
      | 51 => 76
      | n => n,
    g := fun x =>
      match x with
      | 1 => 2
      | n => n }
theorem sh_c : Go.Proofs.Lays.n145 Go.Proofs.Tryd.prog sh_c_ren :=
  { mixed := by kernel_rfl,
    f145 := Eq.trans Go.Proofs.Tryd.func31 (congrArg Option.some (Eq.refl (Go.Proofs.Body.n145 sh_c_ren))),
    f217 := Eq.trans Go.Proofs.Tryd.func68 (congrArg Option.some (Eq.refl (Go.Proofs.Body.n217 sh_c_ren))),
    f219 := Eq.trans Go.Proofs.Tryd.func59 (congrArg Option.some (Eq.refl (Go.Proofs.Body.n219 sh_c_ren))),
    f220 := Eq.trans Go.Proofs.Tryd.func50 (congrArg Option.some (Eq.refl (Go.Proofs.Body.n220 sh_c_ren))),
    f224 := Eq.trans Go.Proofs.Tryd.func70 (congrArg Option.some (Eq.refl (Go.Proofs.Body.n224 sh_c_ren))),
    f225 := Eq.trans Go.Proofs.Tryd.func69 (congrArg Option.some (Eq.refl (Go.Proofs.Body.n225 sh_c_ren))),
    f266 := Eq.trans Go.Proofs.Tryd.func81 (congrArg Option.some (Eq.refl (Go.Proofs.Body.n266 sh_c_ren))),
    f267 := Eq.trans Go.Proofs.Tryd.func71 (congrArg Option.some (Eq.refl (Go.Proofs.Body.n267 sh_c_ren))),
    f314 := Eq.trans Go.Proofs.Tryd.func82 (congrArg Option.some (Eq.refl (Go.Proofs.Body.n314 sh_c_ren))),
    t3 := Go.Proofs.Tryd.underlying3, a3 := Go.Proofs.Tryd.isAgg3, z3 := Go.Proofs.Tryd.sizeOf3,
    v3 := Go.Proofs.Tryd.zeroValue3, t4 := Go.Proofs.Tryd.underlying4, a4 := Go.Proofs.Tryd.isAgg4,
    z4 := Go.Proofs.Tryd.sizeOf4, v4 := Go.Proofs.Tryd.zeroValue4, t5 := Go.Proofs.Tryd.underlying5,
    a5 := Go.Proofs.Tryd.isAgg5, z5 := Go.Proofs.Tryd.sizeOf5, v5 := Go.Proofs.Tryd.zeroValue5,
    t9 := Go.Proofs.Tryd.underlying9, a9 := Go.Proofs.Tryd.isAgg9, z9 := Go.Proofs.Tryd.sizeOf9,
    v9 := Go.Proofs.Tryd.zeroValue9, t46 := Go.Proofs.Tryd.underlying70, a46 := Go.Proofs.Tryd.isAgg70,
    z46 := Go.Proofs.Tryd.sizeOf70, v46 := Go.Proofs.Tryd.zeroValue70, t51 := Go.Proofs.Tryd.underlying76,
    a51 := Go.Proofs.Tryd.isAgg76, z51 := Go.Proofs.Tryd.sizeOf76, v51 := Go.Proofs.Tryd.zeroValue76,
    t59 := Go.Proofs.Tryd.underlying54, a59 := Go.Proofs.Tryd.isAgg54, z59 := Go.Proofs.Tryd.sizeOf54,
    v59 := Go.Proofs.Tryd.zeroValue54, t146 := Go.Proofs.Tryd.underlying114, a146 := Go.Proofs.Tryd.isAgg114,
    z146 := Go.Proofs.Tryd.sizeOf114, v146 := Go.Proofs.Tryd.zeroValue114,
    g1 := by kernel_rfl }
def sh_s_ren : Go.Shelf.Ren :=
  {
    f := fun x =>
      match x with
      | 283 => 61
      | n => n,
    t := fun x =>
      match x with
      | 3 => 3
      | 9 => 9
      | 4 => 4
      | n => n,
    g := fun x =>
      have n := x;
      n }
theorem sh_s : Go.Proofs.Lays.n283 Go.Proofs.Tryd.prog sh_s_ren :=
  { mixed := by kernel_rfl,
    f283 := Eq.trans Go.Proofs.Tryd.func61 (congrArg Option.some (Eq.refl (Go.Proofs.Body.n283 sh_s_ren))),
    t3 := Go.Proofs.Tryd.underlying3, a3 := Go.Proofs.Tryd.isAgg3, z3 := Go.Proofs.Tryd.sizeOf3,
    v3 := Go.Proofs.Tryd.zeroValue3, t4 := Go.Proofs.Tryd.underlying4, a4 := Go.Proofs.Tryd.isAgg4,
    z4 := Go.Proofs.Tryd.sizeOf4, v4 := Go.Proofs.Tryd.zeroValue4, t9 := Go.Proofs.Tryd.underlying9,
    a9 := Go.Proofs.Tryd.isAgg9, z9 := Go.Proofs.Tryd.sizeOf9, v9 := Go.Proofs.Tryd.zeroValue9 }
def sh_d_ren : Go.Shelf.Ren :=
  {
    f := fun x =>
      match x with
      | 284 => 62
      | 129 => 73
      | 317 => 72
      | 318 => 74
      | n => n,
    t := fun x =>
      match x with
      | 53 => 74
      | 3 => 3
      | 212 => 110
      | 0 => 0
      | 4 => 4
      | 46 => 70
      | 5 => 5
      | 9 => 9
      | n => n,
    g := fun x =>
      match x with
      | 17 => 3
      | n => n }
theorem sh_d : Go.Proofs.LaysM.n284 Go.Proofs.Tryd.prog sh_d_ren :=
  { mixed := by kernel_rfl,
    f129 := Eq.trans Go.Proofs.Tryd.func73 (congrArg Option.some (Eq.refl (Go.Proofs.Body.n129 sh_d_ren))),
    f284 := Eq.trans Go.Proofs.Tryd.func62 (congrArg Option.some (Eq.refl (Go.Proofs.Body.n284 sh_d_ren))),
    f317 := Eq.trans Go.Proofs.Tryd.func72 (congrArg Option.some (Eq.refl (Go.Proofs.Body.n317 sh_d_ren))),
    f318 := Eq.trans Go.Proofs.Tryd.func74 (congrArg Option.some (Eq.refl (Go.Proofs.Body.n318 sh_d_ren))),
    t0 := Go.Proofs.Tryd.underlying0, a0 := Go.Proofs.Tryd.isAgg0, z0 := Go.Proofs.Tryd.sizeOf0,
    v0 := Go.Proofs.Tryd.zeroValue0, t3 := Go.Proofs.Tryd.underlying3, a3 := Go.Proofs.Tryd.isAgg3,
    z3 := Go.Proofs.Tryd.sizeOf3, v3 := Go.Proofs.Tryd.zeroValue3, t4 := Go.Proofs.Tryd.underlying4,
    a4 := Go.Proofs.Tryd.isAgg4, z4 := Go.Proofs.Tryd.sizeOf4, v4 := Go.Proofs.Tryd.zeroValue4,
    t5 := Go.Proofs.Tryd.underlying5, a5 := Go.Proofs.Tryd.isAgg5, z5 := Go.Proofs.Tryd.sizeOf5,
    v5 := Go.Proofs.Tryd.zeroValue5, t9 := Go.Proofs.Tryd.underlying9, a9 := Go.Proofs.Tryd.isAgg9,
    z9 := Go.Proofs.Tryd.sizeOf9, v9 := Go.Proofs.Tryd.zeroValue9, t46 := Go.Proofs.Tryd.underlying70,
    a46 := Go.Proofs.Tryd.isAgg70, z46 := Go.Proofs.Tryd.sizeOf70, v46 := Go.Proofs.Tryd.zeroValue70,
    t53 := Go.Proofs.Tryd.underlying74, a53 := Go.Proofs.Tryd.isAgg74, z53 := Go.Proofs.Tryd.sizeOf74,
    v53 := Go.Proofs.Tryd.zeroValue74, t212 := Go.Proofs.Tryd.underlying110, a212 := Go.Proofs.Tryd.isAgg110,
    z212 := Go.Proofs.Tryd.sizeOf110, v212 := Go.Proofs.Tryd.zeroValue110,
    g17 := by kernel_rfl,
    i0 := Eq.refl (Option.some (Option.some (Go.Value.tuple #[]), 1, 0)),
    i3 := Eq.refl (Option.some (Option.some (Go.Value.int Go.IntKind.i64 0), 1, 8)),
    i4 := Eq.refl (Option.some (Option.some (Go.Value.bool Bool.false), 1, 1)),
    i5 := Eq.refl (Option.some (Option.some (Go.Value.int Go.IntKind.u8 0), 1, 1)),
    i9 := Eq.refl (Option.some (Option.some (Go.Value.string { data := #[] }), 1, 16)),
    i46 := Eq.refl (Option.some (Option.some (Go.Value.int Go.IntKind.u64 0), 1, 8)),
    i53 := Eq.refl (Option.some (Option.some (Go.Value.int Go.IntKind.u64 0), 1, 8)),
    i212 :=
      Eq.refl
        (Option.some
          (Option.some
              (Go.Value.agg
                #[Go.Value.int Go.IntKind.u64 0, Go.Value.int Go.IntKind.u64 0, Go.Value.int Go.IntKind.u64 0,
                  Go.Value.int Go.IntKind.u64 0, Go.Value.int Go.IntKind.u64 0, Go.Value.int Go.IntKind.u64 0,
                  Go.Value.int Go.IntKind.u64 0, Go.Value.int Go.IntKind.u64 0, Go.Value.int Go.IntKind.u64 0,
                  Go.Value.int Go.IntKind.u64 0, Go.Value.int Go.IntKind.u64 0, Go.Value.int Go.IntKind.u64 0,
                  Go.Value.int Go.IntKind.u64 0, Go.Value.int Go.IntKind.u64 0, Go.Value.int Go.IntKind.u64 0,
                  Go.Value.int Go.IntKind.u64 0, Go.Value.int Go.IntKind.u64 0, Go.Value.int Go.IntKind.u64 0,
                  Go.Value.int Go.IntKind.u64 0, Go.Value.int Go.IntKind.u64 0]),
            20, 160)),
    m17 := by kernel_rfl }
def sh_b_ren : Go.Shelf.Ren :=
  {
    f := fun x =>
      match x with
      | 285 => 63
      | n => n,
    t := fun x =>
      match x with
      | 37 => 25
      | 53 => 74
      | 3 => 3
      | 4 => 4
      | 51 => 76
      | 9 => 9
      | 5 => 5
      | 0 => 0
      | n => n,
    g := fun x =>
      have n := x;
      n }
theorem sh_b : Go.Proofs.Lays.n285 Go.Proofs.Tryd.prog sh_b_ren :=
  { mixed := by kernel_rfl,
    f285 := Eq.trans Go.Proofs.Tryd.func63 (congrArg Option.some (Eq.refl (Go.Proofs.Body.n285 sh_b_ren))),
    t0 := Go.Proofs.Tryd.underlying0, a0 := Go.Proofs.Tryd.isAgg0, z0 := Go.Proofs.Tryd.sizeOf0,
    v0 := Go.Proofs.Tryd.zeroValue0, t3 := Go.Proofs.Tryd.underlying3, a3 := Go.Proofs.Tryd.isAgg3,
    z3 := Go.Proofs.Tryd.sizeOf3, v3 := Go.Proofs.Tryd.zeroValue3, t4 := Go.Proofs.Tryd.underlying4,
    a4 := Go.Proofs.Tryd.isAgg4, z4 := Go.Proofs.Tryd.sizeOf4, v4 := Go.Proofs.Tryd.zeroValue4,
    t5 := Go.Proofs.Tryd.underlying5, a5 := Go.Proofs.Tryd.isAgg5, z5 := Go.Proofs.Tryd.sizeOf5,
    v5 := Go.Proofs.Tryd.zeroValue5, t9 := Go.Proofs.Tryd.underlying9, a9 := Go.Proofs.Tryd.isAgg9,
    z9 := Go.Proofs.Tryd.sizeOf9, v9 := Go.Proofs.Tryd.zeroValue9, t37 := Go.Proofs.Tryd.underlying25,
    a37 := Go.Proofs.Tryd.isAgg25, z37 := Go.Proofs.Tryd.sizeOf25, v37 := Go.Proofs.Tryd.zeroValue25,
    t51 := Go.Proofs.Tryd.underlying76, a51 := Go.Proofs.Tryd.isAgg76, z51 := Go.Proofs.Tryd.sizeOf76,
    v51 := Go.Proofs.Tryd.zeroValue76, t53 := Go.Proofs.Tryd.underlying74, a53 := Go.Proofs.Tryd.isAgg74,
    z53 := Go.Proofs.Tryd.sizeOf74, v53 := Go.Proofs.Tryd.zeroValue74 }
end Go.Proofs.YtlomjmdgcpjepaaDoor
namespace Go.Proofs.YtlomjmdgcpjepaaDoor
open Go Go.Vx Go.Ob Go.RowKit
set_option linter.all false
set_option maxRecDepth 4000
theorem zz (n j : Nat) : (bsv (List.replicate n 0))[j]? = if j < n then some (.int .u8 0) else none := by
  unfold bsv
  rw [List.map_replicate, List.getElem?_replicate]
  rfl
variable [W0]
structure BsAt (L : List Chunk) : Prop where
  ut : ∀ w, Vx.Holds w L → Lib.Utf8Tabs (sh_v_ren.g 3) (sh_v_ren.g 4) w
  mx : ∃ m, ∀ w, Vx.Holds w L → w.cell? ⟨(sh_c_ren.g 1), 0, none⟩ = some (.int .i64 m)
  pw : ∀ w, Vx.Holds w L → Lib.TabIs Tryd.prog w "internal/strconv.uint64pow10" .u64 Lib.pow10Tab
theorem BsAt.of {S L : List Chunk} (h : BsAt S) (hi : ∀ w, Vx.Holds w L → Vx.Holds w S) : BsAt L :=
  ⟨fun w hw => h.ut w (hi w hw), h.mx.imp fun m hm w hw => hm w (hi w hw), fun w hw => h.pw w (hi w hw)⟩
theorem BsAt.inc {S L : List Chunk} (h : BsAt S) (hi : Inc S L) : BsAt L := h.of fun w hw => hi.holds hw
theorem BsAt.there {L : List Chunk} {C : Chunk} (h : BsAt L) : BsAt (C :: L) := h.of fun w hw => hw.drop
theorem GvP.of_below {P : Program} {f : FuncId} {args : Array Value} {L : List Chunk} {v : Value} (h : ∀ w, Vx.Holds w L → Calls P f args w fun e w' => e = .returned v ∧ Below w.heap.size w w') : GvP P f args L v :=
  ⟨fun w hw => (h w hw).mono fun e w' he => ⟨v, L, he.1, ⟨rfl, rfl⟩, hw.1, fun x hx => by rw [he.2.block _ (hw.lt hx)]; exact hw.2.1 x hx, he.2.os.trans hw.2.2.1, he.2.output.trans hw.2.2.2⟩⟩
theorem below_drewN (w : World) (n : Nat) : Below w.heap.size w (w.drewN n) := ⟨rfl, rfl, rfl, Nat.le_refl _, fun _ _ => rfl⟩
theorem valid_n (t : List UInt8) (L : List Chunk) (hb : BsAt L) (hl : t.length ≤ 9223372036854775807) : GvP Tryd.prog 51 [.string (str t)].toArray L (.bool (Lib.validD t)) :=
  GvP.of_below fun w hw => Any.utf8_ValidString sh_v (str t) w hl (hb.ut w hw)
theorem cut_n (s sep : List UInt8) (L : List Chunk) (hb : BsAt L) (hl : s.length < 4294967281) :
    GvP Tryd.prog 31 [.string (str s), .string (str sep)].toArray L (.tuple #[.string (str (Lib.cut s sep).1), .string (str (Lib.cut s sep).2.1), .bool (Lib.cut s sep).2.2]) := by
  obtain ⟨m, hm⟩ := hb.mx
  refine GvP.of_below fun w hw => (Any.strings_Cut sh_c (str s) (str sep) m w hl (hm w hw)).mono ?_
  rintro e w' ⟨rfl, n, rfl⟩
  exact ⟨rfl, below_drewN w n⟩
theorem small_n (i : Nat) (L : List Chunk) (h : i < 100) : GvP Tryd.prog 61 [.int .i64 (i : Int)].toArray L (.string (str (Lib.decDigits i))) :=
  GvP.of_below fun w hw => (Any.internal_strconv_small sh_s i h w).mono (by rintro e w' ⟨rfl, rfl⟩; exact ⟨rfl, Below.refl _ _⟩)
theorem numdigits_n (u : Nat) (L : List Chunk) (hb : BsAt L) (h1 : 1 ≤ u) (h2 : u < 18446744073709551616) : GvP Tryd.prog 62 [.int .u64 (u : Int)].toArray L (.int .i64 (Lib.nDigits u : Int)) :=
  GvP.of_below fun w hw => (Any.internal_strconv_numDigits sh_d u h1 h2 w (hb.pw w hw)).mono (by rintro e w' ⟨rfl, rfl⟩; exact ⟨rfl, Below.refl _ _⟩)
theorem numdigits_le {u : Nat} (h1 : 1 ≤ u) (h2 : u < 18446744073709551616) : Lib.nDigits u ≤ 20 := by
  have := Lib.numDigits_eq u h1 h2
  split at this <;> omega
theorem fmt_n (b T u : Nat) (L : List Chunk) (h1 : 1 ≤ u) (h2 : u < 18446744073709551616) :
    Gv Tryd.prog 63 [.slice (some ⟨b, 0, none⟩) (Lib.nDigits u) 24, .int .u64 (u : Int)].toArray ([(b, cl (bsv (List.replicate 24 0)) T)] :: L)
      (fun r L' => r = .tuple #[] ∧ ∃ rest, rest.length = 24 - Lib.nDigits u ∧ L' = [(b, cl (bsv (Lib.decDigits u) ++ rest) T)] :: L) := ⟨fun w hw => by
  have hnd := numdigits_le h1 h2
  have hf : w.heap[b]? = some (cl (bsv (List.replicate 24 0)) T) := (Fnd.here : Fnd ([(b, _)] :: L) b _).get hw
  have hH : Sort.Holds (fun (b : UInt8) => Value.int .u8 (b.toNat : Int)) w b 0 (Array.replicate (Lib.nDigits u) (0 : UInt8)) := fun j hj => by
    have hj' : j < Lib.nDigits u := by simpa using hj
    constructor
    · rw [Nat.zero_add, cell_of hf, getElem!_pos _ j hj, List.getElem?_toArray, zz, if_pos (by omega), Array.getElem_replicate]
      rfl
    · simp [World.frozen?, hf, cl]
  have hc := Any.internal_strconv_formatBase10 sh_b b 0 24 u (Array.replicate (Lib.nDigits u) 0) w hH (by rw [Array.size_replicate]; exact Lib.lt_pow_nDigits u) h2 (by rw [Array.size_replicate]; omega)
  rw [Array.size_replicate] at hc
  refine hc.mono ?_
  rintro e w' ⟨rfl, n, v', dk, rfl, hF⟩
  have hsz : dk.size = Lib.nDigits u := hF.size
  have hdk : dk.toList = Lib.decDigits u := by
    refine List.ext_getElem (by rw [Array.length_toList, hsz, Lib.decDigits_length]) fun j hj1 hj2 => ?_
    rw [Lib.row_is_numeral hF j hj2, getElem!_pos _ j (by simpa using hj1)]
    rfl
  have hrow : Sort.putCells (fun (b : UInt8) => Value.int .u8 (b.toNat : Int)) 0 dk (bsv (List.replicate 24 0)).toArray = (bsv (Lib.decDigits u) ++ bsv (List.replicate (24 - Lib.nDigits u) 0)).toArray := by
    apply Array.ext'
    rw [← hdk]
    refine List.ext_getElem? fun j => ?_
    unfold Sort.putCells
    simp only [Array.getElem?_toList, Array.getElem?_mapIdx, List.getElem?_toArray, List.toList_toArray]
    rw [zz]
    rcases Nat.lt_or_ge j dk.size with h | h
    · rw [List.getElem?_append_left (by simpa [bsv] using h), if_pos (by omega)]
      simp [bsv, h, Array.getElem?_eq_getElem h]
    · rw [List.getElem?_append_right (by simpa [bsv] using h), zz]
      have hl : (bsv dk.toList).length = dk.size := by simp [bsv]
      rw [hl]
      rcases Nat.lt_or_ge j 24 with h' | h'
      · rw [if_pos h', if_pos (by omega), Option.map_some, if_neg (by omega)]
      · rw [if_neg (by omega), if_neg (by omega)]
        rfl
  refine ⟨.tuple #[], _, rfl, ⟨rfl, bsv (List.replicate (24 - Lib.nDigits u) 0), by simp [bsv], rfl⟩, hw.upd .here ?_ ?_ rfl rfl⟩
  · show (w.heap.modify b _)[b]? = _
    rw [Array.getElem?_modify, if_pos rfl, hf]
    show some (Obj.cells _ _ _) = _
    rw [hrow]
    rfl
  · intro c hc
    show (w.heap.modify b _)[c]? = _
    rw [Array.getElem?_modify, if_neg (Ne.symm hc)]⟩
end Go.Proofs.YtlomjmdgcpjepaaDoor
namespace Go.Vx
open Go
set_option linter.all false
variable [W0]
section
variable {P : Program} {n : Nat} {Q : Exit → Act → World → Prop} {M : List (Nat × Value)} {L : List Chunk} {K : List (Nat × Value) → List Chunk → Prop}
variable {d : Nat} {ty : TypeId} {ps : String} {af : Array Edge} {g : Option (Nat × Bool)} {x y : Operand} {v : Value}
theorem EV_quoN {t u : TypeId} {i j : Int} (a b : Nat) (hx : ev M x = some (.int .i64 i)) (hy : ev M y = some (.int .i64 j)) (hi : i = (a : Int)) (hj : j = (b : Int)) (hb : b ≠ 0) (ha : a ≤ 9223372036854775807) :
    EV P n ⟨some d, .binOp .quo t x y u, ty, ps, af, g⟩ M L d (.int .i64 ((a / b : Nat) : Int)) := by
  subst hi hj
  have := EV_quo (P := P) (n := n) (L := L) (d := d) (ty := ty) (ps := ps) (af := af) (g := g) (t := t) (u := u) hx hy (by omega)
  have e : IntKind.i64.wrap (((a : Nat) : Int).tdiv (b : Int)) = ((a / b : Nat) : Int) := by
    rw [Int.tdiv_eq_ediv_of_nonneg (by omega), ← Int.natCast_ediv]
    have : a / b ≤ a := Nat.div_le_self _ _
    generalize a / b = q at *
    exact wrap_i64 (by omega) (by omega)
  rwa [e] at this
theorem EV_remN {t u : TypeId} {k : IntKind} {i j : Int} (a b : Nat) (hx : ev M x = some (.int k i)) (hy : ev M y = some (.int k j)) (hi : i = (a : Int)) (hj : j = (b : Int)) (hb : b ≠ 0) :
    EV P n ⟨some d, .binOp .rem t x y u, ty, ps, af, g⟩ M L d (.int k ((a % b : Nat) : Int)) := by
  subst hi hj
  have := EV_rem (P := P) (n := n) (L := L) (d := d) (ty := ty) (ps := ps) (af := af) (g := g) (t := t) (u := u) hx hy (by omega)
  have e : ((a : Nat) : Int).tmod (b : Int) = ((a % b : Nat) : Int) := by
    rw [Int.tmod_eq_emod_of_nonneg (by omega), Int.natCast_emod]
  rwa [e] at this
end
omit [W0] in
def val : List UInt8 → Nat
  | [] => 0
  | b :: r => b.toNat + 256 * val r
end Go.Vx
namespace Go.Proofs.YtlomjmdgcpjepaaDoor
open Go Go.Vx Go.Ob
set_option linter.all false
variable [W0]
set_option maxRecDepth 4000
omit [W0] in
theorem dgF_eq : ∀ (f n : Nat), n < 10 ^ (f + 1) → dgF (f + 1) n = Lib.decDigits n
  | 0, n, h => by
    unfold dgF
    rw [if_pos (by simpa using h), Lib.decDigits_one (by simpa using h)]
  | f + 1, n, h => by
    rw [Lib.decDigits]
    unfold dgF
    split
    · rfl
    · rw [dgF_eq f (n / 10) (by rw [Nat.pow_succ] at h; omega)]
omit [W0] in
theorem dgL_eq {n : Nat} (h : n < 100000000000000000000) : dgL n = Lib.decDigits n := dgF_eq 19 n h
theorem numdigits_lt (u : Nat) (h : u < 18446744073709551616) : Lib.nDigits u ≤ 20 := by
  rcases Nat.eq_zero_or_pos u with rfl | h1
  · rw [Lib.nDigits_small (by decide)]; decide
  · exact numdigits_le h1 h
theorem appenduint_n (u m : Nat) (v : Value) (xs : List Value) (C : Chunk) (L : List Chunk) (hb : BsAt L) (h : OwG 5 v m xs C) (hm : m ≤ 1000000) (hu : u < 18446744073709551616) :
    Gv Tryd.prog 55 [v, .int .u64 (u : Int), .int .i64 10].toArray (C :: L) (fun r L' => ∃ C', OwG 5 r (m + (Lib.decDigits u).length) (xs ++ bsv (Lib.decDigits u)) C' ∧ L' = C' :: L) := by
  refine Gv.of_body (args := [v, .int .u64 (u : Int), .int .i64 10]) Tryd.func55 rfl rfl ?_
  (repeat' first|refine kW ?_|refine kU fun bk=>?_|refine kV fun hc=>?_|refine kZ (fun hc=>?_) fun hc=>?_|fail)
  · refine OW_callP rfl rfl rfl (small_n u _ (by omega)) rfl ?_
    (repeat' first|refine kW ?_|refine kU fun bk=>?_|refine kV fun hc=>?_|refine kZ (fun hc=>?_) fun hc=>?_|fail)
    refine OW_appGS rfl rfl h (by repeat (first | exact Zip.here _ | apply Zip.there)) (by rw [str_size, Lib.decDigits_length]; have := numdigits_lt u hu; omega) (by rw [str_size, Lib.decDigits_length]; have := numdigits_lt u hu; unfold maxLen; omega) rfl (fun v' C' ho => ?_)
    (repeat' first|refine kW ?_|refine kU fun bk=>?_|refine kV fun hc=>?_|refine kZ (fun hc=>?_) fun hc=>?_|fail)
    refine kR ?_
    exact ⟨_, iC, C', ho, rfl⟩
  · refine OW_callP rfl rfl rfl (numdigits_n u _ hb.there.there (by omega) hu) rfl ?_
    (repeat' first|refine kW ?_|refine kU fun bk=>?_|refine kV fun hc=>?_|refine kZ (fun hc=>?_) fun hc=>?_|fail)
    have hnd := numdigits_le (by omega : 1 ≤ u) hu
    refine OW_EV (EV_sliceArr (l := 0) (h := Lib.nDigits u) rfl rfl rfl (Nat.zero_le _) (by omega) (by omega)) rfl ?_
    (repeat' first|refine kW ?_|refine kU fun bk=>?_|refine kV fun hc=>?_|refine kZ (fun hc=>?_) fun hc=>?_|fail)
    refine OW_call rfl rfl rfl (fmt_n _ _ u (C :: L) (by omega) hu) rfl (fun r L' hp => ?_)
    obtain ⟨rfl, rest, hrl, rfl⟩ := hp
    (repeat' first|refine kW ?_|refine kU fun bk=>?_|refine kV fun hc=>?_|refine kZ (fun hc=>?_) fun hc=>?_|fail)
    refine OW_EV (EV_sliceArr (l := 0) (h := Lib.nDigits u) rfl rfl rfl (Nat.zero_le _) (by omega) (by omega)) rfl ?_
    (repeat' first|refine kW ?_|refine kU fun bk=>?_|refine kV fun hc=>?_|refine kZ (fun hc=>?_) fun hc=>?_|fail)
    have hdl := Lib.decDigits_length u
    refine OW_appG rfl rfl h (sl_cells (xs := bsv (Lib.decDigits u)) (m := Lib.nDigits u) Fnd.here (by rw [bsv_length, hdl]; omega) (by simp)) (by repeat (first | exact Zip.here _ | apply Zip.there)) (by rfl) bsv_ones (by omega) (by unfold maxLen; omega) rfl (fun v' C' ho => ?_)
    (repeat' first|refine kW ?_|refine kU fun bk=>?_|refine kV fun hc=>?_|refine kZ (fun hc=>?_) fun hc=>?_|fail)
    refine kR ?_
    rw [← hdl] at ho
    exact ⟨_, iC, C', ho, rfl⟩
theorem appendint_n (i m : Nat) (v : Value) (xs : List Value) (C : Chunk) (L : List Chunk) (hb : BsAt L) (h : OwG 5 v m xs C) (hm : m ≤ 1000000) (hu : i ≤ 9223372036854775807) :
    Gv Tryd.prog 23 [v, .int .i64 (i : Int), .int .i64 10].toArray (C :: L) (fun r L' => ∃ C', OwG 5 r (m + (Lib.decDigits i).length) (xs ++ bsv (Lib.decDigits i)) C' ∧ L' = C' :: L) := by
  refine Gv.of_body (args := [v, .int .i64 (i : Int), .int .i64 10]) Tryd.func23 rfl rfl ?_
  (repeat' first|refine kW ?_|refine kU fun bk=>?_|refine kV fun hc=>?_|refine kZ (fun hc=>?_) fun hc=>?_|fail)
  have hin : Gv Tryd.prog 42 [v, .int .i64 (i : Int), .int .i64 10].toArray (C :: L) (fun r L' => ∃ C', OwG 5 r (m + (Lib.decDigits i).length) (xs ++ bsv (Lib.decDigits i)) C' ∧ L' = C' :: L) := by
    refine Gv.of_body (args := [v, .int .i64 (i : Int), .int .i64 10]) Tryd.func42 rfl rfl ?_
    (repeat' first|refine kW ?_|refine kU fun bk=>?_|refine kV fun hc=>?_|refine kZ (fun hc=>?_) fun hc=>?_|fail)
    refine OW_call rfl rfl rfl (appenduint_n i m v xs C L hb h hm (by omega)) rfl (fun r L' hp => ?_)
    obtain ⟨C', ho, rfl⟩ := hp
    (repeat' first|refine kW ?_|refine kU fun bk=>?_|refine kV fun hc=>?_|refine kZ (fun hc=>?_) fun hc=>?_|fail)
    refine kR ?_
    exact ⟨_, iC, C', ho, rfl⟩
  refine OW_call rfl rfl rfl hin rfl (fun r L' hp => ?_)
  obtain ⟨C', ho, rfl⟩ := hp
  (repeat' first|refine kW ?_|refine kU fun bk=>?_|refine kV fun hc=>?_|refine kZ (fun hc=>?_) fun hc=>?_|fail)
  refine kR ?_
  exact ⟨_, iC, C', ho, rfl⟩
theorem header_n (k n : Int) (L : List Chunk) (hb : BsAt L) (hn : n ≤ 9223372036854775807) :
    Gv Tryd.prog 10 [.int .i64 k, .int .i64 n].toArray L (fun r L' => ∃ C, OwG 5 r (hdL k n).length (bsv (hdL k n)) C ∧ L' = C :: L) := by
  refine Gv.of_body (args := [.int .i64 k, .int .i64 n]) Tryd.func10 rfl rfl ?_
  (repeat' first|refine kW ?_|refine kU fun bk=>?_|refine kV fun hc=>?_|refine kZ (fun hc=>?_) fun hc=>?_|fail)
  refine OW_callP rfl rfl rfl (obname_n k _) rfl ?_
  (repeat' first|refine kW ?_|refine kU fun bk=>?_|refine kV fun hc=>?_|refine kZ (fun hc=>?_) fun hc=>?_|fail)
  have h6 := nmI_len k
  refine OW_convBytes rfl (by rw [str_size]; unfold maxLen; omega) rfl (fun v C ho => ?_)
  rw [str_size, str_data] at ho
  (repeat' first|refine kW ?_|refine kU fun bk=>?_|refine kV fun hc=>?_|refine kZ (fun hc=>?_) fun hc=>?_|fail)
  refine OW_buildSlice (cs := bsv [32]) rfl (by rfl) (by simp [fillL, patch, Value.cells, zeros]; rfl) (by omega) rfl rfl (fun b1 => ?_)
  (repeat' first|refine kW ?_|refine kU fun bk=>?_|refine kV fun hc=>?_|refine kZ (fun hc=>?_) fun hc=>?_|fail)
  refine OW_appG rfl rfl (OwG.f ho) (sl_cells (xs := bsv [32]) (m := 1) Fnd.here rfl (by simp)) (by repeat (first | exact Zip.here _ | apply Zip.there)) (by rfl) bsv_ones (by omega) (by unfold maxLen; omega) rfl (fun v1 C1 h1 => ?_)
  (repeat' first|refine kW ?_|refine kU fun bk=>?_|refine kV fun hc=>?_|refine kZ (fun hc=>?_) fun hc=>?_|fail)
  obtain ⟨i, hi⟩ : ∃ i : Nat, max n 0 = (i : Int) := ⟨(max n 0).toNat, by omega⟩
  rw [hi]
  have hi2 : i ≤ 9223372036854775807 := by omega
  refine OW_call rfl rfl rfl (Gv.take (appendint_n i _ v1 _ C1 _ (hb.there) h1 (by omega) hi2) (by repeat (first | exact Take.here | apply Take.there))) rfl (fun r L' hp => ?_)
  obtain ⟨C2, h2, rfl⟩ := hp
  (repeat' first|refine kW ?_|refine kU fun bk=>?_|refine kV fun hc=>?_|refine kZ (fun hc=>?_) fun hc=>?_|fail)
  refine OW_buildSlice (cs := bsv [0]) rfl (by rfl) (by simp [fillL, patch, Value.cells, zeros]; rfl) (by omega) rfl rfl (fun b2 => ?_)
  (repeat' first|refine kW ?_|refine kU fun bk=>?_|refine kV fun hc=>?_|refine kZ (fun hc=>?_) fun hc=>?_|fail)
  have hd := numdigits_lt i (by omega)
  rw [← Lib.decDigits_length] at hd
  refine OW_appG rfl rfl h2 (sl_cells (xs := bsv [0]) (m := 1) Fnd.here rfl (by simp)) (by repeat (first | exact Zip.here _ | apply Zip.there)) (by rfl) bsv_ones (by omega) (by unfold maxLen; omega) rfl (fun v3 C3 h3 => ?_)
  (repeat' first|refine kW ?_|refine kU fun bk=>?_|refine kV fun hc=>?_|refine kZ (fun hc=>?_) fun hc=>?_|fail)
  refine kR ?_
  have e : hdL k n = nmI k ++ [32] ++ Lib.decDigits i ++ [0] := by
    unfold hdL
    rw [hi, Int.toNat_natCast, dgL_eq (by omega)]
  refine ⟨C3 :: L, iC, C3, ?_, rfl⟩
  have e2 : (nmI k ++ [32] ++ Lib.decDigits i ++ [0]).length = (nmI k).length + 1 + (Lib.decDigits i).length + 1 := by simp only [List.length_append, List.length_cons, List.length_nil]
  rw [e, e2, bsv_append, bsv_append, bsv_append]
  exact h3
theorem hdL_len (k n : Int) (hn : n ≤ 9223372036854775807) : (hdL k n).length ≤ 28 := by
  have h6 := nmI_len k
  have hd := numdigits_lt (max n 0).toNat (by omega)
  rw [← Lib.decDigits_length] at hd
  unfold hdL
  rw [dgL_eq (by omega)]
  simp only [List.length_append, List.length_cons, List.length_nil]
  omega
theorem OwG.slc {e m : Nat} {v : Value} {xs : List Value} {C : Chunk} {L : List Chunk} (h : OwG e v m xs C) : SlC (C :: L) 1 v m xs := ⟨h.sl, h.room⟩
theorem id_n (k : Int) (v : Value) (t : List UInt8) (L : List Chunk) (hb : BsAt L) (ht : t.length ≤ 140737488351232) (hv : SlC L 1 v t.length (bsv t)) :
    GvP Tryd.prog 12 [.int .i64 k, v].toArray L (.string (str (idL k t))) := by
  obtain ⟨a, c, rfl, hac⟩ := hv.room
  refine Gv.of_body (args := [.int .i64 k, .slice a t.length c]) Tryd.func12 rfl rfl ?_
  (repeat' first|refine kW ?_|refine kU fun bk=>?_|refine kV fun hc=>?_|refine kZ (fun hc=>?_) fun hc=>?_|fail)
  refine OW_call rfl rfl rfl (header_n k t.length L hb (by omega)) rfl (fun r L' hp => ?_)
  obtain ⟨C, ho, rfl⟩ := hp
  have hl := hdL_len k t.length (by omega)
  (repeat' first|refine kW ?_|refine kU fun bk=>?_|refine kV fun hc=>?_|refine kZ (fun hc=>?_) fun hc=>?_|fail)
  refine OW_appG rfl rfl ho hv.there.sl (by repeat (first | exact Zip.here _ | apply Zip.there)) (by rfl) bsv_ones (by omega) (by unfold maxLen; omega) rfl (fun v1 C1 h1 => ?_)
  rw [← bsv_append, ← List.length_append] at h1
  (repeat' first|refine kW ?_|refine kU fun bk=>?_|refine kV fun hc=>?_|refine kZ (fun hc=>?_) fun hc=>?_|fail)
  refine OW_call rfl rfl rfl (sha1_n (hdL k t.length ++ t) v1 _ (by rw [List.length_append]; omega) (OwG.slc h1)) rfl (fun r L' hp => ?_)
  obtain ⟨C2, rfl, h2⟩ := hp
  (repeat' first|refine kW ?_|refine kU fun bk=>?_|refine kV fun hc=>?_|refine kZ (fun hc=>?_) fun hc=>?_|fail)
  refine OW_callP rfl rfl rfl (hex_n (shaN (hdL k t.length ++ t)) _ _ (by rw [shaN_length]; decide) (by rw [shaN_length]; exact SlC.ow h2)) rfl ?_
  (repeat' first|refine kW ?_|refine kU fun bk=>?_|refine kV fun hc=>?_|refine kZ (fun hc=>?_) fun hc=>?_|fail)
  exact kE
theorem hash_n (s : List UInt8) (L : List Chunk) (hs : s.length ≤ 9223372036854775807) : GvP Tryd.prog 14 [.string (str s)].toArray L (.bool (hshB s)) := by
  refine Gv.of_body Tryd.func14 rfl rfl ?_
  (repeat' first|refine kW ?_|refine kU fun bk=>?_|refine kV fun hc=>?_|refine kZ (fun hc=>?_) fun hc=>?_|fail)
  · rw [str_size] at hc
    refine kR ?_
    exact ⟨_, iC, by unfold hshB; rw [decide_eq_false (by omega)]; rfl, rfl⟩
  · rw [str_size] at hc
    refine OW_call rfl rfl rfl (unhex_n s L (by omega)) rfl (fun r L' hp => ?_)
    obtain ⟨v, C, rfl, rfl, ho⟩ := hp
    (repeat' first|refine kW ?_|refine kU fun bk=>?_|refine kV fun hc=>?_|refine kZ (fun hc=>?_) fun hc=>?_|fail)
    refine kR ?_
    exact ⟨L, iC, by unfold hshB; rw [decide_eq_true (by omega)]; rfl, rfl⟩
theorem refhash_n (s : List UInt8) (L : List Chunk) (hs : s.length ≤ 70368744177664) : GvP Tryd.prog 15 [.string (str s)].toArray L (.bool (hshB s)) := by
  refine Gv.of_body Tryd.func15 rfl rfl ?_
  (repeat' first|refine kW ?_|refine kU fun bk=>?_|refine kV fun hc=>?_|refine kZ (fun hc=>?_) fun hc=>?_|fail)
  refine OW_call rfl rfl rfl (refunhex_n s L hs) rfl (fun r L' hp => ?_)
  obtain ⟨v, C, rfl, rfl, ho⟩ := hp
  obtain ⟨a, c, rfl⟩ := ow_slc ho
  cases hu : unB s with
  | true =>
    have hl : (unL s).length = s.length / 2 := by unfold unL; rw [if_pos hu, outN_length]
    have hev : s.length % 2 = 0 := by
      rcases Nat.eq_zero_or_pos (s.length % 2) with h | h
      · exact h
      · rw [unB_odd (by omega)] at hu; exact absurd hu (by decide)
    (repeat' first|refine kW ?_|refine kU fun bk=>?_|refine kV fun hc=>?_|refine kZ (fun hc=>?_) fun hc=>?_|fail)
    refine kR ?_
    refine ⟨L, iC, ?_, rfl⟩
    unfold hshB
    rw [hu, Bool.and_true, hl]
    show Value.bool _ = Value.bool _
    congr 1
    rw [Bool.eq_iff_iff]
    simp
    omega
  | false =>
    (repeat' first|refine kW ?_|refine kU fun bk=>?_|refine kV fun hc=>?_|refine kZ (fun hc=>?_) fun hc=>?_|fail)
    refine kR ?_
    exact ⟨L, iC, by unfold hshB; rw [hu, Bool.and_false]; rfl, rfl⟩
theorem digits_n (n : Nat) (L : List Chunk) (hn : n ≤ 9223372036854775807) : GvP Tryd.prog 24 [.int .i64 (n : Int)].toArray L (.string (str (dgL n))) := by
  refine Gv.of_body Tryd.func24 rfl rfl ?_
  have hd := numdigits_lt n (by omega)
  rw [← Lib.decDigits_length] at hd
  have hby : ∀ a : Nat, a < 10 → IntKind.u8.wrap (48 + IntKind.u8.wrap (a : Int)) = ((UInt8.ofNat (48 + a)).toNat : Int) := fun a ha => by
    rw [wrap_u8, wrap_u8, UInt8.toNat_ofNat']; omega
  rw [dgL_eq (by omega)]
  (repeat' first|refine kW ?_|refine kU fun bk=>?_|refine kV fun hc=>?_|refine kZ (fun hc=>?_) fun hc=>?_|fail)
  refine WC_loop (X := Nat × List UInt8) (fun x => [(0, .int .i64 (x.1 : Int)), (3, .string (str x.2))]) (fun _ => L) (fun x => x.1 ≤ n ∧ Lib.decDigits x.1 ++ x.2 = Lib.decDigits n) (fun x => x.1) (n, []) ⟨Nat.le_refl _, by simp⟩ iS (fun w h => h) ?_
  intro x ⟨h1, h2⟩
  obtain ⟨k, s⟩ := x
  simp only at h1 h2 ⊢
  have hsl : (Lib.decDigits k).length + s.length ≤ 20 := by rw [← List.length_append, h2]; exact hd
  (repeat' first|refine kW ?_|refine kU fun bk=>?_|refine kV fun hc=>?_|refine kZ (fun hc=>?_) fun hc=>?_|fail)
  · refine OW_EV (EV_remN k 10 rfl rfl rfl rfl (by decide)) rfl ?_
    (repeat' first|refine kW ?_|refine kU fun bk=>?_|refine kV fun hc=>?_|refine kZ (fun hc=>?_) fun hc=>?_|fail)
    refine OW_EV (EV_ari rfl rfl rfl) rfl ?_
    obtain ⟨c, hcq⟩ : ∃ c, c = UInt8.ofNat (48 + k % 10) := ⟨_, rfl⟩
    rw [hby _ (by omega), ← hcq]
    (repeat' first|refine kW ?_|refine kU fun bk=>?_|refine kV fun hc=>?_|refine kZ (fun hc=>?_) fun hc=>?_|fail)
    refine OW_buildSlice (cs := bsv [c]) rfl (by rfl) (by simp [fillL, patch, Value.cells, zeros]; rfl) (by omega) rfl rfl (fun b1 => ?_)
    (repeat' first|refine kW ?_|refine kU fun bk=>?_|refine kV fun hc=>?_|refine kZ (fun hc=>?_) fun hc=>?_|fail)
    refine OW_EV (EV_convStr (b := [c]) (m := 1) rfl (sl_cells Fnd.here rfl (by simp))) rfl ?_
    (repeat' first|refine kW ?_|refine kU fun bk=>?_|refine kV fun hc=>?_|refine kZ (fun hc=>?_) fun hc=>?_|fail)
    refine OW_EV (EV_catL [c] s rfl rfl (by simp; omega)) rfl ?_
    (repeat' first|refine kW ?_|refine kU fun bk=>?_|refine kV fun hc=>?_|refine kZ (fun hc=>?_) fun hc=>?_|fail)
    refine OW_EV (EV_quoN k 10 rfl rfl rfl rfl (by decide) (by omega)) rfl ?_
    (repeat' first|refine kW ?_|refine kU fun bk=>?_|refine kV fun hc=>?_|refine kZ (fun hc=>?_) fun hc=>?_|fail)
    refine WQ_round (X := Nat × List UInt8) (μ := fun x => x.1) (x := (k, s)) (k / 10, [c] ++ s) (by simp only; omega) ⟨by simp only; omega, ?_⟩ iS (fun w h => iH h)
    rw [← h2]
    simp only [hcq]
    conv => rhs; rw [Lib.decDigits, dif_neg (by omega)]
    simp
  · refine OW_EV (EV_ari rfl rfl rfl) rfl ?_
    obtain ⟨c, hcq⟩ : ∃ c, c = UInt8.ofNat (48 + k) := ⟨_, rfl⟩
    rw [hby k (by omega), ← hcq]
    (repeat' first|refine kW ?_|refine kU fun bk=>?_|refine kV fun hc=>?_|refine kZ (fun hc=>?_) fun hc=>?_|fail)
    refine OW_buildSlice (cs := bsv [c]) rfl (by rfl) (by simp [fillL, patch, Value.cells, zeros]; rfl) (by omega) rfl rfl (fun b1 => ?_)
    (repeat' first|refine kW ?_|refine kU fun bk=>?_|refine kV fun hc=>?_|refine kZ (fun hc=>?_) fun hc=>?_|fail)
    refine OW_EV (EV_convStr (b := [c]) (m := 1) rfl (sl_cells Fnd.here rfl (by simp))) rfl ?_
    (repeat' first|refine kW ?_|refine kU fun bk=>?_|refine kV fun hc=>?_|refine kZ (fun hc=>?_) fun hc=>?_|fail)
    refine OW_EV (EV_catL [c] s rfl rfl (by simp; omega)) rfl ?_
    (repeat' first|refine kW ?_|refine kU fun bk=>?_|refine kV fun hc=>?_|refine kZ (fun hc=>?_) fun hc=>?_|fail)
    refine kR ?_
    refine ⟨L, iC, ?_, rfl⟩
    rw [← h2, Lib.decDigits_one (by omega), ← hcq]
    rfl
theorem refheader_n (k n : Int) (L : List Chunk) (hn : n ≤ 9223372036854775807) : GvP Tryd.prog 11 [.int .i64 k, .int .i64 n].toArray L (.string (str (hdL k n))) := by
  refine Gv.of_body (args := [.int .i64 k, .int .i64 n]) Tryd.func11 rfl rfl ?_
  (repeat' first|refine kW ?_|refine kU fun bk=>?_|refine kV fun hc=>?_|refine kZ (fun hc=>?_) fun hc=>?_|fail)
  have h6 := nmI_len k
  refine OW_callP rfl rfl rfl (refname_n k _) rfl ?_
  (repeat' first|refine kW ?_|refine kU fun bk=>?_|refine kV fun hc=>?_|refine kZ (fun hc=>?_) fun hc=>?_|fail)
  refine OW_EV (EV_catL (nmI k) [32] rfl rfl (by simp; omega)) rfl ?_
  (repeat' first|refine kW ?_|refine kU fun bk=>?_|refine kV fun hc=>?_|refine kZ (fun hc=>?_) fun hc=>?_|fail)
  obtain ⟨i, hi⟩ : ∃ i : Nat, max n 0 = (i : Int) := ⟨(max n 0).toNat, by omega⟩
  rw [hi]
  have hi2 : i ≤ 9223372036854775807 := by omega
  have hd := numdigits_lt i (by omega)
  rw [← Lib.decDigits_length, ← dgL_eq (by omega)] at hd
  refine OW_callP rfl rfl rfl (digits_n i _ hi2) rfl ?_
  (repeat' first|refine kW ?_|refine kU fun bk=>?_|refine kV fun hc=>?_|refine kZ (fun hc=>?_) fun hc=>?_|fail)
  refine OW_EV (EV_catL (nmI k ++ [32]) (dgL i) rfl rfl (by simp; omega)) rfl ?_
  (repeat' first|refine kW ?_|refine kU fun bk=>?_|refine kV fun hc=>?_|refine kZ (fun hc=>?_) fun hc=>?_|fail)
  refine OW_EV (EV_catL (nmI k ++ [32] ++ dgL i) [0] rfl rfl (by simp; omega)) rfl ?_
  (repeat' first|refine kW ?_|refine kU fun bk=>?_|refine kV fun hc=>?_|refine kZ (fun hc=>?_) fun hc=>?_|fail)
  refine kR ?_
  exact ⟨_, iC, by unfold hdL; rw [hi, Int.toNat_natCast]; rfl, rfl⟩
theorem refid_n (k : Int) (t : List UInt8) (L : List Chunk) (ht : t.length ≤ 140737488350000) : GvP Tryd.prog 13 [.int .i64 k, .string (str t)].toArray L (.string (str (idL k t))) := by
  refine Gv.of_body (args := [.int .i64 k, .string (str t)]) Tryd.func13 rfl rfl ?_
  (repeat' first|refine kW ?_|refine kU fun bk=>?_|refine kV fun hc=>?_|refine kZ (fun hc=>?_) fun hc=>?_|fail)
  refine OW_callP rfl rfl rfl (refheader_n k _ _ (by rw [str_size]; omega)) rfl ?_
  rw [str_size]
  have hl := hdL_len k t.length (by omega)
  (repeat' first|refine kW ?_|refine kU fun bk=>?_|refine kV fun hc=>?_|refine kZ (fun hc=>?_) fun hc=>?_|fail)
  refine OW_EV (EV_catL (hdL k t.length) t rfl rfl (by omega)) rfl ?_
  (repeat' first|refine kW ?_|refine kU fun bk=>?_|refine kV fun hc=>?_|refine kZ (fun hc=>?_) fun hc=>?_|fail)
  refine OW_call rfl rfl rfl (refsha_n (hdL k t.length ++ t) _ (by rw [List.length_append]; omega)) rfl (fun r L' hp => ?_)
  obtain ⟨C2, rfl, h2⟩ := hp
  (repeat' first|refine kW ?_|refine kU fun bk=>?_|refine kV fun hc=>?_|refine kZ (fun hc=>?_) fun hc=>?_|fail)
  refine OW_callP rfl rfl rfl (refhex_n (shaN (hdL k t.length ++ t)) _ _ (by rw [shaN_length]; decide) (by rw [shaN_length]; exact SlC.ow h2)) rfl ?_
  (repeat' first|refine kW ?_|refine kU fun bk=>?_|refine kV fun hc=>?_|refine kZ (fun hc=>?_) fun hc=>?_|fail)
  exact kE
end Go.Proofs.YtlomjmdgcpjepaaDoor
namespace Go.Proofs.YtlomjmdgcpjepaaDoor
open Go Go.Vx Go.Ob Go.Lib
set_option linter.all false
variable [W0]
set_option maxRecDepth 4000
theorem consists_n (p : Nat → Bool) (f : FuncId) [hbd : BD Tryd.prog f] (hp : ∀ (c : Nat) (L : List Chunk), GvP Tryd.prog f [.int .i32 (c : Int)].toArray L (.bool (p c))) (s : List UInt8) (L : List Chunk) (hb : BsAt L) (hs : s.length ≤ 9223372036854775807) :
    GvP Tryd.prog 32 [.string (str s), .func (.func f) #[] #[]].toArray L (.bool (consB p s)) := by
  refine Gv.of_body (args := [.string (str s), .func (.func f) #[] #[]]) Tryd.func32 rfl rfl ?_
  (repeat' first|refine kW ?_|refine kU fun bk=>?_|refine kV fun hc=>?_|refine kZ (fun hc=>?_) fun hc=>?_|fail)
  refine OW_rangeS rfl rfl (fun b => ?_)
  (repeat' first|refine kW ?_|refine kU fun bk=>?_|refine kV fun hc=>?_|refine kZ (fun hc=>?_) fun hc=>?_|fail)
  refine WC_loop (X := Nat) (fun x => [(0, .string (str s)), (1, .func (.func f) #[] #[]), (8, .pointer (some ⟨b, 0, none⟩))]) (fun x => [(b, .stringIter (str s) x)] :: L) (fun x => x ≤ s.length ∧ rall p (s.drop x) = rall p s) (fun x => s.length - x) 0 ⟨Nat.zero_le _, rfl⟩ iS (fun w h => h) ?_
  intro k ⟨h1, h2⟩
  by_cases hk : k < s.length
  · have hne : s.drop k ≠ [] := fun h => by have := congrArg List.length h; simp at this; omega
    have hst := rall_step p _ hne
    have hle := decodeL_le _ hne
    have hwd := decodeL_width (s.drop k)
    rw [List.length_drop] at hle
    rw [h2] at hst
    (repeat' first|refine kW ?_|refine kU fun bk=>?_|refine kV fun hc=>?_|refine kZ (fun hc=>?_) fun hc=>?_|fail)
    refine OW_nextS rfl (by rw [str_size]; exact hk) .here rfl ?_
    rw [str_dec]
    generalize (decodeL (s.drop k)).1 = c at *
    generalize (decodeL (s.drop k)).2 = wd at *
    (repeat' first|refine kW ?_|refine kU fun bk=>?_|refine kV fun hc=>?_|refine kZ (fun hc=>?_) fun hc=>?_|fail)
    refine OW_callP rfl rfl rfl (hp c _) rfl ?_
    cases hc : p c with
    | true =>
      rw [hc, Bool.true_and, List.drop_drop] at hst
      (repeat' first|refine kW ?_|refine kU fun bk=>?_|refine kV fun hc=>?_|refine kZ (fun hc=>?_) fun hc=>?_|fail)
      refine WQ_round (X := Nat) (μ := fun x => s.length - x) (x := k) (k + wd) (by omega) ⟨by omega, hst.symm⟩ iS (fun w h => h)
    | false =>
      rw [hc, Bool.false_and] at hst
      (repeat' first|refine kW ?_|refine kU fun bk=>?_|refine kV fun hc=>?_|refine kZ (fun hc=>?_) fun hc=>?_|fail)
      refine kR ?_
      exact ⟨L, iC, by unfold consB; rw [hst]; rfl, rfl⟩
  · (repeat' first|refine kW ?_|refine kU fun bk=>?_|refine kV fun hc=>?_|refine kZ (fun hc=>?_) fun hc=>?_|fail)
    refine OW_EV (EV_endS rfl Fnd.here (by rw [str_size]; exact hk)) rfl ?_
    (repeat' first|refine kW ?_|refine kU fun bk=>?_|refine kV fun hc=>?_|refine kZ (fun hc=>?_) fun hc=>?_|fail)
    refine OW_callP rfl rfl rfl (valid_n s _ hb.there hs) rfl ?_
    (repeat' first|refine kW ?_|refine kU fun bk=>?_|refine kV fun hc=>?_|refine kZ (fun hc=>?_) fun hc=>?_|fail)
    refine kR ?_
    rw [List.drop_eq_nil_of_le (by omega)] at h2
    exact ⟨L, iC, by unfold consB; rw [← h2]; rfl, rfl⟩
theorem inperson_n (c : Nat) (L : List Chunk) : GvP Tryd.prog 33 [.int .i32 (c : Int)].toArray L (.bool (inP c)) := by
  refine Gv.of_body Tryd.func33 rfl rfl ?_
  (repeat' first|refine kW ?_|refine kU fun bk=>?_|refine kV fun hc=>?_|refine kZ (fun hc=>?_) fun hc=>?_|fail)
  all_goals (refine kR ?_; refine ⟨L, iC, ?_, rfl⟩; unfold inP; show Value.bool _ = Value.bool _; congr 1; rw [Bool.eq_iff_iff]; simp; omega)
theorem isdigit_n (c : Nat) (L : List Chunk) : GvP Tryd.prog 52 [.int .i32 (c : Int)].toArray L (.bool (inD c)) := by
  refine Gv.of_body Tryd.func52 rfl rfl ?_
  (repeat' first|refine kW ?_|refine kU fun bk=>?_|refine kV fun hc=>?_|refine kZ (fun hc=>?_) fun hc=>?_|fail)
  all_goals (refine kR ?_; refine ⟨L, iC, ?_, rfl⟩; unfold inD; show Value.bool _ = Value.bool _; congr 1; rw [Bool.eq_iff_iff]; simp; omega)
omit [W0] in
theorem timB_cons (a : UInt8) (t : List UInt8) : timB (a :: t) = (decide (t.length ≤ 11) && (decide (t.length = 0) || decide (a.toNat ≠ 48)) && (a :: t).all (fun b => inD b.toNat)) := by
  unfold timB
  have q : a ≠ 48 ↔ a.toNat ≠ 48 := not_congr (UInt8.toNat_inj (a := a) (b := 48)).symm
  rw [decide_eq_true (show a :: t ≠ [] by simp), Bool.true_and]
  congr 2
  · rw [Bool.eq_iff_iff]; simp
  · congr 1
    · rw [Bool.eq_iff_iff]; simp
    · exact decide_eq_decide.2 q
theorem istime_n (s : List UInt8) (L : List Chunk) (hb : BsAt L) (hs : s.length ≤ 9223372036854775807) : GvP Tryd.prog 34 [.string (str s)].toArray L (.bool (timB s)) := by
  refine Gv.of_body Tryd.func34 rfl rfl ?_
  have hcs := consists_n inD _ isdigit_n s L hb hs
  rw [cons_lo inD inD_lo] at hcs
  cases s with
  | nil =>
    (repeat' first|refine kW ?_|refine kU fun bk=>?_|refine kV fun hc=>?_|refine kZ (fun hc=>?_) fun hc=>?_|fail)
    exact kE
  | cons a t =>
    have he : ¬ str (a :: t) = str [] := fun h => by have := str_inj.1 h; simp at this
    have hl : (str (a :: t)).size = t.length + 1 := by rw [str_size]; rfl
    rw [timB_cons]
    (repeat' first|refine kW ?_|refine kU fun bk=>?_|refine kV fun hc=>?_|refine kZ (fun hc=>?_) fun hc=>?_|fail)
    · rw [hl] at hc
      refine kR ?_
      exact ⟨L, iC, by rw [decide_eq_false (by omega)]; rfl, rfl⟩
    · refine OW_EV (EV_indexStr (j := 0) (u := a) rfl rfl rfl (str_get (t := a :: t) (by simp))) rfl ?_
      have h1 := hc
      rename_i h12
      rw [hl] at h12 h1
      (repeat' first|refine kW ?_|refine kU fun bk=>?_|refine kV fun hc=>?_|refine kZ (fun hc=>?_) fun hc=>?_|fail)
      · refine kR ?_
        exact ⟨L, iC, by rw [decide_eq_false (p := t.length = 0) (by omega), decide_eq_false (p := a.toNat ≠ 48) (by omega), Bool.or_self, Bool.and_false, Bool.false_and]; rfl, rfl⟩
      · refine OW_callP rfl rfl rfl hcs rfl ?_
        (repeat' first|refine kW ?_|refine kU fun bk=>?_|refine kV fun hc=>?_|refine kZ (fun hc=>?_) fun hc=>?_|fail)
        refine kR ?_
        exact ⟨L, iC, by rw [decide_eq_true (p := t.length ≤ 11) (by omega), decide_eq_true (p := a.toNat ≠ 48) (by omega), Bool.or_true]; rfl, rfl⟩
    · rename_i h12 
      rw [hl] at h12 hc
      refine OW_callP rfl rfl rfl hcs rfl ?_
      (repeat' first|refine kW ?_|refine kU fun bk=>?_|refine kV fun hc=>?_|refine kZ (fun hc=>?_) fun hc=>?_|fail)
      refine kR ?_
      exact ⟨L, iC, by rw [decide_eq_true (p := t.length ≤ 11) (by omega), decide_eq_true (p := t.length = 0) (by omega)]; rfl, rfl⟩
theorem iszone_n (s : List UInt8) (L : List Chunk) (hb : BsAt L) (hs : s.length ≤ 9223372036854775807) : GvP Tryd.prog 35 [.string (str s)].toArray L (.bool (zonB s)) := by
  refine Gv.of_body Tryd.func35 rfl rfl ?_
  by_cases h5 : s.length = 5
  · match s, h5 with
    | [c0, c1, c2, c3, c4], _ =>
      have hcs := consists_n inD _ isdigit_n [c1, c2, c3, c4] L hb (by simp)
      rw [cons_lo inD inD_lo] at hcs
      have q43 : c0 = 43 ↔ c0.toNat = 43 := (UInt8.toNat_inj (a := c0) (b := 43)).symm
      have q45 : c0 = 45 ↔ c0.toNat = 45 := (UInt8.toNat_inj (a := c0) (b := 45)).symm
      have hz : zonB [c0, c1, c2, c3, c4] = ((decide (c0.toNat = 43) || decide (c0.toNat = 45)) && [c1, c2, c3, c4].all (fun b => inD b.toNat)) := by
        unfold zonB
        rw [decide_eq_true (show [c0, c1, c2, c3, c4].length = 5 from rfl), Bool.true_and]
        show ((decide (c0 = 43) || decide (c0 = 45)) && _) = _
        rw [decide_eq_decide.2 q43, decide_eq_decide.2 q45]
        rfl
      have hl : (str [c0, c1, c2, c3, c4]).size = 5 := rfl
      rw [hz]
      (repeat' first|refine kW ?_|refine kU fun bk=>?_|refine kV fun hc=>?_|refine kZ (fun hc=>?_) fun hc=>?_|fail)
      refine OW_EV (EV_indexStr (j := 0) (u := c0) rfl rfl rfl (str_get (t := [c0, c1, c2, c3, c4]) (by simp))) rfl ?_
      (repeat' first|refine kW ?_|refine kU fun bk=>?_|refine kV fun hc=>?_|refine kZ (fun hc=>?_) fun hc=>?_|fail)
      · refine OW_EV (EV_cutL [c0, c1, c2, c3, c4] 1 5 rfl rfl rfl (by decide) (Nat.le_refl 5)) rfl ?_
        (repeat' first|refine kW ?_|refine kU fun bk=>?_|refine kV fun hc=>?_|refine kZ (fun hc=>?_) fun hc=>?_|fail)
        refine OW_callP rfl rfl rfl hcs rfl ?_
        (repeat' first|refine kW ?_|refine kU fun bk=>?_|refine kV fun hc=>?_|refine kZ (fun hc=>?_) fun hc=>?_|fail)
        refine kR ?_
        exact ⟨L, iC, by rw [decide_eq_true (p := c0.toNat = 43) (by omega)]; rfl, rfl⟩
      · refine OW_EV (EV_indexStr (j := 0) (u := c0) rfl rfl rfl (str_get (t := [c0, c1, c2, c3, c4]) (by simp))) rfl ?_
        (repeat' first|refine kW ?_|refine kU fun bk=>?_|refine kV fun hc=>?_|refine kZ (fun hc=>?_) fun hc=>?_|fail)
        · refine OW_EV (EV_cutL [c0, c1, c2, c3, c4] 1 5 rfl rfl rfl (by decide) (Nat.le_refl 5)) rfl ?_
          (repeat' first|refine kW ?_|refine kU fun bk=>?_|refine kV fun hc=>?_|refine kZ (fun hc=>?_) fun hc=>?_|fail)
          refine OW_callP rfl rfl rfl hcs rfl ?_
          (repeat' first|refine kW ?_|refine kU fun bk=>?_|refine kV fun hc=>?_|refine kZ (fun hc=>?_) fun hc=>?_|fail)
          refine kR ?_
          exact ⟨L, iC, by rw [decide_eq_true (p := c0.toNat = 45) (by omega), Bool.or_true]; rfl, rfl⟩
        · rename_i h43
          refine kR ?_
          exact ⟨L, iC, by rw [decide_eq_false (p := c0.toNat = 43) (by omega), decide_eq_false (p := c0.toNat = 45) (by omega)]; rfl, rfl⟩
  · have h6 : ¬ ((str s).size : Int) = 5 := by rw [str_size]; omega
    (repeat' first|refine kW ?_|refine kU fun bk=>?_|refine kV fun hc=>?_|refine kZ (fun hc=>?_) fun hc=>?_|fail)
    refine kR ?_
    exact ⟨L, iC, by unfold zonB; rw [decide_eq_false h5]; rfl, rfl⟩
omit [W0] in
theorem index_ge : ∀ s sub : List UInt8, -1 ≤ Lib.index s sub
  | [], sub => by unfold Lib.index; split <;> decide
  | x :: t, sub => by
    have := index_ge t sub
    unfold Lib.index
    split
    · decide
    · split <;> omega
omit [W0] in
theorem cut_cons (x : UInt8) (t sep : List UInt8) : Lib.cut (x :: t) sep = if sep.isPrefixOf (x :: t) then ([], (x :: t).drop sep.length, true) else (x :: (Lib.cut t sep).1, (Lib.cut t sep).2.1, (Lib.cut t sep).2.2) := by
  have hge := index_ge t sep
  by_cases hp : sep.isPrefixOf (x :: t) = true
  · rw [if_pos hp]
    unfold Lib.cut
    rw [show Lib.index (x :: t) sep = 0 from by rw [Lib.index, if_pos hp]]
    rw [if_pos (by decide)]
    simp
  · rw [if_neg hp]
    rcases Int.lt_or_le (Lib.index t sep) 0 with h | h
    · have h1 : Lib.index t sep = -1 := by omega
      unfold Lib.cut
      rw [show Lib.index (x :: t) sep = -1 from by rw [Lib.index, if_neg hp, h1]; rfl, h1]
      simp
    · unfold Lib.cut
      rw [show Lib.index (x :: t) sep = Lib.index t sep + 1 from by rw [Lib.index, if_neg hp, if_neg (by simp; omega)]]
      obtain ⟨k, hk⟩ : ∃ k : Nat, Lib.index t sep = k := ⟨(Lib.index t sep).toNat, by omega⟩
      rw [hk, if_pos (by omega), if_pos (by omega)]
      simp [show ((k : Int) + 1).toNat = k + 1 from by omega, show k + 1 + sep.length = (k + sep.length) + 1 from by omega]
omit [W0] in
theorem cut_one (c : UInt8) : ∀ s : List UInt8, (Lib.cut s [c]).1 = (cutN c s).1 ∧ (Lib.cut s [c]).2.1 = (cutN c s).2
  | [] => by simp [Lib.cut, Lib.index, cutN]
  | x :: t => by
    obtain ⟨h1, h2⟩ := cut_one c t
    rw [cut_cons]
    unfold cutN
    by_cases h : x = c
    · subst h
      simp
    · rw [if_neg h, if_neg (by simp [List.isPrefixOf, Ne.symm h])]
      exact ⟨by rw [h1], h2⟩
omit [W0] in
theorem cut_two (a b : UInt8) : ∀ s : List UInt8, (Lib.cut s [a, b]).1 = (cutT a b s).1 ∧ (Lib.cut s [a, b]).2.1 = (cutT a b s).2
  | [] => by simp [Lib.cut, Lib.index, cutT]
  | x :: t => by
    obtain ⟨h1, h2⟩ := cut_two a b t
    rw [cut_cons]
    unfold cutT
    by_cases h : x = a ∧ t.head? = some b
    · obtain ⟨rfl, h⟩ := h
      cases t with
      | nil => simp at h
      | cons y t =>
        simp only [List.head?_cons, Option.some.injEq] at h
        subst h
        simp
    · rw [if_neg h, if_neg ?_]
      · exact ⟨by rw [h1], h2⟩
      · intro hh
        cases t with
        | nil => simp [List.isPrefixOf] at hh
        | cons y t =>
          simp only [List.isPrefixOf, Bool.and_eq_true, beq_iff_eq, Bool.and_true] at hh
          exact h ⟨hh.1.symm, by simp [hh.2]⟩
omit [W0] in
theorem cutT_len (a b : UInt8) (s : List UInt8) : (cutT a b s).1.length ≤ s.length ∧ (cutT a b s).2.length ≤ s.length := by
  rcases cutT_spec a b s with h | ⟨x, t, h1, h2⟩
  · rw [h]; simp
  · rw [h2, h1]; simp; omega
omit [W0] in
theorem cutN_len2 (c : UInt8) (s : List UInt8) : (cutN c s).1.length ≤ s.length ∧ (cutN c s).2.length ≤ s.length := by
  rcases cutN_spec c s with ⟨_, h⟩ | ⟨x, t, _, h1, h2⟩
  · rw [h]; simp
  · rw [h2, h1]; simp; omega
theorem person_n (s : List UInt8) (L : List Chunk) (hb : BsAt L) (hs : s.length < 4294967281) : GvP Tryd.prog 16 [.string (str s)].toArray L (.bool (perB s)) := by
  refine Gv.of_body Tryd.func16 rfl rfl ?_
  unfold perB
  simp only
  have l1 := cutT_len 32 60 s
  have l2 := cutT_len 62 32 (cutT 32 60 s).2
  have l3 := cutN_len2 32 (cutT 62 32 (cutT 32 60 s).2).2
  have c1 := cut_n s [32, 60] L hb hs
  rw [(cut_two 32 60 s).1, (cut_two 32 60 s).2] at c1
  have c2 := cut_n (cutT 32 60 s).2 [62, 32] L hb (by omega)
  rw [(cut_two 62 32 _).1, (cut_two 62 32 _).2] at c2
  have c3 := cut_n (cutT 62 32 (cutT 32 60 s).2).2 [32] L hb (by omega)
  rw [(cut_one 32 _).1, (cut_one 32 _).2] at c3
  have k1 := consists_n inP _ inperson_n (cutT 32 60 s).1 L hb (by omega)
  have k2 := consists_n inP _ inperson_n (cutT 62 32 (cutT 32 60 s).2).1 L hb (by omega)
  have k3 := istime_n (cutN 32 (cutT 62 32 (cutT 32 60 s).2).2).1 L hb (by omega)
  have k4 := iszone_n (cutN 32 (cutT 62 32 (cutT 32 60 s).2).2).2 L hb (by omega)
  generalize (Lib.cut s [32, 60]).2.2 = f1 at c1
  generalize (Lib.cut (cutT 32 60 s).2 [62, 32]).2.2 = f2 at c2
  generalize (Lib.cut (cutT 62 32 (cutT 32 60 s).2).2 [32]).2.2 = f3 at c3
  generalize (cutN 32 (cutT 62 32 (cutT 32 60 s).2).2).1 = q at *
  generalize (cutN 32 (cutT 62 32 (cutT 32 60 s).2).2).2 = z at *
  generalize (cutT 62 32 (cutT 32 60 s).2).1 = m at *
  generalize (cutT 62 32 (cutT 32 60 s).2).2 = r2 at *
  generalize (cutT 32 60 s).1 = n at *
  generalize (cutT 32 60 s).2 = r1 at *
  (repeat' first|refine kW ?_|refine kU fun bk=>?_|refine kV fun hc=>?_|refine kZ (fun hc=>?_) fun hc=>?_|fail)
  refine OW_callP rfl rfl rfl c1 rfl ?_
  (repeat' first|refine kW ?_|refine kU fun bk=>?_|refine kV fun hc=>?_|refine kZ (fun hc=>?_) fun hc=>?_|fail)
  refine OW_callP rfl rfl rfl c2 rfl ?_
  (repeat' first|refine kW ?_|refine kU fun bk=>?_|refine kV fun hc=>?_|refine kZ (fun hc=>?_) fun hc=>?_|fail)
  refine OW_callP rfl rfl rfl c3 rfl ?_
  (repeat' first|refine kW ?_|refine kU fun bk=>?_|refine kV fun hc=>?_|refine kZ (fun hc=>?_) fun hc=>?_|fail)
  refine OW_callP rfl rfl rfl k1 rfl ?_
  cases consB inP n with
  | false =>
    (repeat' first|refine kW ?_|refine kU fun bk=>?_|refine kV fun hc=>?_|refine kZ (fun hc=>?_) fun hc=>?_|fail)
    exact kE
  | true =>
    (repeat' first|refine kW ?_|refine kU fun bk=>?_|refine kV fun hc=>?_|refine kZ (fun hc=>?_) fun hc=>?_|fail)
    refine OW_callP rfl rfl rfl k2 rfl ?_
    cases consB inP m with
    | false =>
      (repeat' first|refine kW ?_|refine kU fun bk=>?_|refine kV fun hc=>?_|refine kZ (fun hc=>?_) fun hc=>?_|fail)
      exact kE
    | true =>
      (repeat' first|refine kW ?_|refine kU fun bk=>?_|refine kV fun hc=>?_|refine kZ (fun hc=>?_) fun hc=>?_|fail)
      refine OW_callP rfl rfl rfl k3 rfl ?_
      cases timB q with
      | false =>
        (repeat' first|refine kW ?_|refine kU fun bk=>?_|refine kV fun hc=>?_|refine kZ (fun hc=>?_) fun hc=>?_|fail)
        exact kE
      | true =>
        (repeat' first|refine kW ?_|refine kU fun bk=>?_|refine kV fun hc=>?_|refine kZ (fun hc=>?_) fun hc=>?_|fail)
        refine OW_callP rfl rfl rfl k4 rfl ?_
        cases zonB z with
        | false =>
          (repeat' first|refine kW ?_|refine kU fun bk=>?_|refine kV fun hc=>?_|refine kZ (fun hc=>?_) fun hc=>?_|fail)
          exact kE
        | true =>
          (repeat' first|refine kW ?_|refine kU fun bk=>?_|refine kV fun hc=>?_|refine kZ (fun hc=>?_) fun hc=>?_|fail)
          exact kE
end Go.Proofs.YtlomjmdgcpjepaaDoor
namespace Go.Proofs.YtlomjmdgcpjepaaDoor
open Go Go.Vx Go.Ob Go.Lib
set_option linter.all false
variable [W0]
set_option maxRecDepth 4000
omit [W0] in
theorem split_at' {s : List UInt8} {k : Nat} (h : k < s.length) : s = s.take k ++ s.getD k 0 :: s.drop (k + 1) := by
  have e : s.getD k 0 = s[k] := by simp [List.getD, h]
  rw [e, ← List.drop_eq_getElem_cons h, List.take_append_drop]
theorem refutf8_n (s : List UInt8) (L : List Chunk) (hs : s.length ≤ 9223372036854775000) : GvP Tryd.prog 53 [.string (str s)].toArray L (.bool (validD s)) := by
  refine Gv.of_body Tryd.func53 rfl rfl ?_
  (repeat' first|refine kW ?_|refine kU fun bk=>?_|refine kV fun hc=>?_|refine kZ (fun hc=>?_) fun hc=>?_|fail)
  refine OW_rangeS rfl rfl (fun b => ?_)
  (repeat' first|refine kW ?_|refine kU fun bk=>?_|refine kV fun hc=>?_|refine kZ (fun hc=>?_) fun hc=>?_|fail)
  refine WC_loop (X := Nat) (fun x => [(0, .string (str s)), (6, .pointer (some ⟨b, 0, none⟩))]) (fun x => [(b, .stringIter (str s) x)] :: L) (fun x => x ≤ s.length ∧ validD (s.drop x) = validD s) (fun x => s.length - x) 0 ⟨Nat.zero_le _, rfl⟩ iS (fun w h => h) ?_
  intro k ⟨h1, h2⟩
  have hsz : (str s).size = s.length := str_size s
  by_cases hk : k < s.length
  · have hne : s.drop k ≠ [] := fun h => by have := congrArg List.length h; simp at this; omega
    have hst := valid_step _ hne
    have hle := decodeL_le _ hne
    have hwd := decodeL_width (s.drop k)
    have hwr : wrongU (s.drop k) = (decide ((decodeL (s.drop k)).1 = 65533) && (decide (s.length - k < 3) || decide ((s.drop k).take 3 ≠ [239, 191, 189]))) := by unfold wrongU; rw [List.length_drop]
    rw [List.length_drop] at hle
    rw [h2, hwr] at hst
    clear hwr
    (repeat' first|refine kW ?_|refine kU fun bk=>?_|refine kV fun hc=>?_|refine kZ (fun hc=>?_) fun hc=>?_|fail)
    refine OW_nextS rfl (by rw [str_size]; exact hk) .here rfl ?_
    rw [str_dec]
    generalize (decodeL (s.drop k)).1 = c at *
    generalize (decodeL (s.drop k)).2 = wd at *
    have hgo : c ≠ 65533 ∨ (¬ s.length - k < 3 ∧ (s.drop k).take 3 = [239, 191, 189]) → validD s = validD (s.drop (k + wd)) := by
      intro h
      rw [List.drop_drop] at hst
      rw [hst]
      rcases h with h | ⟨h, h'⟩
      · rw [decide_eq_false h]; rfl
      · rw [decide_eq_false h, h']; simp
    have hno : c = 65533 → (s.length - k < 3 ∨ (s.drop k).take 3 ≠ [239, 191, 189]) → validD s = false := by
      intro h h'
      rw [hst, decide_eq_true h]
      rcases h' with h' | h'
      · rw [decide_eq_true h']; rfl
      · rw [decide_eq_true h']; simp
    clear hst
    (repeat' first|refine kW ?_|refine kU fun bk=>?_|refine kV fun hc=>?_|refine kZ (fun hc=>?_) fun hc=>?_|fail)
    · have h3 := hc
      rename_i h65
      rw [hsz] at h3
      refine kR ?_
      exact ⟨L, iC, by rw [hno (by omega) (.inl (by omega))]; rfl, rfl⟩
    · have h3 := hc
      rename_i h65
      rw [hsz] at h3
      refine OW_EV (EV_cutL s k (k + 3) rfl rfl (bnd_int rfl (by omega)) (by omega) (by omega)) rfl ?_
      rw [show k + 3 - k = 3 from by omega]
      (repeat' first|refine kW ?_|refine kU fun bk=>?_|refine kV fun hc=>?_|refine kZ (fun hc=>?_) fun hc=>?_|fail)
      · refine kR ?_
        exact ⟨L, iC, by rw [hno (by omega) (.inr fun h => hc (str_inj.2 h))]; rfl, rfl⟩
      · refine WQ_round (X := Nat) (μ := fun x => s.length - x) (x := k) (k + wd) (by omega) ⟨by omega, (hgo (.inr ⟨by omega, str_inj.1 hc⟩)).symm⟩ iS (fun w h => h)
    · refine WQ_round (X := Nat) (μ := fun x => s.length - x) (x := k) (k + wd) (by omega) ⟨by omega, (hgo (.inl (by omega))).symm⟩ iS (fun w h => h)
  · (repeat' first|refine kW ?_|refine kU fun bk=>?_|refine kV fun hc=>?_|refine kZ (fun hc=>?_) fun hc=>?_|fail)
    refine OW_EV (EV_endS rfl Fnd.here (by rw [str_size]; exact hk)) rfl ?_
    (repeat' first|refine kW ?_|refine kU fun bk=>?_|refine kV fun hc=>?_|refine kZ (fun hc=>?_) fun hc=>?_|fail)
    refine kR ?_
    rw [List.drop_eq_nil_of_le (by omega)] at h2
    exact ⟨L, iC, by rw [← h2]; rfl, rfl⟩
theorem refupto_n (s : List UInt8) (c : UInt8) (L : List Chunk) (hs : s.length ≤ 9223372036854775000) :
    GvP Tryd.prog 36 [.string (str s), .int .u8 (c.toNat : Int)].toArray L (match upL c s with | none => .tuple #[.string (str []), .string (str []), .bool false] | some (a, t) => .tuple #[.string (str a), .string (str t), .bool true]) := by
  refine Gv.of_body (args := [.string (str s), .int .u8 (c.toNat : Int)]) Tryd.func36 rfl rfl ?_
  have hsz : (str s).size = s.length := str_size s
  (repeat' first|refine kW ?_|refine kU fun bk=>?_|refine kV fun hc=>?_|refine kZ (fun hc=>?_) fun hc=>?_|fail)
  refine WC_loop (X := Nat) (fun x => [(0, .string (str s)), (1, .int .u8 (c.toNat : Int)), (7, .int .i64 (x : Int))]) (fun x => L) (fun x => x ≤ s.length ∧ c ∉ s.take x) (fun x => s.length - x) 0 ⟨Nat.zero_le _, by simp⟩ iS (fun w h => h) ?_
  intro k ⟨h1, h2⟩
  (repeat' first|refine kW ?_|refine kU fun bk=>?_|refine kV fun hc=>?_|refine kZ (fun hc=>?_) fun hc=>?_|fail)
  · rw [hsz] at hc
    have hk : k < s.length := by omega
    refine OW_EV (EV_indexStr (j := k) rfl rfl rfl (str_get hk)) rfl ?_
    obtain ⟨x, hx⟩ : ∃ x, x = s.getD k 0 := ⟨_, rfl⟩
    have hsp := split_at' hk
    rw [← hx] at hsp ⊢
    (repeat' first|refine kW ?_|refine kU fun bk=>?_|refine kV fun hc=>?_|refine kZ (fun hc=>?_) fun hc=>?_|fail)
    · have hxc : x = c := UInt8.toNat_inj.1 (by omega)
      subst hxc
      refine WC_drawAll [] mixed ?_
      (refine WR_t 0 ?_; refine WR_t 1 ?_)
      (refine WR_take 2 rfl rfl (by kernel_rfl) iP iC (EV_cutL s 0 k rfl rfl rfl (Nat.zero_le _) (by omega)) (by rfl) ?_)
      (refine WR_t 3 ?_; refine WR_t 4 ?_; refine WR_t 5 ?_)
      (refine WR_take 6 rfl rfl (by kernel_rfl) iP iC (EV_cutL s (k + 1) s.length rfl rfl rfl (by omega) (Nat.le_refl _)) (by rfl) ?_)
      (refine WR_t 7 ?_; refine WR_t 8 ?_; refine WR_t 9 ?_)
      (refine WR_done (by kernel_rfl) ?_)
      (repeat' first|refine kW ?_|refine kU fun bk=>?_|refine kV fun hc=>?_|refine kZ (fun hc=>?_) fun hc=>?_|fail)
      refine kR ?_
      refine ⟨L, iC, ?_, rfl⟩
      have e : upL x s = some (s.take k, s.drop (k + 1)) := by
        conv => lhs; rw [hsp]
        exact upL_app x _ _ h2
      rw [e]
      have e2 : List.take (s.length - (k + 1)) (List.drop (k + 1) s) = List.drop (k + 1) s := List.take_of_length_le (by simp)
      rw [e2]
      rfl
    · refine WQ_round (X := Nat) (μ := fun x => s.length - x) (x := k) (k + 1) (by omega) ⟨by omega, ?_⟩ iS (fun w h => h)
      rw [take_succ 0 hk, ← hx]
      simp only [List.mem_append, List.mem_singleton, not_or]
      exact ⟨h2, fun hh => hc (by rw [hh])⟩
  · rw [hsz] at hc
    refine kR ?_
    refine ⟨L, iC, ?_, rfl⟩
    rw [List.take_of_length_le (by omega)] at h2
    rw [upL_no c s h2]
    rfl
theorem refwithout_n (s bad : List UInt8) (L : List Chunk) (hs : s.length ≤ 9223372036854775000) (hbd : bad.length ≤ 1000) :
    GvP Tryd.prog 37 [.string (str s), .string (str bad)].toArray L (.bool (wthB bad s)) := by
  refine Gv.of_body (args := [.string (str s), .string (str bad)]) Tryd.func37 rfl rfl ?_
  have hsz : (str s).size = s.length := str_size s
  have hbz : (str bad).size = bad.length := str_size bad
  (repeat' first|refine kW ?_|refine kU fun bk=>?_|refine kV fun hc=>?_|refine kZ (fun hc=>?_) fun hc=>?_|fail)
  refine WC_loop (X := Nat) (fun x => [(0, .string (str s)), (1, .string (str bad)), (5, .int .i64 (x : Int))]) (fun x => L) (fun x => x ≤ s.length ∧ ∀ c ∈ s.take x, c ∉ bad) (fun x => s.length - x) 0 ⟨Nat.zero_le _, by simp⟩ iS (fun w h => h) ?_
  intro k ⟨h1, h2⟩
  (repeat' first|refine kW ?_|refine kU fun bk=>?_|refine kV fun hc=>?_|refine kZ (fun hc=>?_) fun hc=>?_|fail)
  · rw [hsz] at hc
    have hk : k < s.length := by omega
    obtain ⟨x, hx⟩ : ∃ x, x = s.getD k 0 := ⟨_, rfl⟩
    have hsp := split_at' hk
    rw [← hx] at hsp
    refine WC_loop (X := Nat) (fun j => [(0, .string (str s)), (1, .string (str bad)), (5, .int .i64 (k : Int)), (6, .int .i64 (j : Int))]) (fun j => L) (fun j => j ≤ bad.length ∧ x ∉ bad.take j) (fun j => bad.length - j) 0 ⟨Nat.zero_le _, by simp⟩ iS (fun w h => h) ?_
    intro j ⟨g1, g2⟩
    (repeat' first|refine kW ?_|refine kU fun bk=>?_|refine kV fun hc=>?_|refine kZ (fun hc=>?_) fun hc=>?_|fail)
    · rw [hbz] at hc
      have hj : j < bad.length := by omega
      obtain ⟨y, hy⟩ : ∃ y, y = bad.getD j 0 := ⟨_, rfl⟩
      have hsq := split_at' hj
      rw [← hy] at hsq
      refine WC_drawAll [] mixed ?_
      (refine WR_t 0 ?_; refine WR_t 1 ?_)
      (refine WR_take 2 rfl rfl (by kernel_rfl) iP iC (EV_indexStr (j := k) (u := x) rfl rfl rfl (by rw [hx]; exact str_get hk)) (by rfl) ?_)
      (refine WR_t 3 ?_; refine WR_t 4 ?_)
      (refine WR_take 5 rfl rfl (by kernel_rfl) iP iC (EV_indexStr (j := j) (u := y) rfl rfl rfl (by rw [hy]; exact str_get hj)) (by rfl) ?_)
      (refine WR_t 6 ?_)
      (refine WR_done (by kernel_rfl) ?_)
      (repeat' first|refine kW ?_|refine kU fun bk=>?_|refine kV fun hc=>?_|refine kZ (fun hc=>?_) fun hc=>?_|fail)
      · have hxy : x = y := UInt8.toNat_inj.1 (by omega)
        subst hxy
        refine kR ?_
        refine ⟨L, iC, ?_, rfl⟩
        have : wthB bad s = false := by
          rw [← Bool.not_eq_true, wth_iff]
          rintro ⟨q, _⟩
          exact q x (by rw [hsp]; simp) (by rw [hsq]; simp)
        rw [this]
        rfl
      · refine WQ_round (X := Nat) (μ := fun j => bad.length - j) (x := j) (j + 1) (by omega) ⟨by omega, ?_⟩ iS (fun w h => h)
        rw [take_succ 0 hj, ← hy]
        simp only [List.mem_append, List.mem_singleton, not_or]
        exact ⟨g2, fun hh => hc (by rw [hh])⟩
    · rw [hbz] at hc
      rw [List.take_of_length_le (by omega)] at g2
      refine WQ_round (X := Nat) (μ := fun x => s.length - x) (x := k) (k + 1) (by omega) ⟨by omega, ?_⟩ iS (fun w h => h)
      rw [take_succ 0 hk, ← hx]
      intro c hm
      simp only [List.mem_append, List.mem_singleton] at hm
      rcases hm with hm | rfl
      · exact h2 c hm
      · exact g2
  · rw [hsz] at hc
    rw [List.take_of_length_le (by omega)] at h2
    refine OW_callP rfl rfl rfl (refutf8_n s _ hs) rfl ?_
    (repeat' first|refine kW ?_|refine kU fun bk=>?_|refine kV fun hc=>?_|refine kZ (fun hc=>?_) fun hc=>?_|fail)
    refine kR ?_
    refine ⟨L, iC, ?_, rfl⟩
    have : wthB bad s = validD s := by
      unfold wthB
      rw [List.all_eq_true.2 (fun b hb => by simpa using h2 b hb), Bool.true_and]
    rw [this]
    rfl
theorem refnumber_n (s : List UInt8) (L : List Chunk) (hs : s.length ≤ 9223372036854775000) : GvP Tryd.prog 38 [.string (str s)].toArray L (.bool (numB s)) := by
  refine Gv.of_body Tryd.func38 rfl rfl ?_
  have hsz : (str s).size = s.length := str_size s
  (repeat' first|refine kW ?_|refine kU fun bk=>?_|refine kV fun hc=>?_|refine kZ (fun hc=>?_) fun hc=>?_|fail)
  refine WC_loop (X := Nat) (fun x => [(0, .string (str s)), (3, .int .i64 (x : Int))]) (fun x => L) (fun x => x ≤ s.length ∧ ∀ c ∈ s.take x, inD c.toNat = true) (fun x => s.length - x) 0 ⟨Nat.zero_le _, by simp⟩ iS (fun w h => h) ?_
  intro k ⟨h1, h2⟩
  (repeat' first|refine kW ?_|refine kU fun bk=>?_|refine kV fun hc=>?_|refine kZ (fun hc=>?_) fun hc=>?_|fail)
  · rw [hsz] at hc
    have hk : k < s.length := by omega
    obtain ⟨x, hx⟩ : ∃ x, x = s.getD k 0 := ⟨_, rfl⟩
    have hsp := split_at' hk
    rw [← hx] at hsp
    have hno : ¬ inD x.toNat = true → numB s = false := fun h => by
      unfold numB
      rw [show s.all (fun b => inD b.toNat) = false from by
        rw [← Bool.not_eq_true, List.all_eq_true]
        exact fun q => h (q x (by rw [hsp]; simp))]
      rfl
    refine OW_EV (EV_indexStr (j := k) (u := x) rfl rfl rfl (by rw [hx]; exact str_get hk)) rfl ?_
    (repeat' first|refine kW ?_|refine kU fun bk=>?_|refine kV fun hc=>?_|refine kZ (fun hc=>?_) fun hc=>?_|fail)
    · refine kR ?_
      exact ⟨L, iC, by rw [hno (by unfold inD; simp; omega)]; rfl, rfl⟩
    · refine OW_EV (EV_indexStr (j := k) (u := x) rfl rfl rfl (by rw [hx]; exact str_get hk)) rfl ?_
      have h48 := hc
      (repeat' first|refine kW ?_|refine kU fun bk=>?_|refine kV fun hc=>?_|refine kZ (fun hc=>?_) fun hc=>?_|fail)
      · refine kR ?_
        exact ⟨L, iC, by rw [hno (by unfold inD; simp; omega)]; rfl, rfl⟩
      · refine WQ_round (X := Nat) (μ := fun x => s.length - x) (x := k) (k + 1) (by omega) ⟨by omega, ?_⟩ iS (fun w h => h)
        rw [take_succ 0 hk, ← hx]
        intro c hm
        simp only [List.mem_append, List.mem_singleton] at hm
        rcases hm with hm | rfl
        · exact h2 c hm
        · unfold inD; simp; omega
  · rename_i hk hpos
    rw [hsz] at hk hpos hc
    rw [List.take_of_length_le (by omega)] at h2
    have hal : s.all (fun b => inD b.toNat) = true := List.all_eq_true.2 h2
    have hlen : s.length ≤ 12 := by omega
    unfold numB
    rw [hal, Bool.true_and, decide_eq_true (p := 0 < s.length) (by omega), decide_eq_true hlen, Bool.true_and, Bool.true_and]
    clear hc h2 hal
    obtain ⟨x, hx⟩ : ∃ x, x = s.getD 0 0 := ⟨_, rfl⟩
    have q48 : x = 48 ↔ x.toNat = 48 := (UInt8.toNat_inj (a := x) (b := 48)).symm
    rw [← hx]
    refine OW_EV (EV_indexStr (j := 0) (u := x) rfl rfl rfl (by rw [hx]; exact str_get (by omega))) rfl ?_
    (repeat' first|refine kW ?_|refine kU fun bk=>?_|refine kV fun hc=>?_|refine kZ (fun hc=>?_) fun hc=>?_|fail)
    · refine kR ?_
      refine ⟨L, iC, ?_, rfl⟩
      rw [decide_eq_true (p := x ≠ 48) (fun h => by have := q48.1 h; omega)]
      rfl
    · refine kR ?_
      refine ⟨L, iC, ?_, rfl⟩
      rw [decide_eq_false (p := x ≠ 48) (fun h => h (q48.2 (by omega)))]
      show Value.bool _ = Value.bool _
      congr 1
      rw [Bool.eq_iff_iff, hsz]
      simp
      omega
  · rename_i hk hpos
    rw [hsz] at hk hpos hc
    refine kR ?_
    refine ⟨L, iC, ?_, rfl⟩
    unfold numB
    rw [decide_eq_false (p := s.length ≤ 12) (by omega), Bool.and_false, Bool.false_and]
    rfl
  · rename_i hk
    rw [hsz] at hk hc
    refine kR ?_
    refine ⟨L, iC, ?_, rfl⟩
    unfold numB
    rw [decide_eq_false (p := 0 < s.length) (by omega), Bool.and_false, Bool.false_and, Bool.false_and]
    rfl
end Go.Proofs.YtlomjmdgcpjepaaDoor
namespace Go.Proofs.YtlomjmdgcpjepaaDoor
open Go Go.Vx Go.Ob Go.Lib
set_option linter.all false
variable [W0]
set_option maxRecDepth 4000
omit [W0] in
theorem zon_all (z : List UInt8) : zonB z = true ↔ z.length = 5 ∧ (z.getD 0 0 = 43 ∨ z.getD 0 0 = 45) ∧ ∀ j, 1 ≤ j → j < 5 → inD (z.getD j 0).toNat = true := by
  unfold zonB
  simp only [Bool.and_eq_true, Bool.or_eq_true, decide_eq_true_eq, and_assoc]
  refine and_congr_right fun h5 => and_congr_right fun _ => ?_
  match z, h5 with
  | [c0, c1, c2, c3, c4], _ =>
    simp only [List.drop_succ_cons, List.drop_zero, List.all_cons, List.all_nil, Bool.and_true, Bool.and_eq_true]
    constructor
    · rintro ⟨h1, h2, h3, h4⟩ j g1 g2
      match j, g1, g2 with
      | 1, _, _ => exact h1
      | 2, _, _ => exact h2
      | 3, _, _ => exact h3
      | 4, _, _ => exact h4
    · intro h
      exact ⟨h 1 (by decide) (by decide), h 2 (by decide) (by decide), h 3 (by decide) (by decide), h 4 (by decide) (by decide)⟩
set_option maxHeartbeats 1000000 in
theorem refperson_n (s : List UInt8) (L : List Chunk) (hs : s.length ≤ 9223372036854775000) : GvP Tryd.prog 17 [.string (str s)].toArray L (.bool (perB s)) := by
  refine Gv.of_body Tryd.func17 rfl rfl ?_
  rw [← perD_eq]
  unfold perD
  have c1 := refupto_n s 60 L hs
  (repeat' first|refine kW ?_|refine kU fun bk=>?_|refine kV fun hc=>?_|refine kZ (fun hc=>?_) fun hc=>?_|fail)
  refine OW_callP rfl rfl rfl c1 rfl ?_
  rcases upL_spec 60 s with ⟨_, e⟩ | ⟨a, r, ha, hsr, e⟩
  · rw [e]
    simp only
    (repeat' first|refine kW ?_|refine kU fun bk=>?_|refine kV fun hc=>?_|refine kZ (fun hc=>?_) fun hc=>?_|fail)
    exact kE
  · rw [e]
    simp only
    have hl1 : s.length = a.length + r.length + 1 := by rw [hsr]; simp; omega
    rcases List.eq_nil_or_concat a with rfl | ⟨n, x, rfl⟩
    · rw [if_pos (.inl rfl)]
      have : (str []).size = 0 := rfl
      (repeat' first|refine kW ?_|refine kU fun bk=>?_|refine kV fun hc=>?_|refine kZ (fun hc=>?_) fun hc=>?_|fail)
      exact kE
    · simp only [List.concat_eq_append] at hl1 ha hsr ⊢
      have hsz : (str (n ++ [x])).size = n.length + 1 := by rw [str_size]; simp
      have q32 : x = 32 ↔ x.toNat = 32 := (UInt8.toNat_inj (a := x) (b := 32)).symm
      have hg : (n ++ [x]).getLast? = some x := by simp
      have hnl : n.length ≤ 9223372036854775000 := by simp only [List.length_append, List.length_cons, List.length_nil] at hl1; omega
      have hgx : (str (n ++ [x]))[n.length]? = some x := by rw [str_get (by simp)]; simp [List.getD]
      have hw1 := refwithout_n (n ++ [x]) [62, 10, 0] L (by simp at hl1 ⊢; omega) (by decide)
      have c2 := refupto_n r 62 L (by omega)
      rw [hg]
      (repeat' first|refine kW ?_|refine kU fun bk=>?_|refine kV fun hc=>?_|refine kZ (fun hc=>?_) fun hc=>?_|fail)
      refine OW_EV (EV_indexStr (j := n.length) (u := x) rfl rfl (by rw [hsz]; omega) hgx) rfl ?_
      (repeat' first|refine kW ?_|refine kU fun bk=>?_|refine kV fun hc=>?_|refine kZ (fun hc=>?_) fun hc=>?_|fail)
      · rw [if_pos (.inr (.inl (fun h => by simp only [Option.some.injEq] at h; have := q32.1 h; omega)))]
        refine kR ?_
        exact ⟨_, iC, rfl, rfl⟩
      · have hx : x = 32 := q32.2 (by omega)
        refine OW_callP rfl rfl rfl hw1 rfl ?_
        cases hwb : wthB [62, 10, 0] (n ++ [x]) with
        | false =>
          rw [if_pos (.inr (.inr rfl))]
          (repeat' first|refine kW ?_|refine kU fun bk=>?_|refine kV fun hc=>?_|refine kZ (fun hc=>?_) fun hc=>?_|fail)
          exact kE
        | true =>
          rw [if_neg (by simp [hx])]
          (repeat' first|refine kW ?_|refine kU fun bk=>?_|refine kV fun hc=>?_|refine kZ (fun hc=>?_) fun hc=>?_|fail)
          refine OW_callP rfl rfl rfl c2 rfl ?_
          rcases upL_spec 62 r with ⟨_, e2⟩ | ⟨m, r2, hm, hr, e2⟩
          · rw [e2]
            simp only
            (repeat' first|refine kW ?_|refine kU fun bk=>?_|refine kV fun hc=>?_|refine kZ (fun hc=>?_) fun hc=>?_|fail)
            exact kE
          · rw [e2]
            simp only
            have hl2 : r.length = m.length + r2.length + 1 := by rw [hr]; simp; omega
            have hw2 := refwithout_n m [60, 10, 0] L (by omega) (by decide)
            (repeat' first|refine kW ?_|refine kU fun bk=>?_|refine kV fun hc=>?_|refine kZ (fun hc=>?_) fun hc=>?_|fail)
            refine OW_callP rfl rfl rfl hw2 rfl ?_
            cases hwb2 : wthB [60, 10, 0] m with
            | false =>
              rw [if_pos (.inl rfl)]
              (repeat' first|refine kW ?_|refine kU fun bk=>?_|refine kV fun hc=>?_|refine kZ (fun hc=>?_) fun hc=>?_|fail)
              exact kE
            | true =>
              cases r2 with
              | nil =>
                have hz : (str []).size = 0 := rfl
                rw [if_pos (.inr (.inl (by simp)))]
                (repeat' first|refine kW ?_|refine kU fun bk=>?_|refine kV fun hc=>?_|refine kZ (fun hc=>?_) fun hc=>?_|fail)
                exact kE
              | cons y r2 =>
                have hz : (str (y :: r2)).size = r2.length + 1 := rfl
                have hgy : (str (y :: r2))[0]? = some y := rfl
                have qy : y = 32 ↔ y.toNat = 32 := (UInt8.toNat_inj (a := y) (b := 32)).symm
                have c3 := refupto_n r2 32 L (by simp at hl2; omega)
                (repeat' first|refine kW ?_|refine kU fun bk=>?_|refine kV fun hc=>?_|refine kZ (fun hc=>?_) fun hc=>?_|fail)
                refine OW_EV (EV_indexStr (j := 0) (u := y) rfl rfl rfl hgy) rfl ?_
                (repeat' first|refine kW ?_|refine kU fun bk=>?_|refine kV fun hc=>?_|refine kZ (fun hc=>?_) fun hc=>?_|fail)
                · rw [if_pos (.inr (.inr (fun h => by have := qy.1 h; omega)))]
                  refine kR ?_
                  exact ⟨_, iC, rfl, rfl⟩
                · have hy : y = 32 := qy.2 (by omega)
                  rw [if_neg (by simp [hy])]
                  simp only [List.drop_succ_cons, List.drop_zero]
                  refine OW_EV (EV_cutL (y :: r2) 1 (r2.length + 1) rfl rfl rfl (by omega) (by simp)) rfl ?_
                  rw [show ((y :: r2).drop 1).take (r2.length + 1 - 1) = r2 from by simp]
                  (repeat' first|refine kW ?_|refine kU fun bk=>?_|refine kV fun hc=>?_|refine kZ (fun hc=>?_) fun hc=>?_|fail)
                  refine OW_callP rfl rfl rfl c3 rfl ?_
                  rcases upL_spec 32 r2 with ⟨_, e3⟩ | ⟨q, z, hq, hr2, e3⟩
                  · rw [e3]
                    simp only
                    (repeat' first|refine kW ?_|refine kU fun bk=>?_|refine kV fun hc=>?_|refine kZ (fun hc=>?_) fun hc=>?_|fail)
                    exact kE
                  · rw [e3]
                    simp only
                    have hl3 : r2.length = q.length + z.length + 1 := by rw [hr2]; simp; omega
                    simp only [List.length_cons] at hl2
                    have hnum := refnumber_n q L (by omega)
                    (repeat' first|refine kW ?_|refine kU fun bk=>?_|refine kV fun hc=>?_|refine kZ (fun hc=>?_) fun hc=>?_|fail)
                    refine OW_callP rfl rfl rfl hnum rfl ?_
                    cases numB q with
                    | false =>
                      (repeat' first|refine kW ?_|refine kU fun bk=>?_|refine kV fun hc=>?_|refine kZ (fun hc=>?_) fun hc=>?_|fail)
                      exact kE
                    | true =>
                      rw [Bool.true_and]
                      have hzz : (str z).size = z.length := str_size z
                      obtain ⟨c0, hc0⟩ : ∃ c, c = z.getD 0 0 := ⟨_, rfl⟩
                      have q43 : c0 = 43 ↔ c0.toNat = 43 := (UInt8.toNat_inj (a := c0) (b := 43)).symm
                      have q45 : c0 = 45 ↔ c0.toNat = 45 := (UInt8.toNat_inj (a := c0) (b := 45)).symm
                      (repeat' first|refine kW ?_|refine kU fun bk=>?_|refine kV fun hc=>?_|refine kZ (fun hc=>?_) fun hc=>?_|fail)
                      · have hz5 : ¬ z.length = 5 := by omega
                        refine kR ?_
                        refine ⟨_, iC, ?_, rfl⟩
                        have : zonB z = false := by rw [← Bool.not_eq_true, zon_all]; exact fun h => hz5 h.1
                        rw [this]
                        rfl
                      · have hz5 : z.length = 5 := by omega
                        have hg0 : (str z)[0]? = some c0 := by rw [str_get (by omega), hc0]
                        have hnop : c0.toNat ≠ 43 → c0.toNat ≠ 45 → zonB z = false := fun h1 h2 => by
                          rw [← Bool.not_eq_true, zon_all]
                          rintro ⟨_, h, _⟩
                          rw [← hc0, q43, q45] at h
                          omega
                        refine OW_EV (EV_indexStr (j := 0) (u := c0) rfl rfl rfl hg0) rfl ?_
                        (repeat' first|refine kW ?_|refine kU fun bk=>?_|refine kV fun hc=>?_|refine kZ (fun hc=>?_) fun hc=>?_|fail)
                        · refine OW_EV (EV_indexStr (j := 0) (u := c0) rfl rfl rfl hg0) rfl ?_
                          have h43 := hc
                          (repeat' first|refine kW ?_|refine kU fun bk=>?_|refine kV fun hc=>?_|refine kZ (fun hc=>?_) fun hc=>?_|fail)
                          · refine kR ?_
                            exact ⟨_, iC, by rw [hnop (by omega) (by omega)]; rfl, rfl⟩
                          · have hz1 : z.getD 0 0 = 43 ∨ z.getD 0 0 = 45 := by rw [← hc0]; exact .inr (q45.2 (by omega))
                            refine WC_loop (X := Nat) (fun j => [(8, .string (str z)), (9, .int .i64 (j : Int))]) (fun j => L) (fun j => 1 ≤ j ∧ j ≤ 5 ∧ ∀ i, 1 ≤ i → i < j → inD (z.getD i 0).toNat = true) (fun j => 5 - j) 1 ⟨by omega, by omega, fun i g1 g2 => by omega⟩ iS (fun w h => h) ?_
                            intro j ⟨g1, g2, g3⟩
                            (repeat' first|refine kW ?_|refine kU fun bk=>?_|refine kV fun hc=>?_|refine kZ (fun hc=>?_) fun hc=>?_|fail)
                            · have hj : j < z.length := by omega
                              obtain ⟨cj, hcj⟩ : ∃ c, c = z.getD j 0 := ⟨_, rfl⟩
                              have hgj : (str z)[j]? = some cj := by rw [str_get hj, hcj]
                              have hnd : ¬ inD cj.toNat = true → zonB z = false := fun h => by
                                rw [← Bool.not_eq_true, zon_all]
                                rintro ⟨_, _, q⟩
                                exact h (by rw [hcj]; exact q j g1 (by omega))
                              refine OW_EV (EV_indexStr (j := j) rfl rfl rfl hgj) rfl ?_
                              (repeat' first|refine kW ?_|refine kU fun bk=>?_|refine kV fun hc=>?_|refine kZ (fun hc=>?_) fun hc=>?_|fail)
                              · refine kR ?_
                                exact ⟨_, iC, by rw [hnd (by unfold inD; simp; omega)]; rfl, rfl⟩
                              · refine OW_EV (EV_indexStr (j := j) rfl rfl rfl hgj) rfl ?_
                                have h48 := hc
                                (repeat' first|refine kW ?_|refine kU fun bk=>?_|refine kV fun hc=>?_|refine kZ (fun hc=>?_) fun hc=>?_|fail)
                                · refine kR ?_
                                  exact ⟨_, iC, by rw [hnd (by unfold inD; simp; omega)]; rfl, rfl⟩
                                · refine WQ_round (X := Nat) (μ := fun j => 5 - j) (x := j) (j + 1) (by omega) ⟨by omega, by omega, fun i q1 q2 => ?_⟩ iS (fun w h => h)
                                  rcases Nat.lt_or_ge i j with h | h
                                  · exact g3 i q1 h
                                  · rw [show i = j from by omega, ← hcj]
                                    unfold inD; simp; omega
                            · refine kR ?_
                              refine ⟨_, iC, ?_, rfl⟩
                              have : zonB z = true := (zon_all z).2 ⟨hz5, hz1, fun i q1 q2 => g3 i q1 (by omega)⟩
                              rw [this]
                              rfl
                        · have hz1 : z.getD 0 0 = 43 ∨ z.getD 0 0 = 45 := by rw [← hc0]; exact .inl (q43.2 (by omega))
                          refine WC_loop (X := Nat) (fun j => [(8, .string (str z)), (9, .int .i64 (j : Int))]) (fun j => L) (fun j => 1 ≤ j ∧ j ≤ 5 ∧ ∀ i, 1 ≤ i → i < j → inD (z.getD i 0).toNat = true) (fun j => 5 - j) 1 ⟨by omega, by omega, fun i g1 g2 => by omega⟩ iS (fun w h => h) ?_
                          intro j ⟨g1, g2, g3⟩
                          (repeat' first|refine kW ?_|refine kU fun bk=>?_|refine kV fun hc=>?_|refine kZ (fun hc=>?_) fun hc=>?_|fail)
                          · have hj : j < z.length := by omega
                            obtain ⟨cj, hcj⟩ : ∃ c, c = z.getD j 0 := ⟨_, rfl⟩
                            have hgj : (str z)[j]? = some cj := by rw [str_get hj, hcj]
                            have hnd : ¬ inD cj.toNat = true → zonB z = false := fun h => by
                              rw [← Bool.not_eq_true, zon_all]
                              rintro ⟨_, _, q⟩
                              exact h (by rw [hcj]; exact q j g1 (by omega))
                            refine OW_EV (EV_indexStr (j := j) rfl rfl rfl hgj) rfl ?_
                            (repeat' first|refine kW ?_|refine kU fun bk=>?_|refine kV fun hc=>?_|refine kZ (fun hc=>?_) fun hc=>?_|fail)
                            · refine kR ?_
                              exact ⟨_, iC, by rw [hnd (by unfold inD; simp; omega)]; rfl, rfl⟩
                            · refine OW_EV (EV_indexStr (j := j) rfl rfl rfl hgj) rfl ?_
                              have h48 := hc
                              (repeat' first|refine kW ?_|refine kU fun bk=>?_|refine kV fun hc=>?_|refine kZ (fun hc=>?_) fun hc=>?_|fail)
                              · refine kR ?_
                                exact ⟨_, iC, by rw [hnd (by unfold inD; simp; omega)]; rfl, rfl⟩
                              · refine WQ_round (X := Nat) (μ := fun j => 5 - j) (x := j) (j + 1) (by omega) ⟨by omega, by omega, fun i q1 q2 => ?_⟩ iS (fun w h => h)
                                rcases Nat.lt_or_ge i j with h | h
                                · exact g3 i q1 h
                                · rw [show i = j from by omega, ← hcj]
                                  unfold inD; simp; omega
                          · refine kR ?_
                            refine ⟨_, iC, ?_, rfl⟩
                            have : zonB z = true := (zon_all z).2 ⟨hz5, hz1, fun i q1 q2 => g3 i q1 (by omega)⟩
                            rw [this]
                            rfl
end Go.Proofs.YtlomjmdgcpjepaaDoor
namespace Go.Proofs.YtlomjmdgcpjepaaDoor
open Go Go.Vx Go.Ob Go.Lib
set_option linter.all false
set_option maxRecDepth 4000
theorem idBlob : idL 3 [] = [101, 54, 57, 100, 101, 50, 57, 98, 98, 50, 100, 49, 100, 54, 52, 51, 52, 98, 56, 98, 50, 57, 97, 101, 55, 55, 53, 97, 100, 56, 99, 50, 101, 52, 56, 99, 53, 51, 57, 49] := by kernel_rfl
theorem idTree : idL 2 [] = [52, 98, 56, 50, 53, 100, 99, 54, 52, 50, 99, 98, 54, 101, 98, 57, 97, 48, 54, 48, 101, 53, 52, 98, 102, 56, 100, 54, 57, 50, 56, 56, 102, 98, 101, 101, 52, 57, 48, 52] := by kernel_rfl
theorem perYes : perB [65, 32, 60, 97, 62, 32, 49, 32, 43, 48, 48, 48, 48] = true := by kernel_rfl
theorem perNo : perB [65, 32, 60, 97, 62, 32, 48, 49, 32, 43, 48, 48, 48, 48] = false := by kernel_rfl
theorem hdTag : hdL 4 7 = [116, 97, 103, 32, 55, 0] := by kernel_rfl
variable [W0]
theorem slcNil (L : List Chunk) : SlC L 1 (.slice none 0 0) 0 [] := ⟨.inl ⟨0, rfl, rfl, rfl⟩, _, _, rfl, Nat.le_refl _⟩
set_option maxHeartbeats 1000000 in
theorem awake8_n (L : List Chunk) (hb : BsAt L) : GvP Tryd.prog 18 [].toArray L (.bool true) := by
  refine Gv.of_body Tryd.func18 rfl rfl ?_
  (repeat' first|refine kW ?_|refine kU fun bk=>?_|refine kV fun hc=>?_|refine kZ (fun hc=>?_) fun hc=>?_|fail)
  refine OW_callP rfl rfl rfl (obkind_n sTree L) rfl ?_
  rw [show kdL sTree = 2 from rfl]
  (repeat' first|refine kW ?_|refine kU fun bk=>?_|refine kV fun hc=>?_|refine kZ (fun hc=>?_) fun hc=>?_|fail)
  refine OW_callP rfl rfl rfl (id_n 3 (.slice none 0 0) [] L hb (by decide) (slcNil L)) rfl ?_
  rw [idBlob]
  (repeat' first|refine kW ?_|refine kU fun bk=>?_|refine kV fun hc=>?_|refine kZ (fun hc=>?_) fun hc=>?_|fail)
  all_goals (try exact absurd rfl hc)
  refine OW_callP rfl rfl rfl (id_n 2 (.slice none 0 0) [] L hb (by decide) (slcNil L)) rfl ?_
  rw [idTree]
  (repeat' first|refine kW ?_|refine kU fun bk=>?_|refine kV fun hc=>?_|refine kZ (fun hc=>?_) fun hc=>?_|fail)
  all_goals (try exact absurd rfl hc)
  refine OW_callP rfl rfl rfl (person_n [65, 32, 60, 97, 62, 32, 49, 32, 43, 48, 48, 48, 48] L hb (by decide)) rfl ?_
  rw [perYes]
  (repeat' first|refine kW ?_|refine kU fun bk=>?_|refine kV fun hc=>?_|refine kZ (fun hc=>?_) fun hc=>?_|fail)
  refine OW_callP rfl rfl rfl (person_n [65, 32, 60, 97, 62, 32, 48, 49, 32, 43, 48, 48, 48, 48] L hb (by decide)) rfl ?_
  rw [perNo]
  (repeat' first|refine kW ?_|refine kU fun bk=>?_|refine kV fun hc=>?_|refine kZ (fun hc=>?_) fun hc=>?_|fail)
  refine OW_call rfl rfl rfl (header_n 4 7 L hb (by decide)) rfl (fun r L' hp => ?_)
  obtain ⟨C, ho, rfl⟩ := hp
  rw [hdTag] at ho
  (repeat' first|refine kW ?_|refine kU fun bk=>?_|refine kV fun hc=>?_|refine kZ (fun hc=>?_) fun hc=>?_|fail)
  refine OW_EV (EV_convStr (b := [116, 97, 103, 32, 55, 0]) rfl ho.sl) rfl ?_
  (repeat' first|refine kW ?_|refine kU fun bk=>?_|refine kV fun hc=>?_|refine kZ (fun hc=>?_) fun hc=>?_|fail)
  refine kR ?_
  exact ⟨L, iC, by rw [decide_eq_true rfl]; rfl, rfl⟩
end Go.Proofs.YtlomjmdgcpjepaaDoor
namespace Go.Vx
open Go Go.Ob Go.Proofs.YtlomjmdgcpjepaaDoor
set_option linter.all false
section
variable [W0]
variable {P : Program} {n : Nat} {M : List (Nat × Value)} {L : List Chunk} {K : List (Nat × Value) → List Chunk → Prop}
variable {d : Nat} {ty : TypeId} {ps : String} {af : Array Edge} {g : Option (Nat × Bool)} {x y : Operand} {v : Value}
theorem EV_eqS (a : List UInt8) {t u : TypeId} (hx : ev M x = some (.string (str a))) (hy : ev M y = some (.string (str a))) : EV P n ⟨some d, .binOp .eql t x y u, ty, ps, af, g⟩ M L d (.bool true) := by
  have := EV_eqL (P := P) (n := n) (M := M) (L := L) (d := d) (ty := ty) (ps := ps) (af := af) (g := g) (t := t) (u := u) a a hx hy
  rwa [decide_eq_true rfl] at this
theorem EV_eqI {k : IntKind} (i : Int) {t u : TypeId} (hx : ev M x = some (.int k i)) (hy : ev M y = some (.int k i)) : EV P n ⟨some d, .binOp .eql t x y u, ty, ps, af, g⟩ M L d (.bool true) :=
  EV_cmp hx hy (by simp [cmpI])
theorem EV_eqBs (b : Bool) {t u : TypeId} [hb : BB P t] (hx : ev M x = some (.bool b)) (hy : ev M y = some (.bool b)) : EV P n ⟨some d, .binOp .eql t x y u, ty, ps, af, g⟩ M L d (.bool true) := by
  have := EV_boolEq (P := P) (n := n) (M := M) (L := L) (d := d) (ty := ty) (ps := ps) (af := af) (g := g) (t := t) (u := u) hx hy
  rwa [beq_self_eq_true] at this
end
end Go.Vx
namespace Go.Proofs.YtlomjmdgcpjepaaDoor
open Go Go.Vx Go.Ob Go.Lib
set_option linter.all false
set_option maxRecDepth 4000
variable [W0]
theorem refkind_n (s : List UInt8) (L : List Chunk) : GvP Tryd.prog 7 [.string (str s)].toArray L (.tuple #[.int .i64 (kdL s : Int), .bool (decide (kdL s ≠ 0))]) := by
  refine Gv.of_body Tryd.func7 rfl rfl ?_
  (repeat' first|refine kW ?_|refine kU fun bk=>?_|refine kV fun hc=>?_|refine kZ (fun hc=>?_) fun hc=>?_|fail)
  refine WC_loop (X := Nat) (fun k => [(0, .string (str s)), (4, .int .i64 (k : Int))]) (fun _ => L) (fun k => 1 ≤ k ∧ k ≤ 5 ∧ ∀ j, 1 ≤ j → j < k → nmL j ≠ s) (fun k => 5 - k) 1 ⟨by omega, by omega, fun j h1 h2 => by omega⟩ iS (fun w h => h) ?_
  intro k ⟨h1, h2, h3⟩
  (repeat' first|refine kW ?_|refine kU fun bk=>?_|refine kV fun hc=>?_|refine kZ (fun hc=>?_) fun hc=>?_|fail)
  · refine OW_callP rfl rfl rfl (refname_n _ _) rfl ?_
    rw [nmI_nat h1 (by omega)]
    (repeat' first|refine kW ?_|refine kU fun bk=>?_|refine kV fun hc=>?_|refine kZ (fun hc=>?_) fun hc=>?_|fail)
    · have hc := str_inj.1 hc
      refine kR ?_
      refine ⟨_, iC, ?_, rfl⟩
      rw [← hc, kdL_hit h1 (by omega), decide_eq_true (by omega)]
      rfl
    · refine WQ_round (X := Nat) (μ := fun k => 5 - k) (x := k) (k + 1) (by omega) ⟨by omega, by omega, fun j g1 g2 => ?_⟩ iS (fun w h => h)
      rcases Nat.lt_or_ge j k with h | h
      · exact h3 j g1 h
      · rw [show j = k from by omega]; exact fun hh => hc (str_inj.2 hh)
  · refine kR ?_
    refine ⟨_, iC, ?_, rfl⟩
    rw [kdL_miss (fun j g1 g2 => h3 j g1 (by omega))]
    rfl
set_option maxHeartbeats 4000000 in
theorem objectnames_n (s : List UInt8) (k n : Int) (L : List Chunk) (hb : BsAt L) (hs : s.length ≤ 1048576) (hn : n ≤ 9223372036854775807) :
    GvP Tryd.prog 3 [.string (str s), .int .i64 k, .int .i64 n].toArray L (.bool true) := by
  refine Gv.of_body (args := [.string (str s), .int .i64 k, .int .i64 n]) Tryd.func3 rfl rfl ?_
  (repeat' first|refine kW ?_|refine kU fun bk=>?_|refine kV fun hc=>?_|refine kZ (fun hc=>?_) fun hc=>?_|fail)
  refine OW_callP rfl rfl rfl (obkind_n s _) rfl ?_
  (repeat' first|refine kW ?_|refine kU fun bk=>?_|refine kV fun hc=>?_|refine kZ (fun hc=>?_) fun hc=>?_|fail)
  refine OW_callP rfl rfl rfl (refkind_n s _) rfl ?_
  (repeat' first|refine kW ?_|refine kU fun bk=>?_|refine kV fun hc=>?_|refine kZ (fun hc=>?_) fun hc=>?_|fail)
  have h28 := hdL_len k n hn
  refine WC_drawAll [] mixed ?_
  (refine WR_t 0 ?_; refine WR_t 2 ?_)
  (refine WR_one 1 (by kernel_rfl) rfl rfl ?_)
  refine OW_callP rfl rfl rfl (obname_n k _) rfl ?_
  refine ⟨iC, ?_⟩
  (refine WR_one 3 (by kernel_rfl) rfl rfl ?_)
  refine OW_callP rfl rfl rfl (refname_n k _) rfl ?_
  refine ⟨iC, ?_⟩
  (refine WR_take 4 rfl rfl (by kernel_rfl) iP iC (EV_eqS (nmI k) rfl rfl) (by rfl) ?_)
  (refine WR_t 5 ?_)
  (refine WR_u 6 ?_; refine WR_u 7 ?_)
  (refine WR_takeOn 8 rfl rfl rfl (by kernel_rfl) iP iC (EV_eqI (kdL s : Int) rfl rfl) (by rfl) ?_)
  (refine WR_t 9 ?_; refine WR_t 10 ?_)
  (refine WR_u 11 ?_; refine WR_u 12 ?_)
  (refine WR_takeOn 13 rfl rfl rfl (by kernel_rfl) iP iC (EV_eqBs (decide (kdL s ≠ 0)) rfl rfl) (by rfl) ?_)
  (refine WR_t 14 ?_; refine WR_t 15 ?_)
  (refine WR_u 16 ?_; refine WR_u 17 ?_)
  (refine WR_u 20 ?_; refine WR_u 21 ?_)
  (refine WR_oneOn 18 (by kernel_rfl) rfl rfl rfl ?_)
  refine OW_call rfl rfl rfl (header_n k n _ hb hn) rfl (fun r L' hp => ?_)
  obtain ⟨C, ho, rfl⟩ := hp
  refine ⟨iC, ?_⟩
  refine WR_more (C :: L) iC ?_
  (refine WR_takeOn 19 rfl rfl rfl (by kernel_rfl) iP iC (EV_convStr (b := hdL k n) rfl ho.sl) (by rfl) ?_)
  (refine WR_oneOn 22 (by kernel_rfl) rfl rfl rfl ?_)
  refine OW_callP rfl rfl rfl (refheader_n k n _ hn) rfl ?_
  refine ⟨iC, ?_⟩
  (refine WR_takeOn 23 rfl rfl rfl (by kernel_rfl) iP iC (EV_eqS (hdL k n) rfl rfl) (by rfl) ?_)
  (refine WR_t 24 ?_; refine WR_t 25 ?_)
  (refine WR_u 26 ?_; refine WR_u 27 ?_; refine WR_u 30 ?_; refine WR_u 31 ?_)
  (refine WR_oneOn 28 (by kernel_rfl) rfl rfl rfl ?_)
  refine OW_convBytes rfl (by rw [str_size]; unfold maxLen; omega) rfl (fun v2 C2 ho2 => ?_)
  refine ⟨iC, ?_⟩
  (refine WR_oneOn 29 (by kernel_rfl) rfl rfl rfl ?_)
  refine OW_callP rfl rfl rfl (id_n k v2 s _ hb.there.there (by omega) (OwG.slc (OwG.f ho2))) rfl ?_
  refine ⟨iC, ?_⟩
  (refine WR_oneOn 32 (by kernel_rfl) rfl rfl rfl ?_)
  refine OW_callP rfl rfl rfl (refid_n k s _ (by omega)) rfl ?_
  refine ⟨iC, ?_⟩
  (refine WR_takeOn 33 rfl rfl rfl (by kernel_rfl) iP iC (EV_eqS (idL k s) rfl rfl) (by rfl) ?_)
  (refine WR_t 34 ?_; refine WR_t 35 ?_)
  (refine WR_u 36 ?_; refine WR_u 38 ?_)
  (refine WR_oneOn 37 (by kernel_rfl) rfl rfl rfl ?_)
  refine OW_callP rfl rfl rfl (hash_n s _ (by omega)) rfl ?_
  refine ⟨iC, ?_⟩
  (refine WR_oneOn 39 (by kernel_rfl) rfl rfl rfl ?_)
  refine OW_callP rfl rfl rfl (refhash_n s _ (by omega)) rfl ?_
  refine ⟨iC, ?_⟩
  (refine WR_takeOn 40 rfl rfl rfl (by kernel_rfl) iP iC (EV_eqBs (hshB s) rfl rfl) (by rfl) ?_)
  (refine WR_t 41 ?_; refine WR_t 42 ?_)
  (refine WR_u 43 ?_; refine WR_u 45 ?_)
  (refine WR_oneOn 44 (by kernel_rfl) rfl rfl rfl ?_)
  refine OW_callP rfl rfl rfl (person_n s _ hb.there.there (by omega)) rfl ?_
  refine ⟨iC, ?_⟩
  (refine WR_oneOn 46 (by kernel_rfl) rfl rfl rfl ?_)
  refine OW_callP rfl rfl rfl (refperson_n s _ (by omega)) rfl ?_
  refine ⟨iC, ?_⟩
  (refine WR_takeOn 47 rfl rfl rfl (by kernel_rfl) iP iC (EV_eqBs (perB s) rfl rfl) (by rfl) ?_)
  (refine WR_t 48 ?_; refine WR_t 49 ?_)
  (refine WR_oneOn 50 (by kernel_rfl) rfl rfl rfl ?_)
  refine OW_callP rfl rfl rfl (awake8_n _ hb.there.there) rfl ?_
  refine ⟨iC, ?_⟩
  (refine WR_t 51 ?_; refine WR_t 52 ?_)
  (refine WR_done (by kernel_rfl) ?_)
  (repeat' first|refine kW ?_|refine kU fun bk=>?_|refine kV fun hc=>?_|refine kZ (fun hc=>?_) fun hc=>?_|fail)
  exact kE
end Go.Proofs.YtlomjmdgcpjepaaDoor
namespace Go.Proofs.YtlomjmdgcpjepaaDoor
open Go Go.Vx Go.ChangeShapes Go.WideShapes Go.ChangeAt Go.RowKit Go.Lib
set_option maxRecDepth 100000
set_option linter.all false
def laid8 : List (String × DataW Unit) := [("math/bits.deBruijn32tab", Rows.laid_math_bits_deBruijn32tab), ("math/bits.deBruijn64tab", Rows.laid_math_bits_deBruijn64tab), ("internal/strconv.uint64pow10", Rows.laid_internal_strconv_uint64pow10), ("unicode/utf8.acceptRanges", Rows.laid_unicode_utf8_acceptRanges), ("unicode/utf8.first", Rows.laid_unicode_utf8_first)]
def nums (k : IntKind) : List (DataW Unit) → List Value
  | [] => []
  | .lit (.int _ z) :: r => .int k z :: nums k r
  | .agg [.lit (.int _ z), .lit (.int _ y)] :: r => .int k z :: .int k y :: nums k r
  | _ :: r => nums k r
def parts : DataW Unit → List (DataW Unit)
  | .agg l => l
  | _ => []
def tab32 : List Value := nums .u8 (parts Rows.laid_math_bits_deBruijn32tab)
def tab64 : List Value := nums .u8 (parts Rows.laid_math_bits_deBruijn64tab)
def tab10 : List Value := nums .u64 (parts Rows.laid_internal_strconv_uint64pow10)
def tabAc : List Value := nums .u8 (parts Rows.laid_unicode_utf8_acceptRanges)
def tabFi : List Value := nums .u8 (parts Rows.laid_unicode_utf8_first)
theorem first_eq : Rows.laid_unicode_utf8_first = firstData := by kernel_rfl
theorem accept_eq : Rows.laid_unicode_utf8_acceptRanges (H := Unit) = acceptData := by kernel_rfl
theorem pow_eq : Rows.laid_internal_strconv_uint64pow10 (H := Unit) = tabData .u64 pow10Tab := by kernel_rfl
theorem met_plain {W : World} (h : laidMetH Tryd.prog laid8 W) : laidMet Tryd.prog laid8 W := by
  have e : laid8.filter (fun x => x.2.handleName?.isSome) = [] := by kernel_rfl
  unfold laidMetH at h
  rw [e] at h
  exact h
theorem u8extra : U8Extra Tryd.prog sh_v_ren := ⟨by kernel_rfl, by kernel_rfl, by kernel_rfl, by kernel_rfl, by kernel_rfl, by kernel_rfl, by kernel_rfl⟩
theorem bs_met {W : World} (hL : laidMetH Tryd.prog laid8 W) (hsh : W.ShapedOpen Tryd.prog) [W0] : BsAt [blks W] := by
  obtain ⟨ps, hv, _⟩ := met_plain hL
  have r3 := LaidVars_reads hv "unicode/utf8.first" Rows.laid_unicode_utf8_first (by simp [laid8])
  have r4 := LaidVars_reads hv "unicode/utf8.acceptRanges" Rows.laid_unicode_utf8_acceptRanges (by simp [laid8])
  have r5 := LaidVars_reads hv "internal/strconv.uint64pow10" Rows.laid_internal_strconv_uint64pow10 (by simp [laid8])
  rw [first_eq] at r3
  rw [accept_eq] at r4
  rw [pow_eq] at r5
  have hut := utf8Tabs_of_readsT (U8Types.of196 sh_v) u8extra r3 r4
  have hmx : ∃ m, W.cell? ⟨2, 0, none⟩ = some (.int .i64 m) :=
    cell_of_shapedOpen_int (t := 3) (zero := #[.int .i64 0]) hsh (of_decide_eq_true (by kernel_rfl)) (by kernel_rfl) (by kernel_rfl) (by kernel_rfl) (by kernel_rfl) Tryd.underlying3
  have hpw : TabIs Tryd.prog W "internal/strconv.uint64pow10" .u64 pow10Tab := by
    obtain ⟨g', t', cs, fuel, p, hg', ht', hvar, hd⟩ := r5
    obtain rfl := Option.some.inj ((show Tryd.prog.globalNamed "internal/strconv.uint64pow10" = some 3 by kernel_rfl).symm.trans hg')
    obtain rfl := Option.some.inj ((show (Tryd.prog.globals[3]?).map (·.type) = some 110 by kernel_rfl).symm.trans ht')
    unfold TabIs
    rw [hvar, ← cells_of_tab Tryd.underlying110 Tryd.underlying74 (by kernel_rfl) (by kernel_rfl) hd]
  have hkeep : ∀ w, Vx.Holds w [blks W] → ∀ k, k < W.heap.size → w.heap[k]? = W.heap[k]? := fun w hw k hk => by
    have hm : W.heap[k]? = some W.heap[k] := by simp [hk]
    rw [hm]
    exact hw.2.1 (k, W.heap[k]) (by simpa using blks_mem.2 hm)
  have hlt : ∀ {a : Addr} {v : Value}, W.cell? a = some v → a.block < W.heap.size := fun {a} {v} h => by
    rcases Nat.lt_or_ge a.block W.heap.size with h' | h'
    · exact h'
    · have : W.heap[a.block]? = none := by simp; omega
      simp [World.cell?, this] at h
  have hcell : ∀ w, Vx.Holds w [blks W] → ∀ {a : Addr} {v : Value}, W.cell? a = some v → w.cell? a = some v := fun w hw {a} {v} h => by
    have hb := hkeep w hw a.block (hlt h)
    rw [← h]
    unfold World.cell?
    rw [hb]
  refine ⟨fun w hw => ⟨fun c hc => hcell w hw (hut.1 c hc), fun i hi => ⟨hcell w hw (hut.2 i hi).1, hcell w hw (hut.2 i hi).2⟩⟩, hmx.imp fun m hm w hw => hcell w hw hm, fun w hw => ?_⟩
  have h0 := hpw.cell (g := 3) (by kernel_rfl) 0 (by decide)
  have hb := hkeep w hw _ (hlt h0)
  unfold TabIs World.var? at hpw ⊢
  rw [show Tryd.prog.globalNamed "internal/strconv.uint64pow10" = some 3 from by kernel_rfl] at hpw ⊢
  simp only [Option.bind_some] at hpw ⊢
  rw [hb]
  exact hpw
end Go.Proofs.YtlomjmdgcpjepaaDoor
namespace Go.Proofs.YtlomjmdgcpjepaaDoor
open Go Go.Vx Go.Ob Go.ChangeShapes Go.WideShapes Go.ChangeAt Go.RowKit
set_option linter.all false
set_option maxRecDepth 4000
theorem top_row (H : Type) (enc : TypeId × Value → H) (W : World) (base : Nat) (args : Array Value) (ds gs : List (DataW H)) (before : List MemPlace)
    (hval : ∀ (j : Nat) t v, Tryd.f3.params[j]? = some t → args[j]? = some v → Value.okWide Tryd.prog W .any base t v)
    (hW : DataW.Whole enc Tryd.prog Tryd.f3.params.toList Rows.objectNamesSpec.vars false W args.toList ds gs before) (hk : Rows.uptoSmall H (ds ++ gs) = true)
    (hz : (DataW.weightsEach Tryd.prog (Tryd.f3.params.toList ++ Rows.objectNamesSpec.plain.varTypes Tryd.prog) (ds ++ gs)).all (· ≤ reachBytes) = true) (hL : laidMetH Tryd.prog laid8 W) (hsh : W.ShapedOpen Tryd.prog) :
    Calls Tryd.prog 3 args W fun e W' => ∃ v, e = .returned v ∧ Rows.objectNamesSpec.post enc Tryd.prog Tryd.f3 false true false false W args v W' := by
  have hW' := hW
  obtain ⟨p, q, hA0, hV, rfl, hfz, hnd⟩ := hW
  have hA : DataW.TrodAll enc Tryd.prog W 0 (fun _ => true) true Tryd.f3.params.toList args.toList ds p := hA0
  rw [Tryd.params3] at hA hval hz
  obtain ⟨v0, vs0, d0, ds0, p0, q0, hargs, rfl, rfl, h0, r0⟩ := trodAll_cons hA
  obtain ⟨v1, vs1, d1, ds1, p1, q1, rfl, rfl, rfl, h1, r1⟩ := trodAll_cons r0
  obtain ⟨v2, vs2, d2, ds2, p2, q2, rfl, rfl, rfl, h2, r2⟩ := trodAll_cons r1
  obtain ⟨rfl, rfl, rfl⟩ := trodAll_nil r2
  obtain rfl : args = #[v0, v1, v2] := by cases args; simp_all
  obtain ⟨rfl, rfl⟩ := trodVars_none hV
  obtain ⟨t0, rfl, rfl, rfl, w0⟩ := ChangeMaps.open_string Tryd.underlying9 (hval 0 _ v0 rfl rfl) h0
  obtain ⟨n1, rfl, rfl, rfl, w1⟩ := open_int Tryd.underlying3 (hval 1 _ v1 rfl rfl) h1
  obtain ⟨n2, rfl, rfl, rfl, w2⟩ := open_int Tryd.underlying3 (hval 2 _ v2 rfl rfl) h2
  clear hA0
  have hbulk : t0.data.toList.length + 1 ≤ 1048576 := by
    simp only [Rows.uptoSmall, decide_eq_true_eq, List.append_nil, Rows.uptoBulkAll, Rows.uptoBulk] at hk
    omega
  have hc : Calls Tryd.prog 3 #[.string t0, .int .i64 n1, .int .i64 n2] W fun e W' => e = .returned (.bool true) ∧ Kept W W' := by
    refine bridge (fun {i} => ?_)
    have ht := bs_met hL hsh
    obtain ⟨t, rfl, htl⟩ := str_of t0
    have hw2 : n2 ≤ 9223372036854775807 := by
      have h0 := w2
      simp [Lit.wf, IntKind.min, IntKind.max, IntKind.signed, IntKind.bits] at h0
      omega
    have hbk : t.length ≤ 1048576 := by
      rw [str_data] at hbulk
      omega
    exact objectnames_n t n1 n2 _ ht hbk hw2
  refine hc.mono fun e W' ⟨he, bel⟩ => ?_
  subst he
  exact ⟨_, rfl, _, _, _, [], _, [], hW', trodAll_mk1 (shut_bool Tryd.underlying4 _), (trodAll_cons_mk (ChangeMaps.shut_string Tryd.underlying9 w0) (trodAll_cons_mk (shut_int Tryd.underlying3 w1) (trodAll_cons_mk (shut_int Tryd.underlying3 w2) trodAll_mk0))), rfl, bel.frame _, fun h => by cases h⟩
def putT (w : World) (g : Nat) (zs : List Value) : World := { w with heap := w.heap.modify g fun
      | .cells _ t frozen => .cells zs.toArray t frozen
      | o => o }
noncomputable def laidWorld (os : Os) : World :=
  putT (putT (putT (putT (putT (World.holding Tryd.prog os ⟨#[], #[], []⟩) 4 tab32) 5 tab64) 3 tab10) 1 tabAc) 0 tabFi
theorem laid_met (os : Os) : laidMet Tryd.prog Rows.objectNamesUptoRow.laid ((laidWorld os).forCall (fun _ _ => 0) ⟨#[], #[.string .empty, .int .i64 0, .int .i64 0], []⟩).memory :=
  laidMet_of_run' 8 (by kernel_rfl) (by kernel_rfl)
theorem reads (os : Os) {H : Type} (enc : TypeId × Value → H) : ∃ places, DataW.whole enc Tryd.prog ((laidWorld os).forCall (fun _ _ => 0) ⟨#[], #[.string .empty, .int .i64 0, .int .i64 0], []⟩).memory Tryd.f3.params.toList Rows.objectNamesSpec.vars false #[.string .empty, .int .i64 0, .int .i64 0].toList 8 = some ([.lit (.string []), .lit (.int .i64 0), .lit (.int .i64 0)], [], places) :=
  ⟨[], by kernel_rfl⟩
set_option maxRecDepth 100000 in
theorem top_lifted (os : Os) (started : os.Started) (H : Type) (enc : TypeId × Value → H) (F : Stop.Interp) :
    ReturnsInHanded {} Tryd.checked os 3 .any ((Rows.OpenSpec.upto Rows.objectNamesSpec).preRow enc Tryd.prog Tryd.f3 Rows.objectNamesUptoRow.domain false Rows.objectNamesUptoRow.laid) (((Rows.OpenSpec.upto Rows.objectNamesSpec).at F).post enc Tryd.prog Tryd.f3 false true false false) := by
  obtain ⟨places, hx⟩ := reads os enc
  refine returnsInHanded_of_row (C := Tryd.checked) (s := (Rows.OpenSpec.upto Rows.objectNamesSpec)) Tryd.own started (by kernel_rfl) Tryd.func3
    (witness_row_at (enc := enc) (C := Tryd.checked) false (laidWorld os) #[.string .empty, .int .i64 0, .int .i64 0] rfl (by kernel_rfl) (by kernel_rfl) (by kernel_rfl)
      (OpenSpec.preRow_of_cond 8 hx (by kernel_rfl) (fun k hk => by cases hk; kernel_rfl) (by kernel_rfl) (laid_met os))) ?_
  intro W base args ds gs before hval hW _ hcond hz hL hsh _
  exact top_row H enc W base args ds gs before hval hW (hcond _ rfl) hz hL hsh
theorem top_over : Rows.ObjectNamesUptoSaid :=
  OpenClaim.holds_of_cond 3 Tryd.f3 rfl rfl rfl rfl rfl rfl rfl ⟨rfl, rfl, rfl, rfl, rfl⟩ rfl rfl rfl rfl rfl (by kernel_rfl) Tryd.func3 (by kernel_rfl)
    (of_decide_eq_true (by kernel_rfl)) (by unfold Func.isWrapper; first | (rw [if_pos (by decide +kernel)]; kernel_rfl) | (rw [if_neg (by decide +kernel)]; exact ⟨rfl, rfl⟩))
    (fun os started H enc _ F => by rw [OpenClaim.pre_eq_preRow]; exact top_lifted os started H enc F)
theorem top_plain (f : FuncId) (fn : Func) (hf : Tryd.pinned.checked.prog.funcNamed "stemma/stemmalaw8.ObjectNames" = some f) (hfn : Tryd.pinned.checked.prog.funcs[f]? = some fn) :
    false = Tryd.pinned.checked.prog.looks [] ∧ ∀ (j : Nat) t, fn.params[j]? = some t → Tryd.pinned.checked.prog.wantsStandIn t = false := by
  obtain rfl : f = 3 := Option.some.inj ((show Tryd.prog.funcNamed "stemma/stemmalaw8.ObjectNames" = some 3 by kernel_rfl).symm.trans hf) |>.symm
  obtain rfl : fn = Tryd.f3 := (Option.some.inj (Tryd.func3.symm.trans hfn)).symm
  have all : (Tryd.f3.params.toList.all fun t => !Tryd.prog.wantsStandIn t) = true := by kernel_rfl
  refine ⟨by kernel_rfl, fun j t ht => ?_⟩
  have hm : t ∈ Tryd.f3.params.toList := by
    have := Array.mem_of_getElem? ht
    simpa using this
  have := List.all_eq_true.1 all t hm
  show Tryd.prog.wantsStandIn t = false
  simpa using this
theorem top_holds : Rows.ObjectNamesUptoCardSaid :=
  Claim7.holds_tied_plain_at .later [] _ _ _ _ top_over (fun _ h => by cases h) (by kernel_rfl) (fun _ h => by cases h) objectNamesUpto_row_tie rfl ⟨rfl, rfl⟩ (by kernel_rfl) rfl top_plain (by kernel_rfl)
end Go.Proofs.YtlomjmdgcpjepaaDoor
