/- slices.Concat over bytes. It proves no statement by itself. No conditions. -/
import Derived.Test.YtckelgpocplplaaRk
namespace Go.Vx
open Go
section
variable [W0] {P : Program} {n : Nat} {M : List (Nat × Value)} {L : List Chunk} {d : Nat} {ty : TypeId} {ps : String} {af : Array Edge} {g : Option (Nat × Bool)} {x y : Operand} {K : List (Nat × Value) → List Chunk → Prop}
set_option linter.all false
/-- append(nil, make(T, c)...). -/
theorem OW_appendZnil {t u e k by_ : Nat} {z : Value} {ku : IntKind} [hs : SL P t e k by_] [hz : ZV P e z] [hi : IK P u ku] {c : Nat} {kk : IntKind} (hx : ev M x = some (.slice none 0 0)) (hy : ev M y = some (.int kk (c : Int)))
    (hzk : z.cells.size = k) (hgrow : 0 < c) (hb : c * by_ ≤ 140737488355328) (h63 : c ≤ 9223372036854775807)
    (hn : Nat.blt d n = true) (h : ∀ b cap rest, c ≤ cap → cap ≤ maxLen → rest.length = (cap - c) * k → K ((d, .slice (some ⟨b, 0, none⟩) c cap) :: M) ([(b, cl (zeros z.cells.toList c ++ rest) e)] :: L)) :
    OW P n ⟨some d, .call ⟨.builtin .append, #[x, y], #[t, u]⟩, ty, ps, af, g⟩ K M L := ⟨fun a w next Q ha hw hk => by
  obtain ⟨ht, i, hif, hik, hib, hk0⟩ := hs.parts
  subst hik hib
  have hzz : i.zero = some z := by have := hz.out; rw [hif] at this; simpa using this
  have hfit := growslice_fits (need := c) (old := 0) (bytes := i.bytes) hgrow hb
  have hcap := grownCap_ge w (0 + c) 0 e
  have hcm := grownCap_le_maxLen w (0 + c) 0 e (by simp [maxLen]; omega)
  have hz2 := zeros_range (z := z.cells) (m := c)
  have hz3 := zeros_range (z := z.cells) (m := grownCap w (0 + c) 0 e - (0 + c))
  have hc1 := wrap_i64 (r := (c : Int)) (by omega) (by omega)
  have hcb : ¬ (281474976710656 < (c : Int) * (i.bytes : Int)) := by
    rw [← Int.natCast_mul]; omega
  rw [Nat.zero_add] at hcap hcm hz3
  have hrun : (execOp a.eval ⟨some d, .call ⟨.builtin .append, #[x, y], #[t, u]⟩, ty, ps, af, g⟩).run P w = .ok (.value (.slice (some ⟨w.heap.size, 0, none⟩) c (grownCap w c 0 e)))
      (w.drew.alloc (cl (zeros z.cells.toList c ++ zeros z.cells.toList (grownCap w c 0 e - c)) e)) := by
    have hne : ¬ (c ≤ 0) := by omega
    have hne2 : ¬ (c = 0) := by omega
    have h63' : ¬ (9223372036854775807 < (c : Int)) := by omega
    have h48' : ¬ (281474976710656 < Builtin.nextslicecap c 0 * i.bytes) := by omega
    have hc0 : ¬ ((c : Int) < 0) := by omega
    simp only [execOp, resolve, invoke, builtin, Sem.run_bind, Sem.run_pure, Result.andThen_ok, List.map_toArray, List.map_cons, List.map_nil, ha.eval hx, ha.eval hy]
    simp [Builtin.append_, run_underlying ht, run_underlying hi.out, sizeOf, typeInfo, hif, asInt, asIntOf, hc1, hc0, hcb, hne2, h63', h48', Question.forced, Builtin.firstCells, newRow, zero_run hz.out]
    split
    · rename_i h0
      have hcz : c = 0 := by
        rcases Nat.mul_eq_zero.1 h0 with h | h
        · exact h
        · omega
      omega
    · simp [zeroCells_eq, grownCap, cl]
  unfold Oper.wp
  rw [hrun, Oper.upon_value]
  have := (hw.same (w' := w.drew) rfl rfl rfl).alloc (cl (zeros z.cells.toList c ++ zeros z.cells.toList (grownCap w c 0 e - c)) e)
  exact (hk _ _ (h w.heap.size _ _ hcap hcm (by rw [zeros_length]; simp [hzk]))).out _ _ (ha.put _ hn) this⟩
end
end Go.Vx
namespace Go.Proofs.Ytckelgpocplplaa
open Go Go.Vx Go.Dl
variable [W0]
set_option maxRecDepth 4000
set_option linter.all false
set_option maxHeartbeats 2000000 in
theorem bgrow_n (n : Nat) (L : List Chunk) (h1 : 1 ≤ n) (hn : n ≤ 1000000) :
    Gv Try.prog 22 [.slice none 0 0, .int .i64 (n : Int)].toArray L (fun r L' => ∃ C, L' = C :: L ∧ Ow 5 1 r 0 (bsv []) C) := by
  refine Gv.of_body (args := [.slice none 0 0, .int .i64 (n : Int)]) Try.func22 rfl rfl ?_
  (repeat' first|refine kW ?_|refine kU fun bk=>?_|refine kV fun hc=>?_|refine kZ (fun hc=>?_) fun hc=>?_|fail)
  refine OW_EV (EV_sliceNil rfl rfl rfl) rfl ?_
  (repeat' first|refine kW ?_|refine kU fun bk=>?_|refine kV fun hc=>?_|refine kZ (fun hc=>?_) fun hc=>?_|fail)
  refine OW_appendZnil (c := n) rfl rfl (by rfl) (by omega) (by omega) (by omega) rfl (fun b cap rest h2 h3 h4 => ?_)
  (repeat' first|refine kW ?_|refine kU fun bk=>?_|refine kV fun hc=>?_|refine kZ (fun hc=>?_) fun hc=>?_|fail)
  refine OW_EV (EV_sliceTo (h := 0) rfl rfl rfl (by omega)) rfl ?_
  (repeat' first|refine kW ?_|refine kU fun bk=>?_|refine kV fun hc=>?_|refine kZ (fun hc=>?_) fun hc=>?_|fail)
  refine kR ?_
  refine ⟨_, iC, _, rfl, .inr ⟨b, cap, _, rfl, by rfl, rfl, ?_, Nat.zero_le _, h3⟩⟩
  show (zeros (Value.int .u8 0).cells.toList n ++ rest).length = _
  rw [show zeros (Value.int .u8 0).cells.toList n = bsv (List.replicate n 0) from zeros_bsv n, List.length_append, bsv_length, List.length_replicate]
  omega
set_option maxHeartbeats 4000000 in
/-- Two pieces put together. -/
theorem concat2_n (q : Nat) (v1 v2 : Value) (s1 s2 : List UInt8) (L : List Chunk) (hf : Fnd L q (cl [v1, v2] 23)) (h1 : Sl L 1 v1 s1.length (bsv s1)) (h2 : Sl L 1 v2 s2.length (bsv s2)) (h0 : 1 ≤ s1.length) (hl1 : s1.length ≤ 1000) (hl2 : s2.length ≤ 1000) :
    Gv Try.prog 12 [.slice (some ⟨q, 0, none⟩) 2 2].toArray L (fun r L' => ∃ C, L' = C :: L ∧ Ow 5 1 r (s1 ++ s2).length (bsv (s1 ++ s2)) C) := by
  refine Gv.of_body (args := [.slice (some ⟨q, 0, none⟩) 2 2]) Try.func12 rfl rfl ?_
  obtain ⟨a1, c1, rfl⟩ := sl_slice h1
  obtain ⟨a2, c2, rfl⟩ := sl_slice h2
  (repeat' first|refine kW ?_|refine kU fun bk=>?_|refine kV fun hc=>?_|refine kZ (fun hc=>?_) fun hc=>?_|fail)
  refine WC_loop (X := Nat) (fun i => [(0, .slice (some ⟨q, 0, none⟩) 2 2), (3, .int .i64 ((([s1, s2].take i).flatten.length : Nat) : Int)), (9, .slice (some ⟨q, 0, none⟩) 2 2), (10, .int .i64 2), (11, .int .i64 (i : Int))]) (fun _ => L)
    (fun i => i ≤ 2) (fun i => 2 - i) 0 (Nat.zero_le _) iS (fun w h => h) ?_
  intro i hi
  (repeat' first|refine kW ?_|refine kU fun bk=>?_|refine kV fun hc=>?_|refine kZ (fun hc=>?_) fun hc=>?_|fail)
  · have hlt : i < 2 := by omega
    obtain ⟨s, v, hs, hv⟩ : ∃ (s : List UInt8) (v : Nat × Option Addr), ([s1, s2].take (i + 1)).flatten = ([s1, s2].take i).flatten ++ s ∧ (s.length ≤ 1000 ∧ ([s1, s2].take i).flatten.length ≤ 2000 ∧ (#[Value.slice a1 s1.length c1, Value.slice a2 s2.length c2] : Array Value)[0 + i * 1]? = some (.slice v.2 s.length v.1)) := by
      rcases (show i = 0 ∨ i = 1 by omega) with rfl | rfl
      · exact ⟨s1, (c1, a1), by simp, hl1, by simp, rfl⟩
      · exact ⟨s2, (c2, a2), by simp, hl2, by simp; omega, rfl⟩
    refine OW_EV (EV_indexAddr (j := i) rfl rfl rfl hlt) rfl ?_
    (repeat' first|refine kW ?_|refine kU fun bk=>?_|refine kV fun hc=>?_|refine kZ (fun hc=>?_) fun hc=>?_|fail)
    refine OW_EV (EV_load rfl hf hv.2.2) rfl ?_
    (repeat' first|refine kW ?_|refine kU fun bk=>?_|refine kV fun hc=>?_|refine kZ (fun hc=>?_) fun hc=>?_|fail)
    rw [← Int.natCast_add, ← List.length_append, ← hs]
    refine WQ_round (X := Nat) (μ := fun i => 2 - i) (x := i) (i + 1) (by omega) (by omega) iS (fun w h => h)
  · obtain rfl : i = 2 := by omega
    have e2 : ([s1, s2].take 2).flatten = s1 ++ s2 := by simp
    rw [e2]
    have hln : (s1 ++ s2).length = s1.length + s2.length := List.length_append
    refine OW_call rfl rfl rfl (bgrow_n _ L (by omega) (by omega)) rfl (fun r L' hp => ?_)
    obtain ⟨C, rfl, ho⟩ := hp
    (repeat' first|refine kW ?_|refine kU fun bk=>?_|refine kV fun hc=>?_|refine kZ (fun hc=>?_) fun hc=>?_|fail)
    refine WC_loop (X := Nat × Value × Chunk) (fun x => [(6, x.2.1), (25, .slice (some ⟨q, 0, none⟩) 2 2), (26, .int .i64 2), (27, .int .i64 (x.1 : Int))]) (fun x => x.2.2 :: L)
      (fun x => x.1 ≤ 2 ∧ Ow 5 1 x.2.1 ([s1, s2].take x.1).flatten.length (bsv ([s1, s2].take x.1).flatten) x.2.2) (fun x => 2 - x.1) (0, r, C) ⟨Nat.zero_le _, ho⟩ iS (fun w h => h) ?_
    rintro ⟨i, v, C1⟩ ⟨hi, hov⟩
    simp only at hi hov ⊢
    (repeat' first|refine kW ?_|refine kU fun bk=>?_|refine kV fun hc=>?_|refine kZ (fun hc=>?_) fun hc=>?_|fail)
    · have hlt : i < 2 := by omega
      obtain ⟨s, v', hs, hv⟩ : ∃ (s : List UInt8) (v : Nat × Option Addr), ([s1, s2].take (i + 1)).flatten = ([s1, s2].take i).flatten ++ s ∧ (s.length ≤ 1000 ∧ ([s1, s2].take i).flatten.length ≤ 2000 ∧ Sl L 1 (.slice v.2 s.length v.1) s.length (bsv s) ∧ (#[Value.slice a1 s1.length c1, Value.slice a2 s2.length c2] : Array Value)[0 + i * 1]? = some (.slice v.2 s.length v.1)) := by
        rcases (show i = 0 ∨ i = 1 by omega) with rfl | rfl
        · exact ⟨s1, (c1, a1), by simp, hl1, by simp, h1, rfl⟩
        · exact ⟨s2, (c2, a2), by simp, hl2, by simp; omega, h2, rfl⟩
      refine OW_EV (EV_indexAddr (j := i) rfl rfl rfl hlt) rfl ?_
      (repeat' first|refine kW ?_|refine kU fun bk=>?_|refine kV fun hc=>?_|refine kZ (fun hc=>?_) fun hc=>?_|fail)
      refine OW_EV (EV_load rfl hf.there hv.2.2.2) rfl ?_
      (repeat' first|refine kW ?_|refine kU fun bk=>?_|refine kV fun hc=>?_|refine kZ (fun hc=>?_) fun hc=>?_|fail)
      refine OW_append rfl rfl hov (sl_there hv.2.2.1) (by repeat (first | exact Zip.here _ | apply Zip.there)) rfl bsv_ones (by omega) (by unfold maxLen; omega) rfl (fun v2 C' ho' _ _ => ?_)
      (repeat' first|refine kW ?_|refine kU fun bk=>?_|refine kV fun hc=>?_|refine kZ (fun hc=>?_) fun hc=>?_|fail)
      rw [← List.length_append, ← bsv_append, ← hs] at ho'
      refine WQ_round (X := Nat × Value × Chunk) (μ := fun x => 2 - x.1) (x := (i, v, C1)) (i + 1, v2, C') (by simp only; omega) ⟨by simp only; omega, ho'⟩ iS (fun w h => h)
    · obtain rfl : i = 2 := by omega
      rw [e2] at hov
      refine kR ?_
      exact ⟨_, iC, C1, rfl, hov⟩
end Go.Proofs.Ytckelgpocplplaa
