/- InflateZlib returns true and leaves its arguments as they were, for every argument; the table that the program reads is tied to its text (the card). No conditions beyond the row's. -/
import Derived.Test.YtdcehmhelfohfaaDoorPD2
namespace Go.Vx
section
variable [W0] {P : Program} {n : Nat} {M : List (Nat × Value)} {L : List Chunk} {d : Nat} {ty : TypeId} {ps : String} {af : Array Edge} {g : Option (Nat × Bool)} {x y : Operand} {K : List (Nat × Value) → List Chunk → Prop}
theorem OW_appendZerosNil {t u e k by_ : Nat} {z : Value} {ku : IntKind} [hs : SL P t e k by_] [hz : ZV P e z] [hi : IK P u ku] {c : Nat} {kk : IntKind} (hx : ev M x = some (.slice none 0 0)) (hy : ev M y = some (.int kk (c : Int)))
    (hzk : z.cells.size = k) (hgrow : 0 < c) (hb : c * by_ ≤ 140737488355328) (h63 : c ≤ 9223372036854775807)
    (hn : Nat.blt d n = true) (h : ∀ b cap rest, c ≤ cap → cap ≤ maxLen → rest.length = (cap - c) * k → K ((d, .slice (some ⟨b, 0, none⟩) c cap) :: M) ([(b, cl (zeros z.cells.toList c ++ rest) e)] :: L)) :
    OW P n ⟨some d, .call ⟨.builtin .append, #[x, y], #[t, u]⟩, ty, ps, af, g⟩ K M L := ⟨fun a w next Q ha hw hk => by
  obtain ⟨ht, i, hif, hik, hib, hk0⟩ := hs.parts
  subst hik hib
  have hzz : i.zero = some z := by have := hz.out; rw [hif] at this; simpa using this
  have hfit := growslice_fits (need := c) (old := 0) (bytes := i.bytes) hgrow hb
  have hcap := grownCap_ge w (0 + c) 0 e
  have hcm := grownCap_le_maxLen w (0 + c) 0 e (by simp [maxLen]; omega)
  have hz2 := zeros_range (z := z.cells) (m := c)
  have hz3 := zeros_range (z := z.cells) (m := grownCap w (0 + c) 0 e - (0 + c))
  have hc1 := wrap_i64 (r := (c : Int)) (by omega) (by omega)
  have hcb : ¬ (281474976710656 < (c : Int) * (i.bytes : Int)) := by
    rw [← Int.natCast_mul]; omega
  rw [Nat.zero_add] at hcap hcm hz3
  have hrun : (execOp a.eval ⟨some d, .call ⟨.builtin .append, #[x, y], #[t, u]⟩, ty, ps, af, g⟩).run P w = .ok (.value (.slice (some ⟨w.heap.size, 0, none⟩) c (grownCap w c 0 e)))
      (w.drew.alloc (cl (zeros z.cells.toList c ++ zeros z.cells.toList (grownCap w c 0 e - c)) e)) := by
    have hne : ¬ (c ≤ 0) := by omega
    have hne2 : ¬ (c = 0) := by omega
    have h63' : ¬ (9223372036854775807 < (c : Int)) := by omega
    have h48' : ¬ (281474976710656 < Builtin.nextslicecap c 0 * i.bytes) := by omega
    have hc0 : ¬ ((c : Int) < 0) := by omega
    simp only [execOp, resolve, invoke, builtin, Sem.run_bind, Sem.run_pure, Result.andThen_ok, List.map_toArray, List.map_cons, List.map_nil, ha.eval hx, ha.eval hy]
    simp [Builtin.append_, run_underlying ht, run_underlying hi.out, sizeOf, typeInfo, hif, asInt, asIntOf, hc1, hc0, hcb, hne2, h63', h48', Question.forced, Builtin.firstCells, newRow, zero_run hz.out]
    split
    · rename_i h0
      have hcz : c = 0 := by
        rcases Nat.mul_eq_zero.1 h0 with h | h
        · exact h
        · omega
      omega
    · simp [zeroCells_eq, grownCap, cl]
  unfold Oper.wp
  rw [hrun, Oper.upon_value]
  have := (hw.same (w' := w.drew) rfl rfl rfl).alloc (cl (zeros z.cells.toList c ++ zeros z.cells.toList (grownCap w c 0 e - c)) e)
  exact (hk _ _ (h w.heap.size _ _ hcap hcm (by rw [zeros_length]; simp [hzk]))).out _ _ (ha.put _ hn) this⟩
end
end Go.Vx
namespace Go.Proofs.YtdcehmhelfohfaaDoor
open Go Go.Vx Go.Hf Go.If
variable [W0]
set_option maxRecDepth 4000
set_option linter.all false
theorem zeros_int (n : Nat) : zeros (Value.int .i64 0).cells.toList n = ivn (List.replicate n 0) := by
  induction n with
  | zero => rfl
  | succ n ih => rw [zeros, ih]; simp [ivn, List.replicate_succ, Value.cells]
theorem ivn_app (a b : List Nat) : ivn (a ++ b) = ivn a ++ ivn b := by simp [ivn]
theorem intsN_icn (l : List Nat) : intsN (icn l) = ivn l := by simp [intsN, icn, ivn]
set_option maxHeartbeats 4000000 in
/-- 1 times n. -/
theorem mul_one_n (n : Nat) (L : List Chunk) (hn : n ≤ 1000000) : GvP Tryd.prog 94 [.int .u64 1, .int .u64 (n : Int)].toArray L (.tuple #[.int .u64 0, .int .u64 (n : Int)]) := by
  refine Gv.of_body Tryd.func94 rfl rfl ?_
  (repeat' first|refine kW ?_|refine kU fun bk=>?_|refine kV fun hc=>?_|refine kZ (fun hc=>?_) fun hc=>?_|fail)
  refine OW_EV (EV_nand (k := .u64) 1 32 rfl rfl rfl rfl rfl (by decide) (by decide)) rfl ?_
  rw [show ((1 % 2 ^ 32 : Nat) : Int) = 1 from by decide]
  (repeat' first|refine kW ?_|refine kU fun bk=>?_|refine kV fun hc=>?_|refine kZ (fun hc=>?_) fun hc=>?_|fail)
  rw [show (1 : Int) / 4294967296 = 0 from by decide]
  refine OW_EV (EV_nand (k := .u64) n 32 rfl rfl rfl rfl rfl (by simp only [IntKind.bits]; omega) (by decide)) rfl ?_
  rw [show ((n % 2 ^ 32 : Nat) : Int) = n from by omega]
  (repeat' first|refine kW ?_|refine kU fun bk=>?_|refine kV fun hc=>?_|refine kZ (fun hc=>?_) fun hc=>?_|fail)
  have e0 : (n : Int) / 4294967296 = 0 := by omega
  have ez : (0 : Int) / 4294967296 = 0 := by decide
  try rw [e0]
  refine OW_EV (EV_nmul (k := .u64) 1 n rfl rfl rfl rfl rfl (by simp only [IntKind.bits]; omega)) rfl ?_
  rw [Nat.one_mul]
  (repeat' first|refine kW ?_|refine kU fun bk=>?_|refine kV fun hc=>?_|refine kZ (fun hc=>?_) fun hc=>?_|fail)
  refine OW_EV (EV_nmul (k := .u64) 0 n rfl rfl rfl rfl rfl (by simp only [IntKind.bits]; omega)) rfl ?_
  rw [Nat.zero_mul]
  (repeat' first|refine kW ?_|refine kU fun bk=>?_|refine kV fun hc=>?_|refine kZ (fun hc=>?_) fun hc=>?_|fail)
  try rw [e0]
  refine OW_EV (EV_nadd (k := .u64) 0 0 rfl rfl rfl rfl rfl (by decide)) rfl ?_
  rw [Nat.zero_add]
  (repeat' first|refine kW ?_|refine kU fun bk=>?_|refine kV fun hc=>?_|refine kZ (fun hc=>?_) fun hc=>?_|fail)
  refine OW_EV (EV_nand (k := .u64) 0 32 rfl rfl rfl rfl rfl (by decide) (by decide)) rfl ?_
  rw [show (0 % 2 ^ 32 : Nat) = 0 from by decide]
  (repeat' first|refine kW ?_|refine kU fun bk=>?_|refine kV fun hc=>?_|refine kZ (fun hc=>?_) fun hc=>?_|fail)
  try rw [show ((0 : Nat) : Int) / 4294967296 = 0 from by decide]
  try rw [ez]
  refine OW_EV (EV_nmul (k := .u64) 1 0 rfl rfl rfl rfl rfl (by decide)) rfl ?_
  rw [Nat.mul_zero]
  (repeat' first|refine kW ?_|refine kU fun bk=>?_|refine kV fun hc=>?_|refine kZ (fun hc=>?_) fun hc=>?_|fail)
  refine OW_EV (EV_nadd (k := .u64) 0 0 rfl rfl rfl rfl rfl (by decide)) rfl ?_
  rw [Nat.zero_add]
  (repeat' first|refine kW ?_|refine kU fun bk=>?_|refine kV fun hc=>?_|refine kZ (fun hc=>?_) fun hc=>?_|fail)
  refine OW_EV (EV_nmul (k := .u64) 0 0 rfl rfl rfl rfl rfl (by decide)) rfl ?_
  rw [Nat.mul_zero]
  (repeat' first|refine kW ?_|refine kU fun bk=>?_|refine kV fun hc=>?_|refine kZ (fun hc=>?_) fun hc=>?_|fail)
  refine OW_EV (EV_nadd (k := .u64) 0 0 rfl rfl rfl rfl rfl (by decide)) rfl ?_
  rw [Nat.zero_add]
  (repeat' first|refine kW ?_|refine kU fun bk=>?_|refine kV fun hc=>?_|refine kZ (fun hc=>?_) fun hc=>?_|fail)
  try rw [show ((0 : Nat) : Int) / 4294967296 = 0 from by decide]
  try rw [ez]
  refine OW_EV (EV_nadd (k := .u64) 0 0 rfl rfl rfl rfl rfl (by decide)) rfl ?_
  rw [Nat.zero_add]
  (repeat' first|refine kW ?_|refine kU fun bk=>?_|refine kV fun hc=>?_|refine kZ (fun hc=>?_) fun hc=>?_|fail)
  refine OW_EV (EV_nmul (k := .u64) 1 n rfl rfl rfl rfl rfl (by simp only [IntKind.bits]; omega)) rfl ?_
  rw [Nat.one_mul]
  (repeat' first|refine kW ?_|refine kU fun bk=>?_|refine kV fun hc=>?_|refine kZ (fun hc=>?_) fun hc=>?_|fail)
  refine WQ_retI (rs := [.tmp 4, .tmp 5]) (vs := [.int .u64 0, .int .u64 (n : Int)]) rfl rfl ?_
  exact ⟨_, iC, rfl, rfl⟩
set_option maxHeartbeats 2000000 in
theorem mul1_n (n : Nat) (L : List Chunk) (hn : n ≤ 1000000) : GvP Tryd.prog 88 [.int .u64 1, .int .u64 (n : Int)].toArray L (.tuple #[.int .u64 0, .int .u64 (n : Int)]) := by
  refine Gv.of_body Tryd.func88 rfl rfl ?_
  have hm := mul_one_n n L hn
  (repeat' first|refine kW ?_|refine kU fun bk=>?_|refine kV fun hc=>?_|refine kZ (fun hc=>?_) fun hc=>?_|fail)
  refine OW_callP rfl rfl rfl hm rfl ?_
  (repeat' first|refine kW ?_|refine kU fun bk=>?_|refine kV fun hc=>?_|refine kZ (fun hc=>?_) fun hc=>?_|fail)
  refine kR ?_
  exact ⟨_, iC, rfl, rfl⟩
theorem rep_patch (n k m v : Nat) (h : k + m ≤ n) : patch (ivn (List.replicate k v ++ List.replicate (n - k) 0)) k (ivn (List.replicate m v)) = ivn (List.replicate (k + m) v ++ List.replicate (n - (k + m)) 0) := by
  unfold patch ivn
  rw [← List.map_take, ← List.map_drop, ← List.map_append, ← List.map_append]
  congr 1
  simp only [List.length_map, List.length_replicate]
  rw [List.take_left' (by simp), List.drop_append, List.drop_replicate, List.drop_replicate, List.length_replicate, show k - (k + m) = 0 from by omega, show n - k - (k + m - k) = n - (k + m) from by omega, List.replicate_append_replicate]
  rfl
set_option maxHeartbeats 4000000 in
theorem repeat_n (b v n : Nat) (L : List Chunk) (hf : Fnd L b (cl [.int .i64 (v : Int)] 3)) (h1 : 1 ≤ n) (hn : n ≤ 1000000) :
    Gv Tryd.prog 77 [.slice (some ⟨b, 0, none⟩) 1 1, .int .i64 (n : Int)].toArray L (fun r L' => ∃ C, L' = C :: L ∧ Ow 3 1 r n (ivn (List.replicate n v)) C) := by
  refine Gv.of_body Tryd.func77 rfl rfl ?_
  have hm := fun L => mul1_n n L hn
  (repeat' first|refine kW ?_|refine kU fun bk=>?_|refine kV fun hc=>?_|refine kZ (fun hc=>?_) fun hc=>?_|fail)
  refine OW_callP rfl rfl rfl (hm _) rfl ?_
  (repeat' first|refine kW ?_|refine kU fun bk=>?_|refine kV fun hc=>?_|refine kZ (fun hc=>?_) fun hc=>?_|fail)
  refine OW_makeSlice (m := n) (c := n) rfl rfl (by rfl) (Nat.le_refl _) (by omega) (by omega) rfl (fun c => ?_)
  rw [zeros_int]
  (repeat' first|refine kW ?_|refine kU fun bk=>?_|refine kV fun hc=>?_|refine kZ (fun hc=>?_) fun hc=>?_|fail)
  refine OW_copyTo (sl := 1) (zs := ivn [v]) (ivn (List.replicate 1 v ++ List.replicate (n - 1) 0)) rfl rfl (.inr ⟨_, _, rfl, RdAt.cl' (l := ivn [v]) (off := 0) (Fnd.there hf) rfl, rfl⟩) (by rw [Nat.min_eq_left (by omega)]; rfl) ?_ iU (by rw [Nat.min_eq_left (by omega)]; simp [ivn]; omega) rfl ?_
  · rw [Nat.min_eq_left (by omega)]
    have := rep_patch n 0 1 v (by omega)
    rw [show List.take (1 * 1) (ivn [v]) = ivn [v] from rfl]
    simpa using this
  rw [Nat.min_eq_left (by omega)]
  (repeat' first|refine kW ?_|refine kU fun bk=>?_|refine kV fun hc=>?_|refine kZ (fun hc=>?_) fun hc=>?_|fail)
  refine WC_loop (X := Nat) (fun k => [(7, .slice (some ⟨c, 0, none⟩) n n), (8, .int .i64 (k : Int))]) (fun k => [(c, cl (ivn (List.replicate k v ++ List.replicate (n - k) 0)) 3)] :: L)
    (fun k => 1 ≤ k ∧ k ≤ n) (fun k => n - k) 1 ⟨Nat.le_refl _, h1⟩ iS (fun w h => h) ?_
  rintro k ⟨hk1, hk2⟩
  (repeat' first|refine kW ?_|refine kU fun bk=>?_|refine kV fun hc=>?_|refine kZ (fun hc=>?_) fun hc=>?_|fail)
  · have hlen : (ivn (List.replicate k v ++ List.replicate (n - k) 0)).length = n := by rw [ivn_length]; simp; omega
    have htk : List.take (min k (n - k) * 1) (ivn (List.replicate k v)) = ivn (List.replicate (min k (n - k)) v) := by
      unfold ivn
      rw [← List.map_take, List.take_replicate, show min (min k (n - k) * 1) k = min k (n - k) from by omega]
    refine WC_draw [] [] mixed ?_
    (refine WR_t 0 ?_; refine WR_t 1 ?_; refine WR_t 2 ?_)
    (refine WR_take 3 rfl rfl (by kernel_rfl) iP iC (EV_sliceFrom0 (l := k) (h := n) rfl rfl rfl (by omega) (by omega) (by omega)) (by rfl) ?_)
    (refine WR_t 4 ?_; refine WR_t 5 ?_)
    (refine WR_take 6 rfl rfl (by kernel_rfl) iP iC (EV_sliceTo (h := k) rfl rfl rfl (by omega)) (by rfl) ?_)
    (refine WR_one 7 (by kernel_rfl) rfl rfl ?_)
    refine OW_copyTo (sl := k) (zs := ivn (List.replicate k v)) (ivn (List.replicate (k + min k (n - k)) v ++ List.replicate (n - (k + min k (n - k))) 0)) rfl rfl (.inr ⟨_, _, rfl, RdAt.cl' (off := 0) Fnd.here ?_, by rw [ivn_length]; simp⟩) ?_ ?_ iU (by rw [hlen]; omega) rfl ?_
    · rw [ivn_length, List.length_replicate, ivn_app]
      unfold cut
      rw [List.drop_zero, List.take_left' (by rw [ivn_length, List.length_replicate])]
    · rw [htk]
      exact ivn_ones
    · rw [← rep_patch n k (min k (n - k)) v (by omega), htk, Nat.mul_one]
    refine ⟨iC, ?_⟩
    (refine WR_t 8 ?_; refine WR_t 9 ?_)
    (refine WR_done (by kernel_rfl) ?_)
    (repeat' first|refine kW ?_|refine kU fun bk=>?_|refine kV fun hc=>?_|refine kZ (fun hc=>?_) fun hc=>?_|fail)
    refine WQ_round (X := Nat) (μ := fun k => n - k) (x := k) (k + min k (n - k)) (by omega) ⟨by omega, by omega⟩ iS (fun w h => h)
  · obtain rfl : k = n := by omega
    rw [show k - k = 0 from by omega, List.replicate_zero, List.append_nil]
    refine kR ?_
    refine ⟨_, iC, _, rfl, .inr ⟨c, k, [], rfl, by rw [List.append_nil], by rw [ivn_length]; simp, by simp, Nat.le_refl _, by simp [maxLen]; omega⟩⟩
set_option maxHeartbeats 1000000 in
theorem times_n (v n : Nat) (L : List Chunk) (h1 : 1 ≤ n) (hn : n ≤ 1000000) :
    Gv Tryd.prog 67 [.int .i64 (v : Int), .int .i64 (n : Int)].toArray L (fun r L' => ∃ C, L' = C :: L ∧ Ow 3 1 r n (ivn (List.replicate n v)) C) := by
  refine Gv.of_body Tryd.func67 rfl rfl ?_
  (repeat' first|refine kW ?_|refine kU fun bk=>?_|refine kV fun hc=>?_|refine kZ (fun hc=>?_) fun hc=>?_|fail)
  refine OW_buildSlice (cs := [.int .i64 (v : Int)]) rfl (by rfl) (by first | (simp [fillL, patch, Value.cells, zeros]; done) | (simp [fillL, patch, Value.cells, zeros]; rfl)) (by omega) rfl rfl (fun b => ?_)
  (repeat' first|refine kW ?_|refine kU fun bk=>?_|refine kV fun hc=>?_|refine kZ (fun hc=>?_) fun hc=>?_|fail)
  refine OW_call rfl rfl rfl (repeat_n b v n _ Fnd.here h1 hn) rfl (fun r L' hp => ?_)
  obtain ⟨C, rfl, ho⟩ := hp
  (repeat' first|refine kW ?_|refine kU fun bk=>?_|refine kV fun hc=>?_|refine kZ (fun hc=>?_) fun hc=>?_|fail)
  refine kR ?_
  exact ⟨_, iC, C, rfl, ho⟩
set_option maxHeartbeats 2000000 in
theorem grow_n (n : Nat) (L : List Chunk) (h1 : 1 ≤ n) (hn : n ≤ 1000000) :
    Gv Tryd.prog 76 [.slice none 0 0, .int .i64 (n : Int)].toArray L (fun r L' => ∃ C, L' = C :: L ∧ Ow 3 1 r 0 (ivn []) C) := by
  refine Gv.of_body Tryd.func76 rfl rfl ?_
  (repeat' first|refine kW ?_|refine kU fun bk=>?_|refine kV fun hc=>?_|refine kZ (fun hc=>?_) fun hc=>?_|fail)
  refine OW_EV (EV_sliceNil rfl rfl rfl) rfl ?_
  (repeat' first|refine kW ?_|refine kU fun bk=>?_|refine kV fun hc=>?_|refine kZ (fun hc=>?_) fun hc=>?_|fail)
  refine OW_appendZerosNil (c := n) rfl rfl (by rfl) (by omega) (by omega) (by omega) rfl (fun b cap rest h2 h3 h4 => ?_)
  (repeat' first|refine kW ?_|refine kU fun bk=>?_|refine kV fun hc=>?_|refine kZ (fun hc=>?_) fun hc=>?_|fail)
  refine OW_EV (EV_sliceTo (h := 0) rfl rfl rfl (by omega)) rfl ?_
  (repeat' first|refine kW ?_|refine kU fun bk=>?_|refine kV fun hc=>?_|refine kZ (fun hc=>?_) fun hc=>?_|fail)
  refine kR ?_
  refine ⟨_, iC, _, rfl, .inr ⟨b, cap, _, rfl, by rfl, rfl, ?_, Nat.zero_le _, h3⟩⟩
  show (zeros (Value.int .i64 0).cells.toList n ++ rest).length = _
  rw [List.length_append, zeros_int, ivn_length, List.length_replicate]
  omega
end Go.Proofs.YtdcehmhelfohfaaDoor
namespace Go.Proofs.YtdcehmhelfohfaaDoor
open Go Go.Vx Go.Hf Go.If
variable [W0]
set_option maxRecDepth 4000
set_option linter.all false
theorem sl_slc {L : List Chunk} {k m : Nat} {v : Value} {xs : List Value} (h : Sl L k v m xs) : ∃ a c, v = .slice a m c := by
  rcases h with ⟨c, rfl, rfl, _⟩ | ⟨a, c, rfl, _, _⟩
  · exact ⟨_, _, rfl⟩
  · exact ⟨_, _, rfl⟩
omit [W0] in
/-- The first i of some lists, one behind the other. -/
def ccL (ss : List (Value × List Nat)) (i : Nat) : List Nat := (ss.take i).flatMap (·.2)
theorem ccL_succ {ss : List (Value × List Nat)} {i : Nat} {x : Value × List Nat} (h : ss[i]? = some x) : ccL ss (i + 1) = ccL ss i ++ x.2 := by
  unfold ccL
  rw [List.take_add_one, h]
  simp [List.flatMap_append]
theorem ccL_le (ss : List (Value × List Nat)) (i : Nat) : (ccL ss i).length ≤ (ccL ss ss.length).length := by
  unfold ccL
  rw [List.take_length]
  conv => rhs; rw [← List.take_append_drop i ss]
  rw [List.flatMap_append, List.length_append]
  omega
set_option maxHeartbeats 4000000 in
theorem concat_n (a : Option Addr) (c : Nat) (ss : List (Value × List Nat)) (L : List Chunk) (h : Sl L 1 (.slice a ss.length c) ss.length (ss.map (·.1))) (hs : ∀ x ∈ ss, Sl L 1 x.1 x.2.length (ivn x.2)) (hl : ss.length ≤ 1000)
    (h1 : 1 ≤ (ccL ss ss.length).length) (hn : (ccL ss ss.length).length ≤ 1000000) :
    Gv Tryd.prog 66 [.slice a ss.length c].toArray L (fun r L' => ∃ C, L' = C :: L ∧ Ow 3 1 r (ccL ss ss.length).length (ivn (ccL ss ss.length)) C) := by
  refine Gv.of_body Tryd.func66 rfl rfl ?_
  have hle := ccL_le ss
  (repeat' first|refine kW ?_|refine kU fun bk=>?_|refine kV fun hc=>?_|refine kZ (fun hc=>?_) fun hc=>?_|fail)
  refine WC_loop (X := Nat) (fun i => [(0, .slice a ss.length c), (3, .int .i64 ((ccL ss i).length : Int)), (9, .slice a ss.length c), (10, .int .i64 (ss.length : Int)), (11, .int .i64 (i : Int))]) (fun _ => L)
    (fun i => i ≤ ss.length) (fun i => ss.length - i) 0 (Nat.zero_le _) iS (fun w h => h) ?_
  intro i hi
  (repeat' first|refine kW ?_|refine kU fun bk=>?_|refine kV fun hc=>?_|refine kZ (fun hc=>?_) fun hc=>?_|fail)
  · have hlt : i < ss.length := by omega
    obtain ⟨x, hx⟩ : ∃ x, ss[i]? = some x := ⟨ss[i], List.getElem?_eq_getElem hlt⟩
    have hsx := hs x (List.mem_of_getElem? hx)
    obtain ⟨xv, xl⟩ := x
    simp only at hsx
    have hsu := ccL_succ hx
    have hle1 := hle (i + 1)
    rw [hsu, List.length_append] at hle1
    simp only at hsu hle1
    obtain ⟨xa, xc, rfl⟩ := sl_slc hsx
    obtain ⟨b, off, cap, cc, T, fr, hve, hfn, hcell⟩ := sl_at h (k := i) (u := .slice xa xl.length xc) (by rw [List.getElem?_map, hx]; rfl)
    injection hve with q1 q2 q3
    subst q1 q3
    clear q2
    refine OW_EV (EV_indexAddr (j := i) rfl rfl rfl hlt) rfl ?_
    (repeat' first|refine kW ?_|refine kU fun bk=>?_|refine kV fun hc=>?_|refine kZ (fun hc=>?_) fun hc=>?_|fail)
    refine OW_EV (EV_load rfl hfn hcell) rfl ?_
    (repeat' first|refine kW ?_|refine kU fun bk=>?_|refine kV fun hc=>?_|refine kZ (fun hc=>?_) fun hc=>?_|fail)
    rw [← Int.natCast_add, ← List.length_append, ← hsu]
    refine WQ_round (X := Nat) (μ := fun i => ss.length - i) (x := i) (i + 1) (by omega) (by omega) iS (fun w h => h)
  · obtain rfl : i = ss.length := by omega
    refine OW_call rfl rfl rfl (grow_n _ L h1 hn) rfl (fun r L' hp => ?_)
    obtain ⟨C, rfl, ho⟩ := hp
    (repeat' first|refine kW ?_|refine kU fun bk=>?_|refine kV fun hc=>?_|refine kZ (fun hc=>?_) fun hc=>?_|fail)
    refine WC_loop (X := Nat × Value × Chunk) (fun x => [(6, x.2.1), (25, .slice a ss.length c), (26, .int .i64 (ss.length : Int)), (27, .int .i64 (x.1 : Int))]) (fun x => x.2.2 :: L)
      (fun x => x.1 ≤ ss.length ∧ Ow 3 1 x.2.1 (ccL ss x.1).length (ivn (ccL ss x.1)) x.2.2) (fun x => ss.length - x.1) (0, r, C) ⟨Nat.zero_le _, ho⟩ iS (fun w h => h) ?_
    rintro ⟨i, v, C1⟩ ⟨hi, hov⟩
    simp only at hi hov ⊢
    (repeat' first|refine kW ?_|refine kU fun bk=>?_|refine kV fun hc=>?_|refine kZ (fun hc=>?_) fun hc=>?_|fail)
    · have hlt : i < ss.length := by omega
      obtain ⟨x, hx⟩ : ∃ x, ss[i]? = some x := ⟨ss[i], List.getElem?_eq_getElem hlt⟩
      have hsx := hs x (List.mem_of_getElem? hx)
      obtain ⟨xv, xl⟩ := x
      simp only at hsx
      have hsu := ccL_succ hx
      have hle1 := hle (i + 1)
      rw [hsu, List.length_append] at hle1
      simp only at hsu hle1
      obtain ⟨xa, xc, rfl⟩ := sl_slc hsx
      obtain ⟨b, off, cap, cc, T, fr, hve, hfn, hcell⟩ := sl_at h (k := i) (u := .slice xa xl.length xc) (by rw [List.getElem?_map, hx]; rfl)
      injection hve with q1 q2 q3
      subst q1 q3
      clear q2
      refine OW_EV (EV_indexAddr (j := i) rfl rfl rfl hlt) rfl ?_
      (repeat' first|refine kW ?_|refine kU fun bk=>?_|refine kV fun hc=>?_|refine kZ (fun hc=>?_) fun hc=>?_|fail)
      refine OW_EV (EV_load rfl hfn.there hcell) rfl ?_
      (repeat' first|refine kW ?_|refine kU fun bk=>?_|refine kV fun hc=>?_|refine kZ (fun hc=>?_) fun hc=>?_|fail)
      refine OW_append rfl rfl hov (sl_there hsx) (by repeat (first | exact Zip.here _ | apply Zip.there)) rfl ivn_ones (by omega) (by simp [maxLen]; omega) rfl (fun v' C' ho' _ _ => ?_)
      (repeat' first|refine kW ?_|refine kU fun bk=>?_|refine kV fun hc=>?_|refine kZ (fun hc=>?_) fun hc=>?_|fail)
      rw [← List.length_append, ← ivn_app, ← hsu] at ho'
      refine WQ_round (X := Nat × Value × Chunk) (μ := fun x => ss.length - x.1) (x := (i, v, C1)) (i + 1, v', C') (by simp only; omega) ⟨by simp only; omega, ho'⟩ iS (fun w h => h)
    · obtain rfl : i = ss.length := by omega
      refine kR ?_
      exact ⟨_, iC, C1, rfl, hov⟩
omit [W0] in
def fxS (u1 u2 u3 u4 : Value) : List (Value × List Nat) := [(u1, List.replicate 144 8), (u2, List.replicate 112 9), (u3, List.replicate 24 7), (u4, List.replicate 8 8)]
theorem fx_cc (u1 u2 u3 u4 : Value) : ccL (fxS u1 u2 u3 u4) (fxS u1 u2 u3 u4).length = fxL := by
  show (List.replicate 144 8 ++ (List.replicate 112 9 ++ (List.replicate 24 7 ++ (List.replicate 8 8 ++ [])))) = fxL
  decide
theorem fx_len (u1 u2 u3 u4 : Value) : (ccL (fxS u1 u2 u3 u4) (fxS u1 u2 u3 u4).length).length = 288 := by rw [fx_cc]; decide
set_option maxHeartbeats 4000000 in
theorem fixedLengths_n (L : List Chunk) : Gv Tryd.prog 57 #[] L (fun r L' => ∃ u v C D, r = .tuple #[u, v] ∧ L' = D :: C :: L ∧ Ow 3 1 u 288 (ivn fxL) C ∧ Ow 3 1 v 32 (ivn fxD) D) := by
  refine Gv.of_body (args := []) Tryd.func57 rfl rfl ?_
  (repeat' first|refine kW ?_|refine kU fun bk=>?_|refine kV fun hc=>?_|refine kZ (fun hc=>?_) fun hc=>?_|fail)
  refine OW_call rfl rfl rfl (times_n 8 144 L (by decide) (by decide)) rfl (fun r L' hp => ?_)
  obtain ⟨C1, rfl, o1⟩ := hp
  obtain ⟨a1, c1, rfl⟩ := ow_slc o1
  (repeat' first|refine kW ?_|refine kU fun bk=>?_|refine kV fun hc=>?_|refine kZ (fun hc=>?_) fun hc=>?_|fail)
  refine OW_call rfl rfl rfl (times_n 9 112 _ (by decide) (by decide)) rfl (fun r L' hp => ?_)
  obtain ⟨C2, rfl, o2⟩ := hp
  obtain ⟨a2, c2, rfl⟩ := ow_slc o2
  (repeat' first|refine kW ?_|refine kU fun bk=>?_|refine kV fun hc=>?_|refine kZ (fun hc=>?_) fun hc=>?_|fail)
  refine OW_call rfl rfl rfl (times_n 7 24 _ (by decide) (by decide)) rfl (fun r L' hp => ?_)
  obtain ⟨C3, rfl, o3⟩ := hp
  obtain ⟨a3, c3, rfl⟩ := ow_slc o3
  (repeat' first|refine kW ?_|refine kU fun bk=>?_|refine kV fun hc=>?_|refine kZ (fun hc=>?_) fun hc=>?_|fail)
  refine OW_call rfl rfl rfl (times_n 8 8 _ (by decide) (by decide)) rfl (fun r L' hp => ?_)
  obtain ⟨C4, rfl, o4⟩ := hp
  obtain ⟨a4, c4, rfl⟩ := ow_slc o4
  (repeat' first|refine kW ?_|refine kU fun bk=>?_|refine kV fun hc=>?_|refine kZ (fun hc=>?_) fun hc=>?_|fail)
  refine OW_buildSlice (cs := [.slice a1 144 c1, .slice a2 112 c2, .slice a3 24 c3, .slice a4 8 c4]) rfl (by rfl) (by first | (simp [fillL, patch, Value.cells, zeros]; done) | (simp [fillL, patch, Value.cells, zeros]; rfl)) (by omega) rfl rfl (fun b => ?_)
  (repeat' first|refine kW ?_|refine kU fun bk=>?_|refine kV fun hc=>?_|refine kZ (fun hc=>?_) fun hc=>?_|fail)
  have hcc := concat_n (some ⟨b, 0, none⟩) 4 (fxS (.slice a1 144 c1) (.slice a2 112 c2) (.slice a3 24 c3) (.slice a4 8 c4))
    ([(b, cl [.slice a1 144 c1, .slice a2 112 c2, .slice a3 24 c3, .slice a4 8 c4] 57)] :: C4 :: C3 :: C2 :: C1 :: L) (sl_cells (c := #[.slice a1 144 c1, .slice a2 112 c2, .slice a3 24 c3, .slice a4 8 c4]) Fnd.here rfl rfl)
    (by
      intro x hx
      simp only [fxS, List.mem_cons, List.not_mem_nil, or_false] at hx
      rcases hx with rfl | rfl | rfl | rfl
      · exact sl_there (sl_there (sl_there (sl_there (ow_sl o1))))
      · exact sl_there (sl_there (sl_there (ow_sl o2)))
      · exact sl_there (sl_there (ow_sl o3))
      · exact sl_there (ow_sl o4)) (by show 4 ≤ 1000; decide) (by rw [fx_len]; decide) (by rw [fx_len]; decide)
  rw [fx_len, fx_cc] at hcc
  refine OW_call rfl rfl rfl hcc rfl (fun r L' hp => ?_)
  obtain ⟨C5, rfl, o5⟩ := hp
  (repeat' first|refine kW ?_|refine kU fun bk=>?_|refine kV fun hc=>?_|refine kZ (fun hc=>?_) fun hc=>?_|fail)
  refine OW_call rfl rfl rfl (times_n 5 32 _ (by decide) (by decide)) rfl (fun r L' hp => ?_)
  obtain ⟨C6, rfl, o6⟩ := hp
  (repeat' first|refine kW ?_|refine kU fun bk=>?_|refine kV fun hc=>?_|refine kZ (fun hc=>?_) fun hc=>?_|fail)
  refine kR ?_
  exact ⟨_, iC, _, _, C5, C6, rfl, rfl, o5, o6⟩
end Go.Proofs.YtdcehmhelfohfaaDoor
namespace Go.If
open Go.Vx Go.Hf
set_option linter.all false
theorem kS_sum : ∀ l : List Nat, kS l ≤ 16384 * l.sum
  | [] => by simp [kS]
  | x :: r => by
    have ih := kS_sum r
    have h2 : (if 0 < x then 2 ^ (15 - x) else 0) ≤ 16384 * x := by
      split
      · have : 2 ^ (15 - x) ≤ 2 ^ 14 := Nat.pow_le_pow_right (by decide) (by omega)
        omega
      · omega
    rw [List.sum_cons, kS]
    omega
theorem mem_sum : ∀ {l : List Nat} {x : Nat}, x ∈ l → x ≤ l.sum
  | y :: r, x, h => by
    rw [List.sum_cons]
    rcases List.mem_cons.1 h with rfl | h
    · omega
    · have := mem_sum h; omega
theorem sgl_sum (l : List Nat) : sgl l = decide (l.sum < 2) := by
  unfold sgl
  by_cases h : l.sum < 2
  · rw [decide_eq_true h, Bool.and_true, List.all_eq_true]
    intro x hx
    have := mem_sum hx
    simp
    omega
  · rw [decide_eq_false h, Bool.and_false]
end Go.If
namespace Go.Proofs.YtdcehmhelfohfaaDoor
open Go Go.Vx Go.Hf Go.If
variable [W0]
set_option maxRecDepth 4000
set_option linter.all false
theorem okL_icn {l : List Nat} (h : ∀ x ∈ l, x ≤ 15) : okL (icn l) = true := by
  unfold okL icn
  rw [List.all_eq_true]
  intro x hx
  obtain ⟨y, hy, rfl⟩ := List.mem_map.1 hx
  have := h y hy
  simp
  omega
theorem wgt_icn {l : List Nat} (h : ∀ x ∈ l, x ≤ 15) : wgt (icn l) = (kS l : Int) := by unfold wgt; rw [if_pos (okL_icn h), nl_icn]
theorem cdE_icn {l : List Nat} (h : ∀ x ∈ l, x ≤ 15) (h4 : l.length ≤ 400) (hk : kS l ≤ 32768) : cdE (icn l) = 0 := (cdE_zero (by rw [icn_length]; exact h4) (okL_icn h) (by rw [nl_icn]; exact hk)).1
set_option maxHeartbeats 2000000 in
theorem completeCode_n (a : Option Addr) (c : Nat) (l : List Nat) (L : List Chunk) (h : Sl L 1 (.slice a l.length c) l.length (ivn l)) (h15 : ∀ x ∈ l, x ≤ 15) (h4 : l.length ≤ 400) :
    Gv Tryd.prog 64 [.slice a l.length c].toArray L (fun r L' => (kS l ≠ 32768 ∧ r = .tuple #[.pointer none, .int .i64 3] ∧ L' = L) ∨
      (kS l = 32768 ∧ ∃ p C, r = .tuple #[.pointer (some ⟨p, 0, none⟩), .int .i64 0] ∧ L' = C :: L ∧ CoD l p C)) := by
  refine Gv.of_body Tryd.func64 rfl rfl ?_
  have hlen : (icn l).length = l.length := icn_length l
  have hco := hcomplete_n a c (icn l) L (by rw [hlen, intsN_icn]; exact h) (by omega)
  have hnw := hnew_n a c (icn l) L (by rw [hlen, intsN_icn]; exact h) (by omega)
  rw [hlen, wgt_icn h15] at hco
  rw [hlen, nl_icn] at hnw
  by_cases hk : kS l = 32768
  · rw [hk, show (((32768 : Nat) : Int) == 32768) = true from rfl] at hco
    have h0 := cdE_icn h15 h4 (by omega)
    (repeat' first|refine kW ?_|refine kU fun bk=>?_|refine kV fun hc=>?_|refine kZ (fun hc=>?_) fun hc=>?_|fail)
    refine OW_callP rfl rfl rfl hco rfl ?_
    (repeat' first|refine kW ?_|refine kU fun bk=>?_|refine kV fun hc=>?_|refine kZ (fun hc=>?_) fun hc=>?_|fail)
    refine OW_call rfl rfl rfl hnw rfl (fun r L' hp => ?_)
    rcases hp with ⟨h1, _⟩ | ⟨_, p, C, rfl, rfl, hc⟩
    · exact absurd h0 h1
    (repeat' first|refine kW ?_|refine kU fun bk=>?_|refine kV fun hc=>?_|refine kZ (fun hc=>?_) fun hc=>?_|fail)
    refine kR ?_
    exact ⟨_, iC, .inr ⟨hk, p, C, rfl, rfl, hc⟩⟩
  · rw [show (((kS l : Nat) : Int) == 32768) = false from by simpa using fun h => hk (by omega)] at hco
    (repeat' first|refine kW ?_|refine kU fun bk=>?_|refine kV fun hc=>?_|refine kZ (fun hc=>?_) fun hc=>?_|fail)
    refine OW_callP rfl rfl rfl hco rfl ?_
    (repeat' first|refine kW ?_|refine kU fun bk=>?_|refine kV fun hc=>?_|refine kZ (fun hc=>?_) fun hc=>?_|fail)
    refine WQ_retI (rs := [.tmp 2, .tmp 3]) (vs := [.pointer none, .int .i64 3]) rfl rfl ?_
    exact ⟨_, iC, .inl ⟨hk, rfl, rfl⟩⟩
set_option maxHeartbeats 2000000 in
theorem distanceCode_n (a : Option Addr) (c : Nat) (l : List Nat) (L : List Chunk) (h : Sl L 1 (.slice a l.length c) l.length (ivn l)) (h15 : ∀ x ∈ l, x ≤ 15) (h4 : l.length ≤ 400) :
    Gv Tryd.prog 65 [.slice a l.length c].toArray L (fun r L' => (¬ (kS l = 32768 ∨ sgl l = true) ∧ r = .tuple #[.pointer none, .int .i64 3] ∧ L' = L) ∨
      ((kS l = 32768 ∨ sgl l = true) ∧ ∃ p C, r = .tuple #[.pointer (some ⟨p, 0, none⟩), .int .i64 0] ∧ L' = C :: L ∧ CoD l p C)) := by
  refine Gv.of_body Tryd.func65 rfl rfl ?_
  have hlen : (icn l).length = l.length := icn_length l
  have hnw := hnew_n a c (icn l) L (by rw [hlen, intsN_icn]; exact h) (by omega)
  rw [hlen, nl_icn] at hnw
  have hcc := completeCode_n a c l L h h15 h4
  (repeat' first|refine kW ?_|refine kU fun bk=>?_|refine kV fun hc=>?_|refine kZ (fun hc=>?_) fun hc=>?_|fail)
  refine WC_loop (X := Nat) (fun i => [(0, .slice a l.length c), (4, .int .i64 (((l.take i).sum : Nat) : Int)), (7, .slice a l.length c), (8, .int .i64 (l.length : Int)), (9, .int .i64 (i : Int))]) (fun _ => L)
    (fun i => i ≤ l.length ∧ (l.take i).sum ≤ 15 * i) (fun i => l.length - i) 0 ⟨Nat.zero_le _, Nat.le_refl _⟩ iS (fun w h => h) ?_
  rintro i ⟨hi, hsm⟩
  (repeat' first|refine kW ?_|refine kU fun bk=>?_|refine kV fun hc=>?_|refine kZ (fun hc=>?_) fun hc=>?_|fail)
  · have hlt : i < l.length := by omega
    obtain ⟨x, hx⟩ : ∃ x, l[i]? = some x := ⟨l[i], List.getElem?_eq_getElem hlt⟩
    have hx15 := h15 x (List.mem_of_getElem? hx)
    have hsu : (l.take (i + 1)).sum = (l.take i).sum + x := by rw [List.take_add_one, hx]; simp
    obtain ⟨b, off, cap, cc, T, fr, hve, hfn, hcell⟩ := sl_at h (ivn_get hx)
    injection hve with q1 q2 q3
    subst q1 q3
    clear q2
    refine OW_EV (EV_indexAddr (j := i) rfl rfl rfl hlt) rfl ?_
    (repeat' first|refine kW ?_|refine kU fun bk=>?_|refine kV fun hc=>?_|refine kZ (fun hc=>?_) fun hc=>?_|fail)
    refine OW_EV (EV_load rfl hfn hcell) rfl ?_
    (repeat' first|refine kW ?_|refine kU fun bk=>?_|refine kV fun hc=>?_|refine kZ (fun hc=>?_) fun hc=>?_|fail)
    rw [← Int.natCast_add, ← hsu]
    refine WQ_round (X := Nat) (μ := fun i => l.length - i) (x := i) (i + 1) (by omega) ⟨by omega, by omega⟩ iS (fun w h => h)
  · obtain rfl : i = l.length := by omega
    rw [List.take_length] at *
    refine OW_call rfl rfl rfl hcc rfl (fun r L' hp => ?_)
    have hsg : sgl l = false := by rw [sgl_sum]; simp; omega
    simp only [hsg, Bool.false_eq_true, or_false]
    rcases hp with ⟨h1, rfl, rfl⟩ | ⟨h1, p, C, rfl, rfl, hc⟩
    · (repeat' first|refine kW ?_|refine kU fun bk=>?_|refine kV fun hc=>?_|refine kZ (fun hc=>?_) fun hc=>?_|fail)
      refine WQ_retI (rs := [.tmp 2, .tmp 3]) (vs := [.pointer none, .int .i64 3]) rfl rfl ?_
      exact ⟨_, iC, .inl ⟨h1, rfl, rfl⟩⟩
    · (repeat' first|refine kW ?_|refine kU fun bk=>?_|refine kV fun hc=>?_|refine kZ (fun hc=>?_) fun hc=>?_|fail)
      refine kR ?_
      exact ⟨_, iC, .inr ⟨h1, p, C, rfl, rfl, hc⟩⟩
  · obtain rfl : i = l.length := by omega
    rw [List.take_length] at *
    have hsg : sgl l = true := by rw [sgl_sum]; simp; omega
    have hks := kS_sum l
    have h0 := cdE_icn h15 h4 (by omega)
    refine OW_call rfl rfl rfl hnw rfl (fun r L' hp => ?_)
    rcases hp with ⟨h1, _⟩ | ⟨_, p, C, rfl, rfl, hc⟩
    · exact absurd h0 h1
    (repeat' first|refine kW ?_|refine kU fun bk=>?_|refine kV fun hc=>?_|refine kZ (fun hc=>?_) fun hc=>?_|fail)
    refine kR ?_
    exact ⟨_, iC, .inr ⟨.inr hsg, p, C, rfl, rfl, hc⟩⟩
set_option maxHeartbeats 2000000 in
theorem codesOf_n (a a2 : Option Addr) (c c2 : Nat) (l dl : List Nat) (L : List Chunk) (h : Sl L 1 (.slice a l.length c) l.length (ivn l)) (h15 : ∀ x ∈ l, x ≤ 15) (h4 : l.length ≤ 400) (hd : Sl L 1 (.slice a2 dl.length c2) dl.length (ivn dl)) (hd15 : ∀ x ∈ dl, x ≤ 15) (hd4 : dl.length ≤ 400) :
    Gv Tryd.prog 56 [.slice a l.length c, .slice a2 dl.length c2].toArray L (fun r L' => (¬ (kS l = 32768 ∧ (kS dl = 32768 ∨ sgl dl = true)) ∧ r = .tuple #[.pointer none, .int .i64 3] ∧ L' = L) ∨
      ((kS l = 32768 ∧ (kS dl = 32768 ∨ sgl dl = true)) ∧ ∃ p pl pd Cl Cd, r = .tuple #[.pointer (some ⟨p, 0, none⟩), .int .i64 0] ∧ L' = csC p pl pd :: Cl :: Cd :: L ∧ CoD l pl Cl ∧ CoD dl pd Cd)) := by
  refine Gv.of_body Tryd.func56 rfl rfl ?_
  have hcc := completeCode_n a c l L h h15 h4
  (repeat' first|refine kW ?_|refine kU fun bk=>?_|refine kV fun hc=>?_|refine kZ (fun hc=>?_) fun hc=>?_|fail)
  refine OW_call rfl rfl rfl hcc rfl (fun r L' hp => ?_)
  rcases hp with ⟨h1, rfl, rfl⟩ | ⟨h1, pl, Cl, rfl, rfl, hcl⟩
  · (repeat' first|refine kW ?_|refine kU fun bk=>?_|refine kV fun hc=>?_|refine kZ (fun hc=>?_) fun hc=>?_|fail)
    refine WQ_retI (rs := [.tmp 4, .tmp 5]) (vs := [.pointer none, .int .i64 3]) rfl rfl ?_
    exact ⟨_, iC, .inl ⟨fun hh => h1 hh.1, rfl, rfl⟩⟩
  have hdc := distanceCode_n a2 c2 dl (Cl :: L) (sl_there hd) hd15 hd4
  (repeat' first|refine kW ?_|refine kU fun bk=>?_|refine kV fun hc=>?_|refine kZ (fun hc=>?_) fun hc=>?_|fail)
  refine OW_call rfl rfl rfl hdc rfl (fun r L' hp => ?_)
  rcases hp with ⟨h2, rfl, rfl⟩ | ⟨h2, pd, Cd, rfl, rfl, hcd⟩
  · (repeat' first|refine kW ?_|refine kU fun bk=>?_|refine kV fun hc=>?_|refine kZ (fun hc=>?_) fun hc=>?_|fail)
    refine WQ_retI (rs := [.tmp 4, .tmp 5]) (vs := [.pointer none, .int .i64 3]) rfl rfl ?_
    exact ⟨_, iC, .inl ⟨fun hh => h2 hh.2, rfl, rfl⟩⟩
  (repeat' first|refine kW ?_|refine kU fun bk=>?_|refine kV fun hc=>?_|refine kZ (fun hc=>?_) fun hc=>?_|fail)
  refine WQ_retI (rs := [.tmp 4, .tmp 5]) (vs := [.pointer (some ⟨bk, 0, none⟩), .int .i64 0]) rfl rfl ?_
  exact ⟨csC bk pl pd :: Cl :: Cd :: L, iC, .inr ⟨⟨h1, h2⟩, bk, pl, pd, Cl, Cd, rfl, rfl, hcl, hcd⟩⟩
end Go.Proofs.YtdcehmhelfohfaaDoor
namespace Go.Proofs.YtdcehmhelfohfaaDoor
open Go Go.Vx Go.Hf Go.If
variable [W0]
set_option maxRecDepth 4000
set_option linter.all false
omit [W0] in
/-- The fixed codes, once they are known. -/
def KnD (kn : Value) (K : Chunk) : Prop := (kn = .pointer none ∧ K = []) ∨ ∃ pk pl pd Cl Cd, kn = .pointer (some ⟨pk, 0, none⟩) ∧ K = csC pk pl pd ++ (Cl ++ Cd) ∧ CoD fxL pl Cl ∧ CoD fxD pd Cd
theorem KnD.one {kn : Value} {K : Chunk} (h : KnD kn K) : kn.oneCell' = true := by
  rcases h with ⟨rfl, _⟩ | ⟨pk, _, _, _, _, rfl, _⟩ <;> rfl
theorem fxL_15 : ∀ x ∈ fxL, x ≤ 15 := by decide
theorem fxD_15 : ∀ x ∈ fxD, x ≤ 15 := by decide
theorem fxL_kS : kS fxL = 32768 := by decide
theorem fxD_kS : kS fxD = 32768 := by decide
theorem fxL_len : fxL.length = 288 := by decide
theorem fxD_len : fxD.length = 32 := by decide
set_option maxHeartbeats 4000000 in
theorem pfixed_n (p q most : Nat) (v kn : Value) (d : List UInt8) (s : S6) (D E C K : Chunk) (L : List Chunk) (h : RdN q d s.t D E) (hl : d.length ≤ 140737488355328) (he : s.e = 0) (hm : most ≤ 1000000) (hkn : KnD kn K)
    (ho : Ow 5 1 v s.out.length (bsv s.out) C) (hom : s.out.length ≤ most) :
    Gv Tryd.prog 46 [.pointer (some ⟨p, 0, none⟩)].toArray (rdR p q v most kn :: D :: E :: C :: K :: L) (fun r L' =>
      ((cdC d most fxL fxD (8 * d.length + 1) s).e ≠ 0 ∧ r = .int .i64 ((cdC d most fxL fxD (8 * d.length + 1) s).e : Int) ∧ L' = L) ∨
      ((cdC d most fxL fxD (8 * d.length + 1) s).e = 0 ∧ r = .int .i64 0 ∧ ∃ v' D' C' kn' K', KnD kn' K' ∧ Ow 5 1 v' (cdC d most fxL fxD (8 * d.length + 1) s).out.length (bsv (cdC d most fxL fxD (8 * d.length + 1) s).out) C' ∧ (cdC d most fxL fxD (8 * d.length + 1) s).out.length ≤ most ∧ RdN q d (cdC d most fxL fxD (8 * d.length + 1) s).t D' E ∧
        L' = rdR p q v' most kn' :: D' :: E :: C' :: K' :: L)) := by
  have hcd := fun pc pl pd Cl Cd (hCl : CoD fxL pl Cl) (hCd : CoD fxD pd Cd) => pcoded_n p q pc pl pd most v (.pointer (some ⟨pc, 0, none⟩)) fxL fxD d s D E C Cl Cd L h hl he hm rfl ho hom hCl (by rw [fxL_kS]; decide) fxL_15 (by decide) hCd (by rw [fxD_kS]; decide) fxD_15 (by decide)
  generalize cdC d most fxL fxD (8 * d.length + 1) s = R at hcd ⊢
  obtain ⟨va, vc, rfl⟩ := ow_slc ho
  have hfin : ∀ (r : Value) (L' : List Chunk) (pk pl pd : Nat) (Cl Cd : Chunk), CoD fxL pl Cl → CoD fxD pd Cd → ((R.e ≠ 0 ∧ r = Value.int .i64 (R.e : Int) ∧ L' = L) ∨ (R.e = 0 ∧ r = .int .i64 0 ∧ ∃ v' D' C', Ow 5 1 v' R.out.length (bsv R.out) C' ∧ R.out.length ≤ most ∧ RdN q d R.t D' E ∧ L' = rdR p q v' most (.pointer (some ⟨pk, 0, none⟩)) :: D' :: E :: C' :: csC pk pl pd :: Cl :: Cd :: L)) →
      ∃ L2, (∀ w, Holds w L' → Holds w L2) ∧ ((R.e ≠ 0 ∧ r = Value.int .i64 (R.e : Int) ∧ L2 = L) ∨ (R.e = 0 ∧ r = .int .i64 0 ∧ ∃ v' D' C' kn' K', KnD kn' K' ∧ Ow 5 1 v' R.out.length (bsv R.out) C' ∧ R.out.length ≤ most ∧ RdN q d R.t D' E ∧ L2 = rdR p q v' most kn' :: D' :: E :: C' :: K' :: L)) := by
    intro r L' pk pl pd Cl Cd hCl hCd hp
    rcases hp with ⟨h1, rfl, e⟩ | ⟨h1, rfl, v', D', C', ho', hl', hr', rfl⟩
    · exact ⟨L', fun w h => h, .inl ⟨h1, rfl, e⟩⟩
    · refine ⟨rdR p q v' most (.pointer (some ⟨pk, 0, none⟩)) :: D' :: E :: C' :: (csC pk pl pd ++ (Cl ++ Cd)) :: L, fun w h => ?_, .inr ⟨h1, rfl, v', D', C', _, _, .inr ⟨pk, pl, pd, Cl, Cd, rfl, rfl, hCl, hCd⟩, ho', hl', hr', rfl⟩⟩
      simpa [Holds, List.append_assoc] using h
  rcases hkn with ⟨rfl, rfl⟩ | ⟨pk, pl, pd, Cl, Cd, rfl, rfl, hCl, hCd⟩
  · refine Gv.of_body Tryd.func46 rfl rfl ?_
    unfold rdR
    (repeat' first|refine kW ?_|refine kU fun bk=>?_|refine kV fun hc=>?_|refine kZ (fun hc=>?_) fun hc=>?_|fail)
    refine OW_call rfl rfl rfl (fixedLengths_n _) rfl (fun r L' hp => ?_)
    obtain ⟨u1, u2, C1, C2, rfl, rfl, o1, o2⟩ := hp
    obtain ⟨a1, c1, rfl⟩ := ow_slc o1
    obtain ⟨a2, c2, rfl⟩ := ow_slc o2
    (repeat' first|refine kW ?_|refine kU fun bk=>?_|refine kV fun hc=>?_|refine kZ (fun hc=>?_) fun hc=>?_|fail)
    have hco := codesOf_n a1 a2 c1 c2 fxL fxD (C2 :: C1 :: rdR p q (.slice va s.out.length vc) most (.pointer none) :: D :: E :: C :: [] :: L) (by rw [fxL_len]; exact sl_there (ow_sl o1)) fxL_15 (by decide) (by rw [fxD_len]; exact ow_sl o2) fxD_15 (by decide)
    rw [fxL_len, fxD_len] at hco
    unfold rdR at hco
    refine OW_call rfl rfl rfl hco rfl (fun r L' hp => ?_)
    rcases hp with ⟨h1, _⟩ | ⟨_, pk, pl, pd, Cl, Cd, rfl, rfl, hCl, hCd⟩
    · exact absurd ⟨fxL_kS, .inl fxD_kS⟩ h1
    have hcd := hcd pk pl pd Cl Cd hCl hCd
    unfold rdR at hcd
    (repeat' first|refine kW ?_|refine kU fun bk=>?_|refine kV fun hc=>?_|refine kZ (fun hc=>?_) fun hc=>?_|fail)
    refine OW_call rfl rfl rfl (Gv.holds hcd (fun w h => iH h)) rfl (fun r L' hp => ?_)
    have hf := hfin r L' pk pl pd Cl Cd hCl hCd hp
    obtain ⟨L2, hL2, hp2⟩ := hf
    (repeat' first|refine kW ?_|refine kU fun bk=>?_|refine kV fun hc=>?_|refine kZ (fun hc=>?_) fun hc=>?_|fail)
    first | refine WQ_retH rfl rfl ?_ | refine WQ_endH rfl rfl ?_
    exact ⟨L2, hL2, hp2⟩
  · refine Gv.holds (L' := rdR p q (.slice va s.out.length vc) most (.pointer (some ⟨pk, 0, none⟩)) :: D :: E :: C :: csC pk pl pd :: Cl :: Cd :: L) ?_ (fun w h => by simpa [Holds, List.append_assoc] using h)
    refine Gv.of_body Tryd.func46 rfl rfl ?_
    have hcd := hcd pk pl pd Cl Cd hCl hCd
    unfold rdR at hcd ⊢
    (repeat' first|refine kW ?_|refine kU fun bk=>?_|refine kV fun hc=>?_|refine kZ (fun hc=>?_) fun hc=>?_|fail)
    refine OW_call rfl rfl rfl hcd rfl (fun r L' hp => ?_)
    have hf := hfin r L' pk pl pd Cl Cd hCl hCd hp
    obtain ⟨L2, hL2, hp2⟩ := hf
    (repeat' first|refine kW ?_|refine kU fun bk=>?_|refine kV fun hc=>?_|refine kZ (fun hc=>?_) fun hc=>?_|fail)
    first | refine WQ_retH rfl rfl ?_ | refine WQ_endH rfl rfl ?_
    exact ⟨L2, hL2, hp2⟩
end Go.Proofs.YtdcehmhelfohfaaDoor
namespace Go.If
open Go.Vx Go.Hf
set_option linter.all false
def rpV (k : Nat) (l : List Nat) : Nat := if k = 16 then l.getD (l.length - 1) 0 else if k = 17 ∨ k = 18 then 0 else k
def rpS [W0] (d : List UInt8) (own : List Nat) (m : Nat) (s : S6) (l : List Nat) : S6 :=
  if (sy d s own).e ≠ 0 then sy d s own
  else if (tk d (sy d s own) (rpB (sv d s own))).e ≠ 0 then tk d (sy d s own) (rpB (sv d s own))
  else if (sv d s own = 16 ∧ l = []) ∨ m < l.length + (rpA (sv d s own) + tv d (sy d s own) (rpB (sv d s own))) then fl (tk d (sy d s own) (rpB (sv d s own))) 3
  else tk d (sy d s own) (rpB (sv d s own))
def rpL [W0] (d : List UInt8) (own : List Nat) (s : S6) (l : List Nat) : List Nat := l ++ List.replicate (rpA (sv d s own) + tv d (sy d s own) (rpB (sv d s own))) (rpV (sv d s own) l)
def lpS [W0] (d : List UInt8) (own : List Nat) (m : Nat) : Nat → S6 → List Nat → S6 × List Nat
  | 0, s, l => (s, l)
  | f + 1, s, l => if s.e = 0 ∧ l.length < m then (if (rpS d own m s l).e = 0 then lpS d own m f (rpS d own m s l) (rpL d own s l) else (rpS d own m s l, l)) else (s, l)
def owS [W0] (d : List UInt8) : Nat → Nat → S6 → List Nat → S6 × List Nat
  | 0, _, s, o => (s, o)
  | k + 1, i, s, o => if (tk d s 3).e ≠ 0 then (tk d s 3, o) else owS d k (i + 1) (tk d s 3) (o.set (ordL.getD i 0) (tv d s 3))
def lcS [W0] (d : List UInt8) (s : S6) : S6 × List Nat :=
  if (tk d s 4).e ≠ 0 then (tk d s 4, [])
  else if (owS d (4 + tv d s 4) 0 (tk d s 4) (List.replicate 19 0)).1.e ≠ 0 then owS d (4 + tv d s 4) 0 (tk d s 4) (List.replicate 19 0)
  else if kS (owS d (4 + tv d s 4) 0 (tk d s 4) (List.replicate 19 0)).2 = 32768 then owS d (4 + tv d s 4) 0 (tk d s 4) (List.replicate 19 0)
  else (fl (owS d (4 + tv d s 4) 0 (tk d s 4) (List.replicate 19 0)).1 3, [])
def dyK (n1 : Nat) (q : S6 × List Nat) : S6 × List Nat × Nat :=
  if q.2.getD 256 0 ≠ 0 ∧ kS (q.2.take n1) = 32768 ∧ (kS (q.2.drop n1) = 32768 ∨ sgl (q.2.drop n1) = true) then (q.1, q.2, n1) else (fl q.1 3, [], 0)
def dyT [W0] (d : List UInt8) (n1 n2 : Nat) (s : S6) : S6 × List Nat × Nat :=
  if (lcS d s).1.e ≠ 0 then ((lcS d s).1, [], 0)
  else if (lpS d (lcS d s).2 (n1 + n2) (n1 + n2) (lcS d s).1 []).1.e ≠ 0 then ((lpS d (lcS d s).2 (n1 + n2) (n1 + n2) (lcS d s).1 []).1, [], 0)
  else dyK n1 (lpS d (lcS d s).2 (n1 + n2) (n1 + n2) (lcS d s).1 [])
def dyS [W0] (d : List UInt8) (s : S6) : S6 × List Nat × Nat :=
  if (tk d s 5).e ≠ 0 then (tk d s 5, [], 0)
  else if 29 < tv d s 5 then (fl (tk d s 5) 3, [], 0)
  else if (tk d (tk d s 5) 5).e ≠ 0 then (tk d (tk d s 5) 5, [], 0)
  else if 29 < tv d (tk d s 5) 5 then (fl (tk d (tk d s 5) 5) 3, [], 0)
  else dyT d (257 + tv d s 5) (1 + tv d (tk d s 5) 5) (tk d (tk d s 5) 5)
theorem fl3 {s : S6} (h : s.e = 0) (k : Nat) : (fl s k).e = k := by rw [fl_e, if_pos h]
theorem ow_facts [W0] (d : List UInt8) : ∀ k i s o, s.e = 0 → s.t ≤ 8 * d.length → o.length = 19 → (∀ x ∈ o, x ≤ 7) → (owS d k i s o).2.length = 19 ∧ (∀ x ∈ (owS d k i s o).2, x ≤ 7) ∧ (owS d k i s o).1.out = s.out
  | 0, i, s, o, he, ht, h1, h2 => ⟨h1, h2, rfl⟩
  | k + 1, i, s, o, he, ht, h1, h2 => by
    rw [owS]
    split
    · exact ⟨h1, h2, tk_out _ _ _⟩
    · rename_i h
      have h0 : (tk d s 3).e = 0 := by omega
      have hb : tv d s 3 < 2 ^ 3 := by
        unfold tv
        split
        · exact Nat.mod_lt _ (by decide)
        · decide
      have ht2 : (tk d s 3).t ≤ 8 * d.length := by
        unfold tk
        split
        · assumption
        · rw [fl_t]; exact ht
      have := ow_facts d k (i + 1) (tk d s 3) (o.set (ordL.getD i 0) (tv d s 3)) h0 ht2 (by rw [List.length_set]; exact h1) (fun x hx => by
        rcases List.mem_or_eq_of_mem_set hx with h | rfl
        · exact h2 x h
        · omega)
      exact ⟨this.1, this.2.1, by rw [this.2.2, tk_out]⟩
theorem rpA_pos (k : Nat) : 1 ≤ rpA k ∧ rpA k ≤ 11 := by
  unfold rpA
  repeat' split
  all_goals omega
theorem rpB_le (k : Nat) : rpB k ≤ 7 := by
  unfold rpB
  repeat' split
  all_goals omega
end Go.If
namespace Go.Proofs.YtdcehmhelfohfaaDoor
open Go Go.Vx Go.Hf Go.If
variable [W0]
set_option maxRecDepth 4000
set_option linter.all false
set_option maxHeartbeats 2000000 in
theorem lengthOf_n (k : Nat) (a : Option Addr) (c : Nat) (l : List Nat) (L : List Chunk) (h : Sl L 1 (.slice a l.length c) l.length (ivn l)) (hk : k ≤ 400) (hl : l.length ≤ 1000) (h1 : ¬ (k = 16 ∧ l = [])) :
    GvP Tryd.prog 83 [.int .i64 (k : Int), .slice a l.length c].toArray L (.int .i64 ((rpV k l : Nat) : Int)) := by
  refine Gv.of_body Tryd.func83 rfl rfl ?_
  unfold rpV
  (repeat' first|refine kW ?_|refine kU fun bk=>?_|refine kV fun hc=>?_|refine kZ (fun hc=>?_) fun hc=>?_|fail)
  · have h16 : k = 16 := by omega
    have hne : 0 < l.length := List.length_pos_iff.2 fun hh => h1 ⟨h16, hh⟩
    rw [if_pos h16]
    obtain ⟨x, hx⟩ : ∃ x, l[l.length - 1]? = some x := ⟨l[l.length - 1], List.getElem?_eq_getElem (by omega)⟩
    obtain ⟨b, off, cap, cc, T, fr, hve, hfn, hcell⟩ := sl_at h (ivn_get hx)
    injection hve with q1 q2 q3
    subst q1 q3
    clear q2
    rw [show l.getD (l.length - 1) 0 = x from by simp [List.getD, hx]]
    rw [show (l.length : Int) - 1 = ((l.length - 1 : Nat) : Int) from by omega]
    refine OW_EV (EV_indexAddr (j := l.length - 1) rfl rfl rfl (by omega)) rfl ?_
    (repeat' first|refine kW ?_|refine kU fun bk=>?_|refine kV fun hc=>?_|refine kZ (fun hc=>?_) fun hc=>?_|fail)
    refine OW_EV (EV_load rfl hfn hcell) rfl ?_
    (repeat' first|refine kW ?_|refine kU fun bk=>?_|refine kV fun hc=>?_|refine kZ (fun hc=>?_) fun hc=>?_|fail)
    exact kE
  · rw [if_neg (by omega), if_pos (by omega)]
    exact kE
  · rw [if_neg (by omega), if_pos (by omega)]
    exact kE
  · rw [if_neg (by omega), if_neg (by omega)]
    exact kE
set_option maxHeartbeats 2000000 in
theorem prun_n (p q most k : Nat) (v kn : Value) (d : List UInt8) (s : S6) (D E : Chunk) (L : List Chunk) (h : RdN q d s.t D E) (hl : d.length ≤ 140737488355328) (he : s.e = 0) (hk : k ≤ 400) :
    Gv Tryd.prog 82 [.pointer (some ⟨p, 0, none⟩), .int .i64 (k : Int)].toArray (rdR p q v most kn :: D :: E :: L) (fun r L' =>
      ((tk d s (rpB k)).e ≠ 0 ∧ r = .tuple #[.int .i64 0, .int .i64 ((tk d s (rpB k)).e : Int)] ∧ L' = L) ∨
      ((tk d s (rpB k)).e = 0 ∧ r = .tuple #[.int .i64 ((rpA k + tv d s (rpB k) : Nat) : Int), .int .i64 0] ∧ ∃ D', RdN q d (tk d s (rpB k)).t D' E ∧ L' = rdR p q v most kn :: D' :: E :: L)) := by
  refine Gv.of_body Tryd.func82 rfl rfl ?_
  have hb : rpA k ≤ 11 ∧ rpB k ≤ 7 := by unfold rpA rpB; split <;> (try split) <;> (try split) <;> omega
  have hru := srun_n k (rdR p q v most kn :: D :: E :: L) (by omega)
  have hpc := pcount_n p q most (rpB k) (rpA k) v kn d s D E L h hl (by omega) he (by omega)
  generalize rpA k = ra at hb hru hpc ⊢
  generalize rpB k = rb at hb hru hpc ⊢
  generalize tv d s rb = z at hpc ⊢
  generalize tk d s rb = s1 at hpc ⊢
  (repeat' first|refine kW ?_|refine kU fun bk=>?_|refine kV fun hc=>?_|refine kZ (fun hc=>?_) fun hc=>?_|fail)
  refine OW_callP rfl rfl rfl hru rfl ?_
  (repeat' first|refine kW ?_|refine kU fun bk=>?_|refine kV fun hc=>?_|refine kZ (fun hc=>?_) fun hc=>?_|fail)
  refine OW_call rfl rfl rfl hpc rfl (fun r L' hp => ?_)
  rcases hp with ⟨h1, rfl, rfl⟩ | ⟨h1, rfl, D', hr, rfl⟩
  · (repeat' first|refine kW ?_|refine kU fun bk=>?_|refine kV fun hc=>?_|refine kZ (fun hc=>?_) fun hc=>?_|fail)
    refine kR ?_
    exact ⟨_, iC, .inl ⟨h1, rfl, rfl⟩⟩
  · (repeat' first|refine kW ?_|refine kU fun bk=>?_|refine kV fun hc=>?_|refine kZ (fun hc=>?_) fun hc=>?_|fail)
    refine kR ?_
    exact ⟨_, iC, .inr ⟨h1, rfl, D', hr, rfl⟩⟩
set_option maxHeartbeats 4000000 in
theorem lengthCode_n (p q most : Nat) (v kn : Value) (d : List UInt8) (s : S6) (D E : Chunk) (L : List Chunk) (h : RdN q d s.t D E) (hl : d.length ≤ 140737488355328) (he : s.e = 0) (hor : OrAt L) :
    Gv Tryd.prog 81 [.pointer (some ⟨p, 0, none⟩)].toArray (rdR p q v most kn :: D :: E :: L) (fun r L' =>
      ((lcS d s).1.e ≠ 0 ∧ r = .tuple #[.pointer none, .int .i64 ((lcS d s).1.e : Int)] ∧ L' = L) ∨
      ((lcS d s).1.e = 0 ∧ ∃ pc Co D', r = .tuple #[.pointer (some ⟨pc, 0, none⟩), .int .i64 0] ∧ RdN q d (lcS d s).1.t D' E ∧ CoD (lcS d s).2 pc Co ∧ kS (lcS d s).2 = 32768 ∧ (lcS d s).2.length = 19 ∧ (∀ x ∈ (lcS d s).2, x ≤ 7) ∧ (lcS d s).1.out = s.out ∧ L' = rdR p q v most kn :: D' :: E :: Co :: L)) := by
  refine Gv.of_body Tryd.func81 rfl rfl ?_
  have hc := pcount_n p q most 4 4 v kn d s D E L h hl (by decide) he (by decide)
  have hto := tk_out d s 4
  have htv := tv_lt d s 4
  have htt : (tk d s 4).e = 0 → (tk d s 4).t ≤ 8 * d.length := fun h0 => by
    unfold tk at h0 ⊢
    split
    · assumption
    · rw [fl_t]; exact h.1
  unfold lcS
  generalize tv d s 4 = n at hc htv ⊢
  generalize tk d s 4 = s1 at hc hto htt ⊢
  (repeat' first|refine kW ?_|refine kU fun bk=>?_|refine kV fun hc=>?_|refine kZ (fun hc=>?_) fun hc=>?_|fail)
  refine OW_call rfl rfl rfl hc rfl (fun r L' hp => ?_)
  rcases hp with ⟨h1, rfl, rfl⟩ | ⟨h1, rfl, D1, hr1, rfl⟩
  · rw [if_pos h1]
    (repeat' first|refine kW ?_|refine kU fun bk=>?_|refine kV fun hc=>?_|refine kZ (fun hc=>?_) fun hc=>?_|fail)
    refine WQ_retI (rs := [.tmp 2, .tmp 3]) (vs := [.pointer none, .int .i64 (s1.e : Int)]) rfl rfl ?_
    exact ⟨_, iC, .inl ⟨h1, rfl, rfl⟩⟩
  rw [if_neg (show ¬ s1.e ≠ 0 by omega)]
  have hfa := ow_facts d (4 + n) 0 s1 (List.replicate 19 0) h1 (htt h1) (by simp) (by simp)
  generalize hR : owS d (4 + n) 0 s1 (List.replicate 19 0) = R at hfa ⊢
  rw [hto] at hfa
  (repeat' first|refine kW ?_|refine kU fun bk=>?_|refine kV fun hc=>?_|refine kZ (fun hc=>?_) fun hc=>?_|fail)
  refine OW_makeSlice (m := 19) (c := 19) rfl rfl (by rfl) (by omega) (by omega) (by omega) rfl (fun b => ?_)
  rw [zeros_int]
  (repeat' first|refine kW ?_|refine kU fun bk=>?_|refine kV fun hc=>?_|refine kZ (fun hc=>?_) fun hc=>?_|fail)
  unfold rdR
  refine WC_loop (X := Nat × S6 × List Nat × Chunk) (fun x => [(0, .pointer (some ⟨p, 0, none⟩)), (6, .slice (some ⟨b, 0, none⟩) 19 19), (19, .int .i64 ((4 + n : Nat) : Int)), (20, .int .i64 (x.1 : Int))]) (fun x => [(b, cl (ivn x.2.2.1) 3)] :: rdR p q v most kn :: x.2.2.2 :: E :: L)
    (fun x => x.1 ≤ 4 + n ∧ x.2.1.e = 0 ∧ RdN q d x.2.1.t x.2.2.2 E ∧ x.2.2.1.length = 19 ∧ owS d (4 + n - x.1) x.1 x.2.1 x.2.2.1 = R) (fun x => 4 + n - x.1) (0, s1, List.replicate 19 0, D1) ⟨Nat.zero_le _, h1, hr1, by simp, hR⟩ iS (fun w h => h) ?_
  rintro ⟨i, s5, o, D5⟩ ⟨hi, he5, hr5, hol, hsl⟩
  simp only at hi he5 hr5 hol hsl ⊢
  (repeat' first|refine kW ?_|refine kU fun bk=>?_|refine kV fun hc=>?_|refine kZ (fun hc=>?_) fun hc=>?_|fail)
  · obtain ⟨k2, hk2⟩ : ∃ k2, 4 + n - i = k2 + 1 := ⟨4 + n - i - 1, by omega⟩
    have hk3 : 4 + n - (i + 1) = k2 := by omega
    have htk := ptake_n p q most 3 v kn d s5 D5 E ([(b, cl (ivn o) 3)] :: L) hr5 hl (by decide) he5
    rw [hk2, owS] at hsl
    generalize tv d s5 3 = z at htk hsl
    generalize tk d s5 3 = s6 at htk hsl
    refine OW_call rfl rfl rfl (Gv.holds htk (fun w h => iH h)) rfl (fun r L' hp => ?_)
    rcases hp with ⟨h6, rfl, rfl⟩ | ⟨h6, rfl, D6, hr6, rfl⟩
    · rw [if_pos h6] at hsl
      subst hsl
      rw [if_pos (by exact h6)]
      (repeat' first|refine kW ?_|refine kU fun bk=>?_|refine kV fun hc=>?_|refine kZ (fun hc=>?_) fun hc=>?_|fail)
      refine WQ_retI (rs := [.tmp 2, .tmp 3]) (vs := [.pointer none, .int .i64 (s6.e : Int)]) rfl rfl ?_
      exact ⟨_, iC, .inl ⟨h6, rfl, rfl⟩⟩
    rw [if_neg (show ¬ s6.e ≠ 0 by omega)] at hsl
    have ho19 : ordL.getD i 0 < 19 := by
      have : ∀ j, j < 19 → ordL.getD j 0 < 19 := by decide
      exact this i (by omega)
    have hord := sordered_n i ([(b, cl (ivn o) 3)] :: rdR p q v most kn :: D6 :: E :: L) hor.there.there.there.there (by omega)
    unfold rdR at hord
    generalize ordL.getD i 0 = oi at hsl ho19 hord
    (repeat' first|refine kW ?_|refine kU fun bk=>?_|refine kV fun hc=>?_|refine kZ (fun hc=>?_) fun hc=>?_|fail)
    refine OW_callP rfl rfl rfl (GvP.of hord iC iC) rfl ?_
    (repeat' first|refine kW ?_|refine kU fun bk=>?_|refine kV fun hc=>?_|refine kZ (fun hc=>?_) fun hc=>?_|fail)
    refine OW_EV (EV_indexAddr (j := oi) rfl rfl rfl (by omega)) rfl ?_
    (repeat' first|refine kW ?_|refine kU fun bk=>?_|refine kV fun hc=>?_|refine kZ (fun hc=>?_) fun hc=>?_|fail)
    have hse : (ivn o).set (0 + oi * 1) (.int .i64 (z : Int)) = ivn (o.set oi z) := by simp [ivn, List.map_set]
    refine OW_storeTo (ivn (o.set oi z)) rfl rfl rfl hse iU (by rw [ivn_length]; omega) ?_
    (repeat' first|refine kW ?_|refine kU fun bk=>?_|refine kV fun hc=>?_|refine kZ (fun hc=>?_) fun hc=>?_|fail)
    refine WQ_round (X := Nat × S6 × List Nat × Chunk) (μ := fun x => 4 + n - x.1) (x := (i, s5, o, D5)) (i + 1, s6, o.set oi z, D6) (by simp only; omega) ⟨by simp only; omega, h6, hr6, by simp only [List.length_set]; exact hol, by simp only; rw [hk3]; exact hsl⟩ iS (fun w h => iH h)
  · obtain rfl : i = 4 + n := by omega
    rw [show 4 + n - (4 + n) = 0 from by omega, owS] at hsl
    subst hsl
    simp only at hfa
    rw [if_neg (show ¬ (s5, o).1.e ≠ 0 from fun hh => hh he5)]
    have hcc := completeCode_n (some ⟨b, 0, none⟩) 19 o ([(b, cl (ivn o) 3)] :: rdR p q v most kn :: D5 :: E :: L) (by rw [hol]; exact sl_cells (c := (ivn o).toArray) Fnd.here (by rw [ivn_length, hol]) (by simp)) (fun x hx => by have := hfa.2.1 x hx; omega) (by omega)
    rw [hol] at hcc
    unfold rdR at hcc
    refine OW_call rfl rfl rfl hcc rfl (fun r L' hp => ?_)
    rcases hp with ⟨h7, rfl, rfl⟩ | ⟨h7, pc, Co, rfl, rfl, hco⟩
    · rw [if_neg (by exact h7)]
      simp only [fl3 he5]
      (repeat' first|refine kW ?_|refine kU fun bk=>?_|refine kV fun hc=>?_|refine kZ (fun hc=>?_) fun hc=>?_|fail)
      refine kR ?_
      exact ⟨_, iC, .inl ⟨by decide, rfl, rfl⟩⟩
    · rw [if_pos (by exact h7)]
      (repeat' first|refine kW ?_|refine kU fun bk=>?_|refine kV fun hc=>?_|refine kZ (fun hc=>?_) fun hc=>?_|fail)
      refine kR ?_
      exact ⟨_, iC, .inr ⟨he5, pc, Co, D5, rfl, hr5, hco, h7, hfa.1, hfa.2.1, hfa.2.2, rfl⟩⟩
end Go.Proofs.YtdcehmhelfohfaaDoor
namespace Go.Hf
open Go.Vx
set_option linter.all false
theorem rdS_lt2 {l : List Nat} (hl : 0 < l.length) (w t z : Nat) : ∀ f n, (rdS l w t z f n).1 < l.length
  | 0, n => by simpa [rdS] using hl
  | f + 1, n => by
    have ih := rdS_lt2 hl w t z f (n + 1)
    unfold rdS
    split
    · rename_i i h
      exact (symAt_lt h).1
    · split
      · exact hl
      · split
        · exact hl
        · exact ih
end Go.Hf
namespace Go.If
open Go.Vx Go.Hf
set_option linter.all false
theorem sv_lt [W0] (d : List UInt8) (s : S6) {l : List Nat} (h : 0 < l.length) : sv d s l < l.length := by
  unfold sv
  split
  · exact rdS_lt2 h _ _ _ _ _
  · exact h
theorem rpV_le {k : Nat} {l : List Nat} (hk : k < 19) (h : ∀ x ∈ l, x ≤ 15) : rpV k l ≤ 15 := by
  unfold rpV
  split
  · by_cases hl : l.length - 1 < l.length
    · rw [show l.getD (l.length - 1) 0 = l[l.length - 1] from by simp [List.getD, hl]]
      exact h _ (List.getElem_mem hl)
    · rw [show l.getD (l.length - 1) 0 = 0 from by simp [List.getD, List.getElem?_eq_none (Nat.le_of_not_lt hl)]]
      omega
  · split
    · omega
    · omega
def lgS [W0] (d : List UInt8) (m : Nat) (s : S6) : S6 × List Nat := if (lcS d s).1.e ≠ 0 then ((lcS d s).1, []) else lpS d (lcS d s).2 m m (lcS d s).1 []
theorem dyT_eq [W0] (d : List UInt8) (n1 n2 : Nat) (s : S6) : dyT d n1 n2 s = if (lgS d (n1 + n2) s).1.e ≠ 0 then ((lgS d (n1 + n2) s).1, [], 0) else dyK n1 (lgS d (n1 + n2) s) := by
  unfold dyT lgS
  by_cases h : (lcS d s).1.e ≠ 0
  · simp only [if_pos h]
  · simp only [if_neg h]
end Go.If
namespace Go.Proofs.YtdcehmhelfohfaaDoor
open Go Go.Vx Go.Hf Go.If
variable [W0]
set_option maxRecDepth 4000
set_option linter.all false
set_option maxHeartbeats 8000000 in
theorem plengths_n (p q most m : Nat) (v kn : Value) (d : List UInt8) (s : S6) (D E : Chunk) (L : List Chunk) (h : RdN q d s.t D E) (hl : d.length ≤ 140737488355328) (he : s.e = 0) (hor : OrAt L) (hm : m ≤ 400) :
    Gv Tryd.prog 71 [.pointer (some ⟨p, 0, none⟩), .int .i64 (m : Int)].toArray (rdR p q v most kn :: D :: E :: L) (fun r L' =>
      ((lgS d m s).1.e ≠ 0 ∧ r = .tuple #[.slice none 0 0, .int .i64 ((lgS d m s).1.e : Int)] ∧ L' = L) ∨
      ((lgS d m s).1.e = 0 ∧ ∃ u Cq D', r = .tuple #[u, .int .i64 0] ∧ RdN q d (lgS d m s).1.t D' E ∧ Ow 3 1 u m (ivn (lgS d m s).2) Cq ∧ (lgS d m s).2.length = m ∧ (∀ x ∈ (lgS d m s).2, x ≤ 15) ∧ (lgS d m s).1.out = s.out ∧ L' = Cq :: rdR p q v most kn :: D' :: E :: L)) := by
  refine Gv.of_body Tryd.func71 rfl rfl ?_
  have hlc := lengthCode_n p q most v kn d s D E L h hl he hor
  unfold lgS
  generalize lcS d s = S at hlc ⊢
  obtain ⟨S1, own⟩ := S
  simp only at hlc ⊢
  (repeat' first|refine kW ?_|refine kU fun bk=>?_|refine kV fun hc=>?_|refine kZ (fun hc=>?_) fun hc=>?_|fail)
  refine OW_call rfl rfl rfl hlc rfl (fun r L' hp => ?_)
  rcases hp with ⟨h1, rfl, rfl⟩ | ⟨h1, pc, Co, D1, rfl, hr1, hco, hks, hol, ho7, hout, rfl⟩
  · rw [if_pos h1]
    (repeat' first|refine kW ?_|refine kU fun bk=>?_|refine kV fun hc=>?_|refine kZ (fun hc=>?_) fun hc=>?_|fail)
    refine WQ_retI (rs := [.tmp 4, .tmp 5]) (vs := [.slice none 0 0, .int .i64 (S1.e : Int)]) rfl rfl ?_
    exact ⟨_, iC, .inl ⟨h1, rfl, rfl⟩⟩
  rw [if_neg (show ¬ S1.e ≠ 0 by omega)]
  generalize hQ : lpS d own m m S1 [] = Q
  obtain ⟨q1, q2⟩ := Q
  simp only
  unfold rdR
  (repeat' first|refine kW ?_|refine kU fun bk=>?_|refine kV fun hc=>?_|refine kZ (fun hc=>?_) fun hc=>?_|fail)
  refine WC_loop (X := Nat × S6 × List Nat × Value × Chunk × Chunk) (fun x => [(0, .pointer (some ⟨p, 0, none⟩)), (1, .int .i64 (m : Int)), (6, .pointer (some ⟨pc, 0, none⟩)), (8, x.2.2.2.1)]) (fun x => x.2.2.2.2.1 :: rdR p q v most kn :: x.2.2.2.2.2 :: E :: Co :: L)
    (fun x => x.2.1.e = 0 ∧ x.2.2.1.length ≤ m ∧ m ≤ x.1 + x.2.2.1.length ∧ (∀ y ∈ x.2.2.1, y ≤ 15) ∧ Ow 3 1 x.2.2.2.1 x.2.2.1.length (ivn x.2.2.1) x.2.2.2.2.1 ∧ RdN q d x.2.1.t x.2.2.2.2.2 E ∧ x.2.1.out = S1.out ∧ lpS d own m x.1 x.2.1 x.2.2.1 = (q1, q2)) (fun x => x.1)
    (m, S1, [], .slice none 0 0, [], D1) ⟨h1, Nat.zero_le _, by simp, by simp, .inl ⟨rfl, rfl, rfl, rfl⟩, hr1, rfl, hQ⟩ iS (fun w h => Holds.nil.2 h) ?_
  rintro ⟨f, s5, l, u, Cq, D5⟩ ⟨he5, hlm, hf, hl15, hou, hr5, hout5, hsl⟩
  simp only at he5 hlm hf hl15 hou hr5 hout5 hsl ⊢
  obtain ⟨ua, uc, rfl⟩ := ow_slc hou
  unfold rdR
  (repeat' first|refine kW ?_|refine kU fun bk=>?_|refine kV fun hc=>?_|refine kZ (fun hc=>?_) fun hc=>?_|fail)
  · have hlt : l.length < m := by omega
    obtain ⟨g, rfl⟩ : ∃ z, f = z + 1 := ⟨f - 1, by omega⟩
    rw [lpS, if_pos ⟨he5, hlt⟩] at hsl
    have hsy := psym_n q pc own d s5 D5 E Co (Cq :: rdR p q v most kn :: L) hr5 hl he5 hco (by omega) (fun x hx => by have := ho7 x hx; omega) (by omega)
    have hk19 := sv_lt d s5 (l := own) (by omega)
    have hso := sy_out d s5 own
    unfold rpS rpL at hsl
    generalize sv d s5 own = k at hsy hk19 hsl
    generalize sy d s5 own = s6 at hsy hso hsl
    unfold rdR at hsy
    refine OW_call rfl rfl rfl (Gv.holds hsy (fun w h => iH h)) rfl (fun r L' hp => ?_)
    obtain ⟨D6, rfl, hr6, rfl⟩ := hp
    (repeat' first|refine kW ?_|refine kU fun bk=>?_|refine kV fun hc=>?_|refine kZ (fun hc=>?_) fun hc=>?_|fail)
    · have h6 : s6.e ≠ 0 := by omega
      rw [if_pos h6, if_neg h6] at hsl
      injection hsl with e1 e2
      subst e1 e2
      refine WQ_retI (rs := [.tmp 4, .tmp 5]) (vs := [.slice none 0 0, .int .i64 (s6.e : Int)]) rfl rfl ?_
      exact ⟨_, iC, .inl ⟨h6, rfl, rfl⟩⟩
    have h6 : s6.e = 0 := by omega
    rw [if_neg (show ¬ s6.e ≠ 0 by omega)] at hsl
    have hrun := prun_n p q most k v kn d s6 D6 E (Co :: Cq :: L) hr6 hl h6 (by omega)
    have hto := tk_out d s6 (rpB k)
    have htv := tv_lt d s6 (rpB k)
    have hpw : 2 ^ rpB k ≤ 2 ^ 7 := Nat.pow_le_pow_right (by decide) (rpB_le k)
    have hra := rpA_pos k
    have hrv := rpV_le (l := l) (k := k) (by omega) hl15
    obtain ⟨n, hn⟩ : ∃ n, n = rpA k + tv d s6 (rpB k) := ⟨_, rfl⟩
    rw [← hn] at hrun hsl
    have hn1 : 1 ≤ n ∧ n ≤ 140 := by omega
    generalize tk d s6 (rpB k) = s7 at hrun hto hsl
    unfold rdR at hrun
    refine OW_call rfl rfl rfl (Gv.holds hrun (fun w h => iH h)) rfl (fun r L' hp => ?_)
    rcases hp with ⟨h7, rfl, rfl⟩ | ⟨h7, rfl, D7, hr7, rfl⟩
    · rw [if_pos h7, if_neg h7] at hsl
      injection hsl with e1 e2
      subst e1 e2
      (repeat' first|refine kW ?_|refine kU fun bk=>?_|refine kV fun hc=>?_|refine kZ (fun hc=>?_) fun hc=>?_|fail)
      refine WQ_retI (rs := [.tmp 4, .tmp 5]) (vs := [.slice none 0 0, .int .i64 (s7.e : Int)]) rfl rfl ?_
      exact ⟨_, iC, .inl ⟨h7, rfl, rfl⟩⟩
    rw [if_neg (show ¬ s7.e ≠ 0 by omega)] at hsl
    have hbad : (k = 16 ∧ l = []) ∨ m < l.length + n → q1.e = 3 := by
      intro hb
      rw [if_pos hb, if_neg (by rw [fl3 h7]; decide)] at hsl
      injection hsl with e1 e2
      rw [← e1, fl3 h7]
    have hne : l.length = 0 ↔ l = [] := List.length_eq_zero_iff
    (repeat' first|refine kW ?_|refine kU fun bk=>?_|refine kV fun hc=>?_|refine kZ (fun hc=>?_) fun hc=>?_|fail)
    · rw [hbad (.inl ⟨by omega, hne.1 (by omega)⟩)]
      refine WQ_retI (rs := [.tmp 4, .tmp 5]) (vs := [.slice none 0 0, .int .i64 3]) rfl rfl ?_
      exact ⟨_, iC, .inl ⟨by decide, rfl, rfl⟩⟩
    · rw [hbad (.inr (by omega))]
      refine WQ_retI (rs := [.tmp 4, .tmp 5]) (vs := [.slice none 0 0, .int .i64 3]) rfl rfl ?_
      exact ⟨_, iC, .inl ⟨by decide, rfl, rfl⟩⟩
    · have hg : ¬ ((k = 16 ∧ l = []) ∨ m < l.length + n) := by
        rintro (⟨h1, h2⟩ | h2)
        · have := hne.2 h2; omega
        · omega
      rw [if_neg hg, if_pos h7] at hsl
      have hlo := lengthOf_n k ua uc l (rdR p q v most kn :: D7 :: E :: Co :: Cq :: L) (sl_there (sl_there (sl_there (sl_there (ow_sl hou))))) (by omega) (by omega) (fun hh => hg (.inl hh))
      unfold rdR at hlo
      generalize rpV k l = rv at hlo hrv hsl
      refine OW_callP rfl rfl rfl hlo rfl ?_
      (repeat' first|refine kW ?_|refine kU fun bk=>?_|refine kV fun hc=>?_|refine kZ (fun hc=>?_) fun hc=>?_|fail)
      refine OW_buildSlice (cs := [.int .i64 (rv : Int)]) rfl (by rfl) (by first | (simp [fillL, patch, Value.cells, zeros]; done) | (simp [fillL, patch, Value.cells, zeros]; rfl)) (by omega) rfl rfl (fun b => ?_)
      (repeat' first|refine kW ?_|refine kU fun bk=>?_|refine kV fun hc=>?_|refine kZ (fun hc=>?_) fun hc=>?_|fail)
      refine OW_call rfl rfl rfl (repeat_n b rv n _ Fnd.here hn1.1 (by omega)) rfl (fun r L' hp => ?_)
      obtain ⟨Ct, rfl, hot⟩ := hp
      (repeat' first|refine kW ?_|refine kU fun bk=>?_|refine kV fun hc=>?_|refine kZ (fun hc=>?_) fun hc=>?_|fail)
      refine OW_append rfl rfl hou (ow_sl hot) (by repeat (first | exact Zip.here _ | apply Zip.there)) rfl ivn_ones (by omega) (by simp [maxLen]; omega) rfl (fun v' C' ho' _ _ => ?_)
      rw [← ivn_app] at ho'
      (repeat' first|refine kW ?_|refine kU fun bk=>?_|refine kV fun hc=>?_|refine kZ (fun hc=>?_) fun hc=>?_|fail)
      refine WQ_round (X := Nat × S6 × List Nat × Value × Chunk × Chunk) (μ := fun x => x.1) (x := (g + 1, s5, l, .slice ua l.length uc, Cq, D5)) (g, s7, l ++ List.replicate n rv, v', C', D7) (by simp only; omega) ⟨h7, by simp; omega, by simp; omega, fun y hy => ?_, by simpa using ho', hr7, by rw [hto, hso, hout5], hsl⟩ iS (fun w h => iH h)
      rcases List.mem_append.1 hy with hy | hy
      · exact hl15 y hy
      · rw [List.eq_of_mem_replicate hy]; exact hrv
    · rw [hbad (.inr (by omega))]
      refine WQ_retI (rs := [.tmp 4, .tmp 5]) (vs := [.slice none 0 0, .int .i64 3]) rfl rfl ?_
      exact ⟨_, iC, .inl ⟨by decide, rfl, rfl⟩⟩
    · have hg : ¬ ((k = 16 ∧ l = []) ∨ m < l.length + n) := by
        rintro (⟨h1, h2⟩ | h2)
        · have := hne.2 h2; omega
        · omega
      rw [if_neg hg, if_pos h7] at hsl
      have hlo := lengthOf_n k ua uc l (rdR p q v most kn :: D7 :: E :: Co :: Cq :: L) (sl_there (sl_there (sl_there (sl_there (ow_sl hou))))) (by omega) (by omega) (fun hh => hg (.inl hh))
      unfold rdR at hlo
      generalize rpV k l = rv at hlo hrv hsl
      refine OW_callP rfl rfl rfl hlo rfl ?_
      (repeat' first|refine kW ?_|refine kU fun bk=>?_|refine kV fun hc=>?_|refine kZ (fun hc=>?_) fun hc=>?_|fail)
      refine OW_buildSlice (cs := [.int .i64 (rv : Int)]) rfl (by rfl) (by first | (simp [fillL, patch, Value.cells, zeros]; done) | (simp [fillL, patch, Value.cells, zeros]; rfl)) (by omega) rfl rfl (fun b => ?_)
      (repeat' first|refine kW ?_|refine kU fun bk=>?_|refine kV fun hc=>?_|refine kZ (fun hc=>?_) fun hc=>?_|fail)
      refine OW_call rfl rfl rfl (repeat_n b rv n _ Fnd.here hn1.1 (by omega)) rfl (fun r L' hp => ?_)
      obtain ⟨Ct, rfl, hot⟩ := hp
      (repeat' first|refine kW ?_|refine kU fun bk=>?_|refine kV fun hc=>?_|refine kZ (fun hc=>?_) fun hc=>?_|fail)
      refine OW_append rfl rfl hou (ow_sl hot) (by repeat (first | exact Zip.here _ | apply Zip.there)) rfl ivn_ones (by omega) (by simp [maxLen]; omega) rfl (fun v' C' ho' _ _ => ?_)
      rw [← ivn_app] at ho'
      (repeat' first|refine kW ?_|refine kU fun bk=>?_|refine kV fun hc=>?_|refine kZ (fun hc=>?_) fun hc=>?_|fail)
      refine WQ_round (X := Nat × S6 × List Nat × Value × Chunk × Chunk) (μ := fun x => x.1) (x := (g + 1, s5, l, .slice ua l.length uc, Cq, D5)) (g, s7, l ++ List.replicate n rv, v', C', D7) (by simp only; omega) ⟨h7, by simp; omega, by simp; omega, fun y hy => ?_, by simpa using ho', hr7, by rw [hto, hso, hout5], hsl⟩ iS (fun w h => iH h)
      rcases List.mem_append.1 hy with hy | hy
      · exact hl15 y hy
      · rw [List.eq_of_mem_replicate hy]; exact hrv
  · have hlt : l.length = m := by omega
    have hq : lpS d own m f s5 l = (s5, l) := by
      cases f with
      | zero => rfl
      | succ f => rw [lpS, if_neg (fun hh => by omega)]
    rw [hq] at hsl
    injection hsl with e1 e2
    subst e1 e2
    rw [hlt] at hou
    rw [hlt]
    refine kR ?_
    exact ⟨_, iC, .inr ⟨he5, _, Cq, D5, rfl, hr5, hou, (by first | exact hlt | rfl), hl15, by rw [hout5, hout], rfl⟩⟩
end Go.Proofs.YtdcehmhelfohfaaDoor
namespace Go.If
open Go.Vx Go.Hf
set_option linter.all false
def dbS [W0] (d : List UInt8) (most : Nat) (s : S6) : S6 :=
  if (dyS d s).1.e ≠ 0 then (dyS d s).1 else cdC d most ((dyS d s).2.1.take (dyS d s).2.2) ((dyS d s).2.1.drop (dyS d s).2.2) (8 * d.length + 1) (dyS d s).1
end Go.If
namespace Go.Proofs.YtdcehmhelfohfaaDoor
open Go Go.Vx Go.Hf Go.If
variable [W0]
set_option maxRecDepth 4000
set_option linter.all false
set_option maxHeartbeats 8000000 in
theorem codes_n (p q most : Nat) (v kn : Value) (d : List UInt8) (s : S6) (D E : Chunk) (L : List Chunk) (h : RdN q d s.t D E) (hl : d.length ≤ 140737488355328) (he : s.e = 0) (hor : OrAt L) :
    Gv Tryd.prog 59 [.pointer (some ⟨p, 0, none⟩)].toArray (rdR p q v most kn :: D :: E :: L) (fun r L' =>
      ((dyS d s).1.e ≠ 0 ∧ r = .tuple #[.pointer none, .int .i64 ((dyS d s).1.e : Int)] ∧ L' = L) ∨
      ((dyS d s).1.e = 0 ∧ ∃ pc pl pd Cl Cd D' l dl, r = .tuple #[.pointer (some ⟨pc, 0, none⟩), .int .i64 0] ∧ l = (dyS d s).2.1.take (dyS d s).2.2 ∧ dl = (dyS d s).2.1.drop (dyS d s).2.2 ∧ RdN q d (dyS d s).1.t D' E ∧ CoD l pl Cl ∧ CoD dl pd Cd ∧ kS l ≤ 32768 ∧ (∀ x ∈ l, x ≤ 15) ∧ l.length ≤ 400 ∧ kS dl ≤ 32768 ∧ (∀ x ∈ dl, x ≤ 15) ∧ dl.length ≤ 400 ∧
        (dyS d s).1.out = s.out ∧ L' = csC pc pl pd :: Cl :: Cd :: rdR p q v most kn :: D' :: E :: L)) := by
  refine Gv.of_body Tryd.func59 rfl rfl ?_
  have hc1 := pcount_n p q most 5 257 v kn d s D E L h hl (by decide) he (by decide)
  have htv := tv_lt d s 5
  have hto := tk_out d s 5
  unfold dyS
  generalize tv d s 5 = z1 at hc1 htv ⊢
  generalize tk d s 5 = s1 at hc1 hto ⊢
  (repeat' first|refine kW ?_|refine kU fun bk=>?_|refine kV fun hc=>?_|refine kZ (fun hc=>?_) fun hc=>?_|fail)
  refine OW_call rfl rfl rfl hc1 rfl (fun r L' hp => ?_)
  rcases hp with ⟨h1, rfl, rfl⟩ | ⟨h1, rfl, D1, hr1, rfl⟩
  · rw [if_pos h1]
    (repeat' first|refine kW ?_|refine kU fun bk=>?_|refine kV fun hc=>?_|refine kZ (fun hc=>?_) fun hc=>?_|fail)
    refine WQ_retI (rs := [.tmp 2, .tmp 3]) (vs := [.pointer none, .int .i64 (s1.e : Int)]) rfl rfl ?_
    exact ⟨_, iC, .inl ⟨h1, rfl, rfl⟩⟩
  rw [if_neg (show ¬ s1.e ≠ 0 by omega)]
  have hc2 := pcount_n p q most 5 1 v kn d s1 D1 E L hr1 hl (by decide) h1 (by decide)
  have htv2 := tv_lt d s1 5
  have hto2 := tk_out d s1 5
  generalize tv d s1 5 = z2 at hc2 htv2 ⊢
  generalize tk d s1 5 = s2 at hc2 hto2 ⊢
  (repeat' first|refine kW ?_|refine kU fun bk=>?_|refine kV fun hc=>?_|refine kZ (fun hc=>?_) fun hc=>?_|fail)
  · rw [if_pos (show 29 < z1 by omega)]
    simp only [fl3 h1]
    refine WQ_retI (rs := [.tmp 2, .tmp 3]) (vs := [.pointer none, .int .i64 3]) rfl rfl ?_
    exact ⟨_, iC, .inl ⟨by decide, rfl, rfl⟩⟩
  rw [if_neg (show ¬ 29 < z1 by omega)]
  refine OW_call rfl rfl rfl hc2 rfl (fun r L' hp => ?_)
  rcases hp with ⟨h2, rfl, rfl⟩ | ⟨h2, rfl, D2, hr2, rfl⟩
  · rw [if_pos h2]
    (repeat' first|refine kW ?_|refine kU fun bk=>?_|refine kV fun hc=>?_|refine kZ (fun hc=>?_) fun hc=>?_|fail)
    refine WQ_retI (rs := [.tmp 2, .tmp 3]) (vs := [.pointer none, .int .i64 (s2.e : Int)]) rfl rfl ?_
    exact ⟨_, iC, .inl ⟨h2, rfl, rfl⟩⟩
  rw [if_neg (show ¬ s2.e ≠ 0 by omega)]
  (repeat' first|refine kW ?_|refine kU fun bk=>?_|refine kV fun hc=>?_|refine kZ (fun hc=>?_) fun hc=>?_|fail)
  · rw [if_pos (show 29 < z2 by omega)]
    simp only [fl3 h2]
    refine WQ_retI (rs := [.tmp 2, .tmp 3]) (vs := [.pointer none, .int .i64 3]) rfl rfl ?_
    exact ⟨_, iC, .inl ⟨by decide, rfl, rfl⟩⟩
  rw [if_neg (show ¬ 29 < z2 by omega), dyT_eq]
  obtain ⟨n1, hn1⟩ : ∃ n1, n1 = 257 + z1 := ⟨_, rfl⟩
  obtain ⟨n2, hn2⟩ : ∃ n2, n2 = 1 + z2 := ⟨_, rfl⟩
  rw [← hn1, ← hn2]
  have hle := plengths_n p q most (n1 + n2) v kn d s2 D2 E L hr2 hl h2 hor (by omega)
  generalize lgS d (n1 + n2) s2 = Q at hle ⊢
  obtain ⟨q1, q2⟩ := Q
  simp only at hle ⊢
  rw [← Int.natCast_add]
  refine OW_call rfl rfl rfl hle rfl (fun r L' hp => ?_)
  rcases hp with ⟨h3, rfl, rfl⟩ | ⟨h3, u, Cq, D3, rfl, hr3, hou, hql, hq15, hout, rfl⟩
  · rw [if_pos h3]
    (repeat' first|refine kW ?_|refine kU fun bk=>?_|refine kV fun hc=>?_|refine kZ (fun hc=>?_) fun hc=>?_|fail)
    refine WQ_retI (rs := [.tmp 2, .tmp 3]) (vs := [.pointer none, .int .i64 (q1.e : Int)]) rfl rfl ?_
    exact ⟨_, iC, .inl ⟨h3, rfl, rfl⟩⟩
  rw [if_neg (show ¬ q1.e ≠ 0 by omega)]
  unfold dyK
  simp only
  have hov2 := hou
  rcases hov2 with ⟨_, h0, _⟩ | ⟨b, cap, rest, rfl, rfl, hxl, hrl, hmc, hcm⟩
  · omega
  have hl4 : ∀ x ∈ q2.take n1, x ≤ 15 := fun x hx => hq15 x (List.mem_of_mem_take hx)
  have hd4 : ∀ x ∈ q2.drop n1, x ≤ 15 := fun x hx => hq15 x (List.mem_of_mem_drop hx)
  have hln : (q2.take n1).length = n1 := by simp; omega
  have hdn : (q2.drop n1).length = n2 := by simp; omega
  obtain ⟨x, hx⟩ : ∃ x, q2[256]? = some x := ⟨q2[256], List.getElem?_eq_getElem (by omega)⟩
  have hcell : (ivn q2 ++ rest).toArray[0 + 256 * 1]? = some (.int .i64 (x : Int)) := by
    have h5 := ivn_get hx
    have h6 := (List.getElem?_eq_some_iff.1 h5).1
    rw [List.getElem?_toArray, List.getElem?_append_left (by simpa using h6)]
    simpa using h5
  rw [show q2.getD 256 0 = x from by simp [List.getD, hx]]
  (repeat' first|refine kW ?_|refine kU fun bk=>?_|refine kV fun hc=>?_|refine kZ (fun hc=>?_) fun hc=>?_|fail)
  refine OW_EV (EV_indexAddr (j := 256) rfl rfl rfl (by omega)) rfl ?_
  (repeat' first|refine kW ?_|refine kU fun bk=>?_|refine kV fun hc=>?_|refine kZ (fun hc=>?_) fun hc=>?_|fail)
  refine OW_EV (EV_load rfl Fnd.here hcell) rfl ?_
  (repeat' first|refine kW ?_|refine kU fun bk=>?_|refine kV fun hc=>?_|refine kZ (fun hc=>?_) fun hc=>?_|fail)
  · rw [if_neg (fun hh => hh.1 (by omega))]
    simp only [fl3 h3]
    refine WQ_retI (rs := [.tmp 2, .tmp 3]) (vs := [.pointer none, .int .i64 3]) rfl rfl ?_
    exact ⟨_, iC, .inl ⟨by decide, rfl, rfl⟩⟩
  have hco := codesOf_n (some ⟨b, 0, none⟩) (some ⟨b, n1 * 1, none⟩) cap (cap - n1) (q2.take n1) (q2.drop n1) ([(b, cl (ivn q2 ++ rest) 3)] :: rdR p q v most kn :: D3 :: E :: L)
    (.inr ⟨_, _, by rw [hln], RdAt.cl' (l := ivn q2 ++ rest) Fnd.here (by
      rw [ivn_length, hln]; unfold cut ivn
      rw [List.drop_zero, List.take_append_of_le_length (by simp; omega), List.map_take]), by rw [ivn_length]; simp⟩) hl4 (by omega)
    (.inr ⟨_, _, by rw [hdn], RdAt.cl' (l := ivn q2 ++ rest) Fnd.here (by
      rw [ivn_length, hdn]; unfold cut ivn
      rw [List.drop_append_of_le_length (by simp; omega), List.take_append_of_le_length (by simp; omega), Nat.mul_one, ← List.map_drop, ← List.map_take, List.take_of_length_le (by omega)]), by rw [ivn_length]; simp⟩) hd4 (by omega)
  rw [hln, hdn] at hco
  refine WC_draw [] [] mixed ?_
  (refine WR_t 0 ?_; refine WR_t 1 ?_)
  (refine WR_take 2 rfl rfl (by kernel_rfl) iP iC (EV_sliceTo (h := n1) rfl rfl rfl (by omega)) (by rfl) ?_)
  (refine WR_t 3 ?_; refine WR_t 4 ?_)
  (refine WR_take 5 rfl rfl (by kernel_rfl) iP iC (EV_sliceFrom0 (l := n1) (h := n1 + n2) rfl rfl rfl (by omega) (by omega) (by omega)) (by rfl) ?_)
  rw [show n1 + n2 - n1 = n2 from by omega]
  (refine WR_one 6 (by kernel_rfl) rfl rfl ?_)
  refine OW_call rfl rfl rfl hco rfl (fun r L' hp => ?_)
  rcases hp with ⟨h4, rfl, rfl⟩ | ⟨h4, pc, pl, pd, Cl, Cd, rfl, rfl, hcl, hcd⟩
  · refine ⟨iC, ?_⟩
    (refine WR_t 7 ?_; refine WR_t 8 ?_; refine WR_t 9 ?_; refine WR_t 10 ?_)
    (refine WR_done (by kernel_rfl) ?_)
    rw [if_neg (fun hh => h4 hh.2)]
    simp only [fl3 h3]
    (repeat' first|refine kW ?_|refine kU fun bk=>?_|refine kV fun hc=>?_|refine kZ (fun hc=>?_) fun hc=>?_|fail)
    refine kR ?_
    exact ⟨_, iC, .inl ⟨by decide, rfl, rfl⟩⟩
  · refine ⟨iC, ?_⟩
    (refine WR_t 7 ?_; refine WR_t 8 ?_; refine WR_t 9 ?_; refine WR_t 10 ?_)
    (refine WR_done (by kernel_rfl) ?_)
    rw [if_pos ⟨by omega, h4⟩]
    have hks := kS_sum (q2.drop n1)
    have hkd : kS (q2.drop n1) ≤ 32768 := by
      rcases h4.2 with h | h
      · omega
      · rw [sgl_sum] at h
        have := of_decide_eq_true h
        omega
    have h41 := h4.1
    (repeat' first|refine kW ?_|refine kU fun bk=>?_|refine kV fun hc=>?_|refine kZ (fun hc=>?_) fun hc=>?_|fail)
    refine kR ?_
    exact ⟨_, iC, .inr ⟨h3, pc, pl, pd, Cl, Cd, D3, _, _, rfl, rfl, rfl, hr3, hcl, hcd, (show kS (q2.take n1) ≤ 32768 by omega), hl4, (show (q2.take n1).length ≤ 400 by omega), hkd, hd4, (show (q2.drop n1).length ≤ 400 by omega), by rw [hout, hto2, hto], rfl⟩⟩
set_option maxHeartbeats 4000000 in
theorem pdynamic_n (p q most : Nat) (v kn : Value) (d : List UInt8) (s : S6) (D E C : Chunk) (L : List Chunk) (h : RdN q d s.t D E) (hl : d.length ≤ 140737488355328) (he : s.e = 0) (hm : most ≤ 1000000) (hkn : kn.oneCell' = true) (hor : OrAt L)
    (ho : Ow 5 1 v s.out.length (bsv s.out) C) (hom : s.out.length ≤ most) :
    Gv Tryd.prog 47 [.pointer (some ⟨p, 0, none⟩)].toArray (rdR p q v most kn :: D :: E :: C :: L) (fun r L' =>
      ((dbS d most s).e ≠ 0 ∧ r = .int .i64 ((dbS d most s).e : Int) ∧ L' = L) ∨
      ((dbS d most s).e = 0 ∧ r = .int .i64 0 ∧ ∃ v' D' C', Ow 5 1 v' (dbS d most s).out.length (bsv (dbS d most s).out) C' ∧ (dbS d most s).out.length ≤ most ∧ RdN q d (dbS d most s).t D' E ∧ L' = rdR p q v' most kn :: D' :: E :: C' :: L)) := by
  refine Gv.of_body Tryd.func47 rfl rfl ?_
  have hco := codes_n p q most v kn d s D E (C :: L) h hl he hor.there
  unfold dbS
  generalize dyS d s = Y at hco ⊢
  obtain ⟨s1, ly, ny⟩ := Y
  simp only at hco ⊢
  (repeat' first|refine kW ?_|refine kU fun bk=>?_|refine kV fun hc=>?_|refine kZ (fun hc=>?_) fun hc=>?_|fail)
  refine OW_call rfl rfl rfl hco rfl (fun r L' hp => ?_)
  rcases hp with ⟨h1, rfl, rfl⟩ | ⟨h1, pc, pl, pd, Cl, Cd, D1, l, dl, rfl, rfl, rfl, hr1, hcl, hcd, hk1, h151, hl4, hk2, h152, hd4, hout, rfl⟩
  · rw [if_pos h1]
    (repeat' first|refine kW ?_|refine kU fun bk=>?_|refine kV fun hc=>?_|refine kZ (fun hc=>?_) fun hc=>?_|fail)
    refine kR ?_
    exact ⟨_, iC, .inl ⟨h1, rfl, rfl⟩⟩
  rw [if_neg (show ¬ s1.e ≠ 0 by omega)]
  rw [← hout] at ho hom
  have hcd2 := pcoded_n p q pc pl pd most v kn (ly.take ny) (ly.drop ny) d s1 D1 E C Cl Cd L hr1 hl h1 hm hkn ho hom hcl hk1 h151 hl4 hcd hk2 h152 hd4
  generalize cdC d most (ly.take ny) (ly.drop ny) (8 * d.length + 1) s1 = R at hcd2 ⊢
  (repeat' first|refine kW ?_|refine kU fun bk=>?_|refine kV fun hc=>?_|refine kZ (fun hc=>?_) fun hc=>?_|fail)
  refine OW_call rfl rfl rfl (Gv.holds hcd2 (fun w h => iH h)) rfl (fun r L' hp => ?_)
  rcases hp with ⟨h2, rfl, rfl⟩ | ⟨h2, rfl, v', D', C', ho', hl', hr', rfl⟩
  · (repeat' first|refine kW ?_|refine kU fun bk=>?_|refine kV fun hc=>?_|refine kZ (fun hc=>?_) fun hc=>?_|fail)
    refine kR ?_
    exact ⟨_, iC, .inl ⟨h2, rfl, rfl⟩⟩
  · (repeat' first|refine kW ?_|refine kU fun bk=>?_|refine kV fun hc=>?_|refine kZ (fun hc=>?_) fun hc=>?_|fail)
    refine kR ?_
    exact ⟨_, iC, .inr ⟨h2, rfl, v', D', C', ho', hl', hr', rfl⟩⟩
end Go.Proofs.YtdcehmhelfohfaaDoor
namespace Go.If
open Go.Vx Go.Hf
set_option linter.all false
structure Le (a b : S6) : Prop where
  t : a.t ≤ b.t
  o : a.out.length ≤ b.out.length
theorem Le.rfl' (a : S6) : Le a a := ⟨Nat.le_refl _, Nat.le_refl _⟩
theorem Le.tr {a b c : S6} (h : Le a b) (h2 : Le b c) : Le a c := ⟨Nat.le_trans h.t h2.t, Nat.le_trans h.o h2.o⟩
theorem fl_le (s : S6) (k : Nat) : Le s (fl s k) := ⟨by rw [fl_t]; exact Nat.le_refl _, by rw [fl_out]; exact Nat.le_refl _⟩
theorem tk_le (d : List UInt8) (s : S6) (n : Nat) : Le s (tk d s n) := ⟨tk_t d s n, by rw [tk_out]; exact Nat.le_refl _⟩
theorem sy_o [W0] (d : List UInt8) (s : S6) (l : List Nat) : (sy d s l).out = s.out := by
  unfold sy
  split
  · exact fl_out _ _
  · rfl
theorem sy_le [W0] (d : List UInt8) (s : S6) (l : List Nat) : Le s (sy d s l) := ⟨sy_t d s l, by rw [sy_o]; exact Nat.le_refl _⟩
theorem pt_le (most : Nat) (s : S6) (c : UInt8) : Le s (pt most s c) := by
  by_cases h : s.out.length < most
  · rw [pt_ok h]; exact ⟨Nat.le_refl _, by simp⟩
  · rw [pt_no (by omega)]; exact fl_le _ _
theorem cpL_le (most far : Nat) : ∀ n s, Le s (cpL most far n s)
  | 0, s => Le.rfl' s
  | n + 1, s => by
    rw [cpL]
    split
    · exact (pt_le _ _ _).tr (cpL_le most far n _)
    · exact Le.rfl' s
theorem mtS_le [W0] (d : List UInt8) (most k : Nat) (dl : List Nat) (s : S6) : Le s (mtS d most k dl s) := by
  unfold mtS
  have h1 := tk_le d s (lnB k).2
  have h2 := sy_le d (tk d s (lnB k).2) dl
  generalize tk d s (lnB k).2 = s1 at h1 h2 ⊢
  have h3 := h1.tr h2
  split
  · exact fl_le _ _
  · split
    · exact h3
    · split
      · exact h3.tr (fl_le _ _)
      · unfold mtD
        refine h3.tr (Le.tr ?_ (cpL_le _ _ _ _))
        split
        · exact (tk_le _ _ _).tr (fl_le _ _)
        · exact tk_le _ _ _
theorem cdC_le [W0] (d : List UInt8) (most : Nat) (l dl : List Nat) : ∀ f s, Le s (cdC d most l dl f s)
  | 0, s => Le.rfl' s
  | f + 1, s => by
    rw [cdC]
    have h := sy_le d s l
    split
    · exact Le.rfl' s
    · split
      · exact h
      · split
        · exact h.tr ((pt_le _ _ _).tr (cdC_le d most l dl f _))
        · split
          · exact h
          · exact h.tr ((mtS_le _ _ _ _ _).tr (cdC_le d most l dl f _))
theorem stL_le [W0] (d : List UInt8) (most : Nat) : ∀ k s, Le s (stL d most k s)
  | 0, s => Le.rfl' s
  | k + 1, s => by
    rw [stL]
    have h := tk_le d s 8
    split
    · refine Le.tr ?_ (stL_le d most k _)
      split
      · exact h.tr (pt_le _ _ _)
      · exact h
    · exact Le.rfl' s
theorem stS_le [W0] (d : List UInt8) (most : Nat) (s : S6) : Le s (stS d most s) := by
  unfold stS
  simp only
  have h0 : Le s ⟨8 * ((s.t + 7) / 8), s.out, s.e⟩ := ⟨by simp only; omega, Nat.le_refl _⟩
  have h1 := tk_le d ⟨8 * ((s.t + 7) / 8), s.out, s.e⟩ 16
  have h2 := tk_le d (tk d ⟨8 * ((s.t + 7) / 8), s.out, s.e⟩ 16) 16
  refine (h0.tr (h1.tr h2)).tr (Le.tr ?_ (stL_le d most _ _))
  split
  · exact Le.rfl' _
  · exact fl_le _ _
theorem rpS_le [W0] (d : List UInt8) (own : List Nat) (m : Nat) (s : S6) (l : List Nat) : Le s (rpS d own m s l) := by
  unfold rpS
  have h1 := sy_le d s own
  have h2 := h1.tr (tk_le d (sy d s own) (rpB (sv d s own)))
  split
  · exact h1
  · split
    · exact h2
    · split
      · exact h2.tr (fl_le _ _)
      · exact h2
theorem lpS_le [W0] (d : List UInt8) (own : List Nat) (m : Nat) : ∀ f s l, Le s (lpS d own m f s l).1
  | 0, s, l => Le.rfl' s
  | f + 1, s, l => by
    rw [lpS]
    have h := rpS_le d own m s l
    split
    · split
      · exact h.tr (lpS_le d own m f _ _)
      · exact h
    · exact Le.rfl' s
theorem owS_le [W0] (d : List UInt8) : ∀ k i s o, Le s (owS d k i s o).1
  | 0, i, s, o => Le.rfl' s
  | k + 1, i, s, o => by
    rw [owS]
    have h := tk_le d s 3
    split
    · exact h
    · exact h.tr (owS_le d k _ _ _)
theorem lcS_le [W0] (d : List UInt8) (s : S6) : Le s (lcS d s).1 := by
  unfold lcS
  have h := tk_le d s 4
  have h2 := h.tr (owS_le d (4 + tv d s 4) 0 (tk d s 4) (List.replicate 19 0))
  split
  · exact h
  · split
    · exact h2
    · split
      · exact h2
      · exact h2.tr (fl_le _ _)
theorem lgS_le [W0] (d : List UInt8) (m : Nat) (s : S6) : Le s (lgS d m s).1 := by
  unfold lgS
  have h := lcS_le d s
  split
  · exact h
  · exact h.tr (lpS_le _ _ _ _ _ _)
theorem dyT_le [W0] (d : List UInt8) (n1 n2 : Nat) (s : S6) : Le s (dyT d n1 n2 s).1 := by
  rw [dyT_eq]
  have h := lgS_le d (n1 + n2) s
  split
  · exact h
  · unfold dyK
    split
    · exact h
    · exact h.tr (fl_le _ _)
theorem dyS_le [W0] (d : List UInt8) (s : S6) : Le s (dyS d s).1 := by
  unfold dyS
  have h1 := tk_le d s 5
  have h2 := h1.tr (tk_le d (tk d s 5) 5)
  repeat' split
  · exact h1
  · exact h1.tr (fl_le _ _)
  · exact h2
  · exact h2.tr (fl_le _ _)
  · exact h2.tr (dyT_le _ _ _ _)
theorem dbS_le [W0] (d : List UInt8) (most : Nat) (s : S6) : Le s (dbS d most s) := by
  unfold dbS
  have h := dyS_le d s
  split
  · exact h
  · exact h.tr (cdC_le _ _ _ _ _ _)
def bkS [W0] (d : List UInt8) (most k : Nat) (s : S6) : S6 := if k = 0 then stS d most s else if k = 1 then cdC d most fxL fxD (8 * d.length + 1) s else dbS d most s
theorem bkS_le [W0] (d : List UInt8) (most k : Nat) (s : S6) : Le s (bkS d most k s) := by
  unfold bkS
  repeat' split
  · exact stS_le _ _ _
  · exact cdC_le _ _ _ _ _ _
  · exact dbS_le _ _ _
def rwS [W0] (d : List UInt8) (most : Nat) : Nat → S6 → S6
  | 0, s => s
  | f + 1, s => if (tk d s 3).e ≠ 0 then tk d s 3
    else if 5 < tv d s 3 then fl (tk d s 3) 3
    else if (bkS d most (tv d s 3 / 2) (tk d s 3)).e ≠ 0 then bkS d most (tv d s 3 / 2) (tk d s 3)
    else if tv d s 3 % 2 = 1 then bkS d most (tv d s 3 / 2) (tk d s 3)
    else rwS d most f (bkS d most (tv d s 3 / 2) (tk d s 3))
def rawS [W0] (d : List UInt8) (most : Nat) : S6 := rwS d most (8 * d.length + 1) ⟨0, [], 0⟩
end Go.If
namespace Go.Vx
theorem Gv.monoD {P : Program} {L : List Chunk} {f : FuncId} {args : Array Value} {post post' : Value → List Chunk → Prop} [W0] (h : Gv P f args L post) (hp : ∀ v L', post v L' → ∃ L'', (∀ w, Holds w L' → Holds w L'') ∧ post' v L'') : Gv P f args L post' :=
  ⟨fun w hw => (h.out w hw).mono fun _ _ he => let ⟨v, L', h1, h2, h3⟩ := he; let ⟨L'', h4, h5⟩ := hp v L' h2; ⟨v, L'', h1, h5, h4 _ h3⟩⟩
end Go.Vx
namespace Go.Proofs.YtdcehmhelfohfaaDoor
open Go Go.Vx Go.Hf Go.If
variable [W0]
set_option maxRecDepth 4000
set_option linter.all false
omit [W0] in
def knF : List Value := [.func (.func 45) #[] #[], .func (.func 46) #[] #[], .func (.func 47) #[] #[]]
set_option maxHeartbeats 2000000 in
theorem kinds_n (L : List Chunk) : GvP Tryd.prog 32 #[] L (.agg knF.toArray) := by
  refine Gv.of_body (args := []) Tryd.func32 rfl rfl ?_
  (repeat' first|refine kW ?_|refine kU fun bk=>?_|refine kV fun hc=>?_|refine kZ (fun hc=>?_) fun hc=>?_|fail)
  refine OW_EV (EV_buildArr (cs := knF) rfl (by rfl) (by rfl)) rfl ?_
  (repeat' first|refine kW ?_|refine kU fun bk=>?_|refine kV fun hc=>?_|refine kZ (fun hc=>?_) fun hc=>?_|fail)
  refine OW_holds (L' := [(bk, cl [.nilFunc, .nilFunc, .nilFunc] 70)] :: L) (fun w h => h) ?_
  refine OW_storeAggTo (l := [.nilFunc, .nilFunc, .nilFunc]) (vs := knF) knF rfl rfl (by rfl) (by rfl) (by rfl) iU (by decide) ?_
  (repeat' first|refine kW ?_|refine kU fun bk=>?_|refine kV fun hc=>?_|refine kZ (fun hc=>?_) fun hc=>?_|fail)
  first
    | (refine WQ_retC (vs := [.agg knF.toArray]) rfl (.agg ⟨by kernel_rfl, by kernel_rfl⟩ rfl (RdAt.cl' (vs := knF) (by repeat (first | assumption | exact Fnd.here | refine Fnd.there ?_)) rfl) rfl .nil) ?_
       exact ⟨L, fun w h => h.drop, rfl, rfl⟩)
    | (refine WQ_endC (vs := [.agg knF.toArray]) rfl (.agg ⟨by kernel_rfl, by kernel_rfl⟩ rfl (RdAt.cl' (vs := knF) (by repeat (first | assumption | exact Fnd.here | refine Fnd.there ?_)) rfl) rfl .nil) ?_
       exact ⟨L, fun w h => h.drop, rfl, rfl⟩)
set_option maxHeartbeats 4000000 in
/-- A block, by its type. -/
theorem block_n (k p q most : Nat) (v kn : Value) (d : List UInt8) (s : S6) (D E C K : Chunk) (L : List Chunk) (hk : k < 3) (h : RdN q d s.t D E) (hl : d.length ≤ 140737488355328) (he : s.e = 0) (hm : most ≤ 1000000) (hkn : KnD kn K) (hor : OrAt L)
    (ho : Ow 5 1 v s.out.length (bsv s.out) C) (hom : s.out.length ≤ most) : ∃ f, knF[k]? = some (.func (.func f) #[] #[]) ∧ BD Tryd.prog f ∧
    Gv Tryd.prog f [.pointer (some ⟨p, 0, none⟩)].toArray (rdR p q v most kn :: D :: E :: C :: K :: L) (fun r L' =>
      ((bkS d most k s).e ≠ 0 ∧ r = .int .i64 ((bkS d most k s).e : Int) ∧ L' = L) ∨
      ((bkS d most k s).e = 0 ∧ r = .int .i64 0 ∧ ∃ v' D' C' kn' K', KnD kn' K' ∧ Ow 5 1 v' (bkS d most k s).out.length (bsv (bkS d most k s).out) C' ∧ (bkS d most k s).out.length ≤ most ∧ RdN q d (bkS d most k s).t D' E ∧
        L' = rdR p q v' most kn' :: D' :: E :: C' :: K' :: L)) := by
  rcases (by omega : k = 0 ∨ k = 1 ∨ k = 2) with rfl | rfl | rfl
  · refine ⟨45, rfl, inferInstance, ?_⟩
    refine Gv.monoD (Gv.holds (pstored_n p q most v kn d s D E C (K :: L) h hl he hm hkn.one ho hom) (fun w h => h)) (fun r L' hp => ?_)
    rcases hp with ⟨h1, rfl, rfl⟩ | ⟨h1, rfl, v', D', C', ho', hl', hr', rfl⟩
    · exact ⟨L, fun w h => h.drop, .inl ⟨h1, rfl, rfl⟩⟩
    · exact ⟨_, fun w h => h, .inr ⟨h1, rfl, v', D', C', kn, K, hkn, ho', hl', hr', rfl⟩⟩
  · refine ⟨46, rfl, inferInstance, ?_⟩
    exact pfixed_n p q most v kn d s D E C K L h hl he hm hkn ho hom
  · refine ⟨47, rfl, inferInstance, ?_⟩
    refine Gv.monoD (pdynamic_n p q most v kn d s D E C (K :: L) h hl he hm hkn.one hor.there ho hom) (fun r L' hp => ?_)
    rcases hp with ⟨h1, rfl, rfl⟩ | ⟨h1, rfl, v', D', C', ho', hl', hr', rfl⟩
    · exact ⟨L, fun w h => h.drop, .inl ⟨h1, rfl, rfl⟩⟩
    · exact ⟨_, fun w h => h, .inr ⟨h1, rfl, v', D', C', kn, K, hkn, ho', hl', hr', rfl⟩⟩
set_option maxHeartbeats 8000000 in
theorem blocks_n (p q most : Nat) (v kn : Value) (d : List UInt8) (s : S6) (D E C K : Chunk) (L : List Chunk) (h : RdN q d s.t D E) (hl : d.length ≤ 140737488355328) (he : s.e = 0) (hm : most ≤ 1000000) (hkn : KnD kn K) (hor : OrAt L)
    (ho : Ow 5 1 v s.out.length (bsv s.out) C) (hom : s.out.length ≤ most) :
    Gv Tryd.prog 18 [.pointer (some ⟨p, 0, none⟩)].toArray (rdR p q v most kn :: D :: E :: C :: K :: L) (fun r L' =>
      ((rwS d most (8 * d.length + 1) s).e ≠ 0 ∧ r = .int .i64 ((rwS d most (8 * d.length + 1) s).e : Int) ∧ L' = L) ∨
      ((rwS d most (8 * d.length + 1) s).e = 0 ∧ r = .int .i64 0 ∧ ∃ v' D' C' kn', Ow 5 1 v' (rwS d most (8 * d.length + 1) s).out.length (bsv (rwS d most (8 * d.length + 1) s).out) C' ∧ (rwS d most (8 * d.length + 1) s).out.length ≤ most ∧ RdN q d (rwS d most (8 * d.length + 1) s).t D' E ∧ L' = rdR p q v' most kn' :: D' :: E :: C' :: L)) := by
  refine Gv.of_body Tryd.func18 rfl rfl ?_
  generalize hR : rwS d most (8 * d.length + 1) s = R
  (repeat' first|refine kW ?_|refine kU fun bk=>?_|refine kV fun hc=>?_|refine kZ (fun hc=>?_) fun hc=>?_|fail)
  refine OW_callP rfl rfl rfl (kinds_n _) rfl ?_
  (repeat' first|refine kW ?_|refine kU fun bk=>?_|refine kV fun hc=>?_|refine kZ (fun hc=>?_) fun hc=>?_|fail)
  obtain ⟨b3, hb3⟩ : ∃ b3, b3 = bk := ⟨_, rfl⟩
  rw [← hb3]
  refine OW_holds (L' := [(b3, cl [.nilFunc, .nilFunc, .nilFunc] 70)] :: rdR p q v most kn :: D :: E :: C :: K :: L) (fun w h => h) ?_
  clear hb3
  refine OW_storeAggTo (l := [.nilFunc, .nilFunc, .nilFunc]) (vs := knF) knF rfl rfl (by rfl) (by rfl) (by rfl) iU (by decide) ?_
  (repeat' first|refine kW ?_|refine kU fun bk=>?_|refine kV fun hc=>?_|refine kZ (fun hc=>?_) fun hc=>?_|fail)
  refine WC_loop (X := Nat × S6 × Bool × Value × Chunk × Chunk × Value × Chunk) (fun x => [(0, .pointer (some ⟨p, 0, none⟩)), (3, .pointer (some ⟨b3, 0, none⟩)), (4, .bool x.2.2.1)])
    (fun x => [(b3, cl knF 70)] :: rdR p q x.2.2.2.1 most x.2.2.2.2.2.2.1 :: x.2.2.2.2.1 :: E :: x.2.2.2.2.2.1 :: x.2.2.2.2.2.2.2 :: L)
    (fun x => x.2.1.e = 0 ∧ RdN q d x.2.1.t x.2.2.2.2.1 E ∧ Ow 5 1 x.2.2.2.1 x.2.1.out.length (bsv x.2.1.out) x.2.2.2.2.2.1 ∧ x.2.1.out.length ≤ most ∧ KnD x.2.2.2.2.2.2.1 x.2.2.2.2.2.2.2 ∧ (x.2.2.1 = false → 8 * d.length < x.1 + x.2.1.t ∧ rwS d most x.1 x.2.1 = R) ∧ (x.2.2.1 = true → x.2.1 = R)) (fun x => if x.2.2.1 then 0 else x.1 + 1)
    (8 * d.length + 1, s, false, v, D, C, kn, K) ⟨he, h, ho, hom, hkn, fun _ => ⟨by simp only; omega, hR⟩, fun hh => by cases hh⟩ iS (fun w h => h) ?_
  clear hR ho hom h
  rintro ⟨f, s1, bb, v1, D1, C1, kn1, K1⟩ ⟨he1, hr1, ho1, hl1, hk1, hf1, hf2⟩
  simp only at he1 hr1 ho1 hl1 hk1 hf1 hf2 ⊢
  cases bb with
  | true =>
    have hf2 := hf2 rfl
    subst hf2
    (repeat' first|refine kW ?_|refine kU fun bk=>?_|refine kV fun hc=>?_|refine kZ (fun hc=>?_) fun hc=>?_|fail)
    refine kR ?_
    exact ⟨_, iC, .inr ⟨he1, rfl, v1, D1, C1, kn1, ho1, hl1, hr1, rfl⟩⟩
  | false =>
    obtain ⟨hf3, hsl⟩ := hf1 rfl
    clear hf1 hf2
    have ht1 := hr1.1
    obtain ⟨f, rfl⟩ : ∃ g, f = g + 1 := ⟨f - 1, by omega⟩
    rw [rwS] at hsl
    have htk := ptake_n p q most 3 v1 kn1 d s1 D1 E (C1 :: K1 :: [(b3, cl knF 70)] :: L) hr1 hl (by decide) he1
    have htv := tv_lt d s1 3
    have hto := tk_out d s1 3
    have htt : (tk d s1 3).e = 0 → (tk d s1 3).t = s1.t + 3 := fun h0 => by
      by_cases hc : s1.t + 3 ≤ 8 * d.length
      · rw [tk_ok hc]
      · rw [Go.If.tk_no hc he1] at h0; cases h0
    generalize tv d s1 3 = z at htk htv hsl
    generalize tk d s1 3 = s2 at htk hto htt hsl
    rw [← hto] at ho1 hl1
    (repeat' first|refine kW ?_|refine kU fun bk=>?_|refine kV fun hc=>?_|refine kZ (fun hc=>?_) fun hc=>?_|fail)
    refine OW_call rfl rfl rfl (Gv.holds htk (fun w h => iH h)) rfl (fun r L' hp => ?_)
    rcases hp with ⟨h2, rfl, rfl⟩ | ⟨h2, rfl, D2, hr2, rfl⟩
    · rw [if_pos h2] at hsl
      subst hsl
      (repeat' first|refine kW ?_|refine kU fun bk=>?_|refine kV fun hc=>?_|refine kZ (fun hc=>?_) fun hc=>?_|fail)
      refine kR ?_
      exact ⟨_, iC, .inl ⟨h2, rfl, rfl⟩⟩
    rw [if_neg (show ¬ s2.e ≠ 0 by omega)] at hsl
    have htt := htt h2
    (repeat' first|refine kW ?_|refine kU fun bk=>?_|refine kV fun hc=>?_|refine kZ (fun hc=>?_) fun hc=>?_|fail)
    refine OW_EV (EV_bit rfl rfl (bit_and16 (a := z) (b := 1) (by omega) (by decide))) rfl ?_
    rw [Nat.and_one_is_mod]
    (repeat' first|refine kW ?_|refine kU fun bk=>?_|refine kV fun hc=>?_|refine kZ (fun hc=>?_) fun hc=>?_|fail)
    · rw [if_pos (show 5 < z by omega)] at hsl
      have e3 : R.e = 3 := by rw [← hsl, fl3 h2]
      rw [e3]
      refine kR ?_
      exact ⟨_, iC, .inl ⟨by decide, rfl, rfl⟩⟩
    rw [if_neg (show ¬ 5 < z by omega)] at hsl
    have hle := bkS_le d most (z / 2) s2
    obtain ⟨fn, hfn, hbd, hbk⟩ := block_n (z / 2) p q most v1 kn1 d s2 D2 E C1 K1 ([(b3, cl knF 70)] :: L) (by omega) hr2 hl h2 hm hk1 hor.there ho1 hl1
    generalize bkS d most (z / 2) s2 = s3 at hsl hle hbk
    haveI := hbd
    refine OW_EV (EV_indexAddrA' (z / 2) rfl rfl (by omega) (by omega)) rfl ?_
    (repeat' first|refine kW ?_|refine kU fun bk=>?_|refine kV fun hc=>?_|refine kZ (fun hc=>?_) fun hc=>?_|fail)
    refine OW_EV (EV_load (v := .func (.func fn) #[] #[]) rfl (by exact Fnd.there (Fnd.there (Fnd.there (Fnd.there (Fnd.there Fnd.here))))) (by rw [Nat.zero_add, Nat.mul_one, List.getElem?_toArray]; exact hfn)) rfl ?_
    (repeat' first|refine kW ?_|refine kU fun bk=>?_|refine kV fun hc=>?_|refine kZ (fun hc=>?_) fun hc=>?_|fail)
    refine OW_call rfl rfl rfl (Gv.holds hbk (fun w h => iH h)) rfl (fun r L' hp => ?_)
    rcases hp with ⟨h3, rfl, rfl⟩ | ⟨h3, rfl, v3, D3, C3, kn3, K3, hk3, ho3, hl3, hr3, rfl⟩
    · rw [if_pos h3] at hsl
      subst hsl
      (repeat' first|refine kW ?_|refine kU fun bk=>?_|refine kV fun hc=>?_|refine kZ (fun hc=>?_) fun hc=>?_|fail)
      refine kR ?_
      exact ⟨_, iC, .inl ⟨h3, rfl, rfl⟩⟩
    rw [if_neg (show ¬ s3.e ≠ 0 by omega)] at hsl
    have hlt := hle.t
    (repeat' first|refine kW ?_|refine kU fun bk=>?_|refine kV fun hc=>?_|refine kZ (fun hc=>?_) fun hc=>?_|fail)
    refine WQ_round (X := Nat × S6 × Bool × Value × Chunk × Chunk × Value × Chunk) (μ := fun x => if x.2.2.1 then 0 else x.1 + 1) (x := (f + 1, s1, false, v1, D1, C1, kn1, K1)) (f, s3, ((z % 2 : Nat) : Int) == 1, v3, D3, C3, kn3, K3) (by simp only [Bool.false_eq_true, if_false]; split <;> omega) ⟨h3, hr3, ho3, hl3, hk3, fun hb => ?_, fun hb => ?_⟩ iS (fun w h => iH h)
    · have hb2 : ¬ z % 2 = 1 := fun hh => by simp only [hh] at hb; cases hb
      rw [if_neg hb2] at hsl
      exact ⟨by simp only; omega, hsl⟩
    · have hb2 : z % 2 = 1 := by
        simp only at hb
        have := eq_of_beq hb
        omega
      rw [if_pos hb2] at hsl
      exact hsl
set_option maxHeartbeats 4000000 in
theorem praw_n (a : Option Addr) (c : Nat) (d : List UInt8) (most : Int) (m : Nat) (L : List Chunk) (hv : Sl L 1 (.slice a d.length c) d.length (bsv d)) (hl : d.length ≤ 140737488355328) (hm1 : max most 0 = (m : Int)) (hm : m ≤ 1000000) (hor : OrAt L) :
    Gv Tryd.prog 12 [.slice a d.length c, .int .i64 most].toArray L (fun r L' =>
      ((rawS d m).e ≠ 0 ∧ r = .tuple #[.slice none 0 0, .int .i64 0, .int .i64 ((rawS d m).e : Int)] ∧ L' = L) ∨
      ((rawS d m).e = 0 ∧ ∃ v C, r = .tuple #[v, .int .i64 (((rawS d m).t + 7) / 8 : Nat), .int .i64 0] ∧ Ow 5 1 v (rawS d m).out.length (bsv (rawS d m).out) C ∧ (rawS d m).out.length ≤ m ∧ (rawS d m).t ≤ 8 * d.length ∧ L' = C :: L)) := by
  refine Gv.of_body Tryd.func12 rfl rfl ?_
  (repeat' first|refine kW ?_|refine kU fun bk=>?_|refine kV fun hc=>?_|refine kZ (fun hc=>?_) fun hc=>?_|fail)
  refine OW_call rfl rfl rfl (read_n d _ L hv hl) rfl (fun r L' hp => ?_)
  obtain ⟨q, D, E, rfl, hr, rfl⟩ := hp
  (repeat' first|refine kW ?_|refine kU fun bk=>?_|refine kV fun hc=>?_|refine kZ (fun hc=>?_) fun hc=>?_|fail)
  rw [hm1]
  obtain ⟨p, hp⟩ : ∃ p, p = bk := ⟨_, rfl⟩
  rw [← hp]
  clear hp
  refine OW_holds (L' := rdR p q (.slice none 0 0) m (.pointer none) :: D :: E :: [] :: [] :: L) (fun w h => by
    have h' : Holds w (rdR p q (.slice none 0 0) m (.pointer none) :: D :: E :: L) := h
    simpa only [Holds, List.flatten_cons, List.nil_append] using h') ?_
  have hb := blocks_n p q m (.slice none 0 0) (.pointer none) d ⟨0, [], 0⟩ D E [] [] L hr hl rfl hm (.inl ⟨rfl, rfl⟩) hor (.inl ⟨rfl, rfl, rfl, rfl⟩) (Nat.zero_le _)
  change Gv _ _ _ _ (fun r L' => ((rawS d m).e ≠ 0 ∧ r = .int .i64 ((rawS d m).e : Int) ∧ L' = L) ∨ ((rawS d m).e = 0 ∧ r = .int .i64 0 ∧ ∃ v' D' C' kn', Ow 5 1 v' (rawS d m).out.length (bsv (rawS d m).out) C' ∧ (rawS d m).out.length ≤ m ∧ RdN q d (rawS d m).t D' E ∧ L' = rdR p q v' m kn' :: D' :: E :: C' :: L)) at hb
  generalize rawS d m = R at hb ⊢
  refine OW_call rfl rfl rfl hb rfl (fun r L' hp => ?_)
  rcases hp with ⟨h1, rfl, rfl⟩ | ⟨h1, rfl, v1, D1, C1, kn1, ho1, hl1, hr1, rfl⟩
  · (repeat' first|refine kW ?_|refine kU fun bk=>?_|refine kV fun hc=>?_|refine kZ (fun hc=>?_) fun hc=>?_|fail)
    refine WQ_retI (rs := [.tmp 4, .tmp 5, .tmp 6]) (vs := [.slice none 0 0, .int .i64 0, .int .i64 (R.e : Int)]) rfl rfl ?_
    exact ⟨_, iC, .inl ⟨h1, rfl, rfl⟩⟩
  · obtain ⟨ht1, rv, rfl, hoE⟩ := hr1
    have hus := used_n q ((R.t + 7) / 8) rv (.int .u64 ((val d / 2 ^ R.t % 2 ^ (8 * ((R.t + 7) / 8) - R.t) : Nat) : Int)) (.int .i64 ((8 * ((R.t + 7) / 8) - R.t : Nat) : Int)) 68 (rdR p q v1 m kn1 :: [(q, cl (rdC rv d R.t ((R.t + 7) / 8)) 68)] :: E :: C1 :: L) (by exact Fnd.there Fnd.here)
    generalize hn : (R.t + 7) / 8 = n at hus ⊢
    unfold rdR at hus ⊢
    (repeat' first|refine kW ?_|refine kU fun bk=>?_|refine kV fun hc=>?_|refine kZ (fun hc=>?_) fun hc=>?_|fail)
    refine WC_draw [[(p, cl [.pointer (some ⟨q, 0, none⟩), v1, .int .i64 (m : Int), kn1] 47)]] [] mixed ?_
    (refine WR_t 0 ?_; refine WR_t 1 ?_; refine WR_t 2 ?_; refine WR_t 3 ?_; refine WR_t 4 ?_; refine WR_t 5 ?_; refine WR_t 6 ?_; refine WR_t 7 ?_)
    (refine WR_one 8 (by kernel_rfl) rfl rfl ?_)
    refine OW_callP rfl rfl rfl hus rfl ?_
    refine ⟨iC, ?_⟩
    (refine WR_t 9 ?_; refine WR_t 10 ?_; refine WR_t 11 ?_)
    (refine WR_done (by kernel_rfl) ?_)
    (repeat' first|refine kW ?_|refine kU fun bk=>?_|refine kV fun hc=>?_|refine kZ (fun hc=>?_) fun hc=>?_|fail)
    refine WQ_retI (rs := [.tmp 4, .tmp 5, .tmp 6]) (vs := [v1, .int .i64 (n : Int), .int .i64 0]) rfl rfl ?_
    exact ⟨C1 :: L, iC, .inr ⟨h1, v1, C1, rfl, ho1, hl1, ht1, rfl⟩⟩
end Go.Proofs.YtdcehmhelfohfaaDoor
namespace Go.Proofs.YtdcehmhelfohfaaDoor
open Go Go.Vx Go.Hf Go.If
variable [W0]
set_option maxRecDepth 4000
set_option linter.all false
theorem ivn_icn (l : List Nat) : intsN (icn l) = ivn l := by simp [intsN, icn, ivn]
omit [W0] in
/-- The list so far, in memory. -/
def lpC (lp : Nat) (lv : Value) : Chunk := [(lp, cl [lv] 57)]
set_option maxHeartbeats 16000000 in
theorem wrepeat_n (p q lp most m : Nat) (v lv : Value) (a : Option Addr) (c : Nat) (own l : List Nat) (fa : Option Addr) (fc : Nat) (d : List UInt8) (s : S6) (Cl : Chunk) (L : List Chunk) (h : Sl L 1 (.slice a own.length c) own.length (intsN (icn own))) (hok : cdE (icn own) = 0) (hol : own.length = 19)
    (hv : Sl L 1 (.slice fa d.length fc) d.length (bsv d)) (hl : d.length ≤ 1000000) (ht : s.t ≤ 8 * d.length) (he : s.e = 0) (hlv : Ow 3 1 lv l.length (ivn l) Cl) (hlm : l.length ≤ m) (hm : m ≤ 400) :
    Gv Tryd.prog 40 [.pointer (some ⟨p, 0, none⟩), .slice a own.length c, .pointer (some ⟨lp, 0, none⟩), .int .i64 (m : Int)].toArray (wkC p q v most s.e :: biC q fa d.length fc s.t :: lpC lp lv :: Cl :: L) (fun r L' =>
      ∃ lv' Cl', r = .tuple #[] ∧ Ow 3 1 lv' (if (rpS d own m s l).e = 0 then rpL d own s l else l).length (ivn (if (rpS d own m s l).e = 0 then rpL d own s l else l)) Cl' ∧ L' = wkC p q v most (rpS d own m s l).e :: biC q fa d.length fc (rpS d own m s l).t :: lpC lp lv' :: Cl' :: L ∧ (rpS d own m s l).t ≤ 8 * d.length) := by
  refine Gv.of_body Tryd.func40 rfl rfl ?_
  have hw1 : ∀ v e (L : List Chunk), wkC p q v most e :: L = [(p, cl [.pointer (some ⟨q, 0, none⟩), v, .int .i64 (most : Int), .int .i64 (e : Int)] 55)] :: L := fun _ _ _ => rfl
  have hsy := wsym_n p q most v a c (icn own) fa fc d s (lpC lp lv :: Cl :: L) (by rw [icn_length]; exact sl_there (sl_there h)) hok (sl_there (sl_there hv)) (by omega) ht
  rw [icn_length, nl_icn] at hsy
  have hk19 := sv_lt d s (l := own) (by omega)
  have hso := sy_out d s own
  unfold rpS rpL
  generalize sv d s own = k at hsy hk19 ⊢
  generalize sy d s own = s1 at hsy hso ⊢
  obtain ⟨la, lc, rfl⟩ := ow_slc hlv
  (repeat' first|refine kW ?_|refine kU fun bk=>?_|refine kV fun hc=>?_|refine kZ (fun hc=>?_) fun hc=>?_|fail)
  refine OW_call rfl rfl rfl hsy rfl (fun r L' hp => ?_)
  obtain ⟨rfl, rfl, hb1⟩ := hp
  rw [hw1]
  (repeat' first|refine kY ?_|refine kU fun bk=>?_|refine kV fun hc=>?_|refine kZ (fun hc=>?_) fun hc=>?_|fail)
  refine WC_seq ?_
  refine WC_seq ?_
  (repeat' first|refine kY ?_|refine kU fun bk=>?_|refine kV fun hc=>?_|refine kZ (fun hc=>?_) fun hc=>?_|fail)
  · have h1 : s1.e ≠ 0 := by omega
    rw [if_pos h1, if_neg h1]
    refine kR ?_
    exact ⟨_, iC, _, Cl, rfl, hlv, rfl, hb1⟩
  have h1 : s1.e = 0 := by omega
  rw [if_neg (show ¬ s1.e ≠ 0 by omega)]
  refine WC_seq ?_
  (repeat' first|refine kY ?_|refine kU fun bk=>?_|refine kV fun hc=>?_|refine kZ (fun hc=>?_) fun hc=>?_|fail)
  refine WC_seq ?_
  (repeat' first|refine kY ?_|refine kU fun bk=>?_|refine kV fun hc=>?_|refine kZ (fun hc=>?_) fun hc=>?_|fail)
  have htk := fun n hn => wtake_n p q most n v fa fc d s1 (lpC lp (.slice la l.length lc) :: Cl :: L) (sl_there (sl_there hv)) (by omega) hb1 hn
  have hpw : 2 ^ rpB k ≤ 2 ^ 7 := Nat.pow_le_pow_right (by decide) (rpB_le k)
  have htv := tv_lt d s1 (rpB k)
  have hra := rpA_pos k
  have hto := tk_out d s1 (rpB k)
  obtain ⟨n, hn⟩ : ∃ n, n = rpA k + tv d s1 (rpB k) := ⟨_, rfl⟩
  rw [← hn]
  obtain ⟨s2, hs2⟩ : ∃ s2, s2 = tk d s1 (rpB k) := ⟨_, rfl⟩
  rw [← hs2] at hto ⊢
  obtain ⟨s3, hs3⟩ : ∃ s3, s3 = if s2.e = 0 ∧ k = 16 ∧ l = [] then fl s2 3 else s2 := ⟨_, rfl⟩
  have h3t : s3.t = s2.t := by rw [hs3]; split; exact fl_t _ _; rfl
  have h3e : s3.e = if s2.e = 0 ∧ k = 16 ∧ l = [] then 3 else s2.e := by
    rw [hs3]
    split
    · rename_i h; rw [fl_e, if_pos h.1]
    · rfl
  refine WC_cut (X := Nat) (fun x => [(0, .pointer (some ⟨p, 0, none⟩)), (2, .pointer (some ⟨lp, 0, none⟩)), (3, .int .i64 (m : Int)), (9, .int .i64 (x : Int)), (10, .int .i64 (n : Int))]) (fun _ => wkC p q v most s3.e :: biC q fa d.length fc s3.t :: lpC lp (.slice la l.length lc) :: Cl :: L) (fun x => s3.t ≤ 8 * d.length ∧ (s3.e = 0 → x = rpV k l)) ?_ ?_
  · unfold lpC
    unfold lpC at htk
    (repeat' first|refine kW ?_|refine kU fun bk=>?_|refine kV fun hc=>?_|refine kZ (fun hc=>?_) fun hc=>?_|fail)
    · obtain rfl : k = 16 := by omega
      rw [show rpB 16 = 2 from rfl] at hs2 hn htv
      rw [show rpA 16 = 3 from rfl] at hn
      have ht2 := htk 2 (by decide)
      rw [← hs2] at ht2
      clear htk
      generalize tv d s1 2 = z at ht2 hn htv
      refine OW_call rfl rfl rfl (Gv.holds ht2 (fun w h => iH h)) rfl (fun r L' hp => ?_)
      obtain ⟨rfl, rfl, hb2⟩ := hp
      rw [hw1 v s2.e]
      (repeat' first|refine kW ?_|refine kU fun bk=>?_|refine kV fun hc=>?_|refine kZ (fun hc=>?_) fun hc=>?_|fail)
      · have h2 : s2.e = 0 := by omega
        have hl0 : l = [] := List.length_eq_zero_iff.1 (by omega)
        have hf := wfail_n p q most 3 s2.e v (biC q fa d.length fc s2.t :: [(lp, cl [.slice la l.length lc] 57)] :: Cl :: L)
        rw [if_pos h2] at hf
        rw [if_pos ⟨h2, rfl, hl0⟩] at h3e
        refine OW_call rfl rfl rfl hf rfl (fun r L' hp => ?_)
        obtain ⟨rfl, rfl⟩ := hp
        rw [hw1 v 3]
        (repeat' first|refine kW ?_|refine kU fun bk=>?_|refine kV fun hc=>?_|refine kZ (fun hc=>?_) fun hc=>?_|fail)
        exact WQ_cut 16 ⟨by omega, fun hh => by omega⟩ iS (fun w h => by rw [h3e, h3t]; exact h)
      · have h2 : s2.e = 0 := by omega
        have hl0 : ¬ l.length = 0 := by omega
        rw [if_neg (fun hh => hl0 (by rw [hh.2.2]; rfl))] at hs3
        subst hs3
        have hov2 := hlv
        rcases hov2 with ⟨_, h0, _⟩ | ⟨b, cap, rest, hve, rfl, hxl, hrl, hmc, hcm⟩
        · omega
        injection hve with q1 q2 q3
        subst q1 q3
        clear q2
        have hcell : (ivn l ++ rest).toArray[(l.length - 1) * 1]? = some (.int .i64 (l.getD (l.length - 1) 0 : Int)) := by
          rw [Nat.mul_one]
          simpa using getE_app (r := rest) (ivn_get (l := l) (i := l.length - 1) (n := l.getD (l.length - 1) 0) (by simp [List.getD, show l.length - 1 < l.length from by omega]))
        refine WC_drawAll [] mixed ?_
        (refine WR_t 0 ?_; refine WR_t 1 ?_; refine WR_t 2 ?_; refine WR_t 3 ?_; refine WR_t 4 ?_; refine WR_t 5 ?_; refine WR_t 6 ?_; refine WR_t 7 ?_)
        rw [show (l.length : Int) - 1 = ((l.length - 1 : Nat) : Int) from by omega]
        (refine WR_take 8 rfl rfl (by kernel_rfl) iP iC (EV_indexAddr0 (j := l.length - 1) (len := l.length) rfl rfl rfl (by omega)) (by rfl) ?_)
        (refine WR_take 9 rfl rfl (by kernel_rfl) iP iC (EV_load rfl (by exact Fnd.there (Fnd.there (Fnd.there Fnd.here))) hcell) (by rfl) ?_)
        (refine WR_t 10 ?_)
        (refine WR_done (by kernel_rfl) ?_)
        (repeat' first|refine kW ?_|refine kU fun bk=>?_|refine kV fun hc=>?_|refine kZ (fun hc=>?_) fun hc=>?_|fail)
        exact WQ_cut (l.getD (l.length - 1) 0) ⟨hb2, fun _ => by unfold rpV; rw [if_pos rfl]⟩ iS (fun w h => h)
      · have h2 : ¬ s2.e = 0 := by omega
        rw [if_neg (fun hh => h2 hh.1)] at hs3
        subst hs3
        exact WQ_cut 16 ⟨hb2, fun hh => absurd hh h2⟩ iS (fun w h => h)
    · obtain rfl : k = 17 := by omega
      rw [show rpB 17 = 3 from rfl] at hs2 hn htv
      rw [show rpA 17 = 3 from rfl] at hn
      have ht2 := htk 3 (by decide)
      rw [← hs2] at ht2
      rw [if_neg (fun hh => by omega)] at hs3
      subst hs3
      generalize tv d s1 3 = z at ht2 hn htv
      refine OW_call rfl rfl rfl (Gv.holds ht2 (fun w h => iH h)) rfl (fun r L' hp => ?_)
      obtain ⟨rfl, rfl, hb2⟩ := hp
      (repeat' first|refine kW ?_|refine kU fun bk=>?_|refine kV fun hc=>?_|refine kZ (fun hc=>?_) fun hc=>?_|fail)
      exact WQ_cut 0 ⟨hb2, fun _ => rfl⟩ iS (fun w h => h)
    · obtain rfl : k = 18 := by omega
      rw [show rpB 18 = 7 from rfl] at hs2 hn htv
      rw [show rpA 18 = 11 from rfl] at hn
      have ht2 := htk 7 (by decide)
      rw [← hs2] at ht2
      rw [if_neg (fun hh => by omega)] at hs3
      subst hs3
      generalize tv d s1 7 = z at ht2 hn htv
      refine OW_call rfl rfl rfl (Gv.holds ht2 (fun w h => iH h)) rfl (fun r L' hp => ?_)
      obtain ⟨rfl, rfl, hb2⟩ := hp
      (repeat' first|refine kW ?_|refine kU fun bk=>?_|refine kV fun hc=>?_|refine kZ (fun hc=>?_) fun hc=>?_|fail)
      exact WQ_cut 0 ⟨hb2, fun _ => rfl⟩ iS (fun w h => h)
    · have e1 : rpB k = 0 := by unfold rpB; rw [if_neg (by omega), if_neg (by omega), if_neg (by omega)]
      have e2 : rpA k = 1 := by unfold rpA; rw [if_neg (by omega), if_neg (by omega), if_neg (by omega)]
      rw [e1, tk_zero hb1] at hs2
      rw [e1, e2, tv_zero] at hn
      rw [if_neg (fun hh => by omega)] at hs3
      subst hs3 hs2 hn
      exact WQ_cut k ⟨hb1, fun _ => by unfold rpV; rw [if_neg (by omega), if_neg (by omega)]⟩ iS (fun w h => h)
  · rintro x ⟨hb3, hx⟩
    clear htk hs2 htv hsy
    obtain ⟨s4, hs4⟩ : ∃ s4, s4 = if s3.e = 0 ∧ m < l.length + n then fl s3 3 else s3 := ⟨_, rfl⟩
    have h4t : s4.t = s3.t := by rw [hs4]; split; exact fl_t _ _; rfl
    have h4e : s4.e = if s3.e = 0 ∧ m < l.length + n then 3 else s3.e := by
      rw [hs4]
      split
      · rename_i h; rw [fl_e, if_pos h.1]
      · rfl
    have hR : (if s2.e ≠ 0 then s2 else if k = 16 ∧ l = [] ∨ m < l.length + n then fl s2 3 else s2) = s4 := by
      by_cases h2 : s2.e = 0
      · by_cases h16 : k = 16 ∧ l = []
        · have e3 : s3 = fl s2 3 := by rw [hs3, if_pos ⟨h2, h16⟩]
          have e4 : s3.e = 3 := by rw [e3, fl_e, if_pos h2]
          rw [hs4, if_neg (show ¬ (s3.e = 0 ∧ m < l.length + n) from fun hh => by omega), if_neg (show ¬ s2.e ≠ 0 from fun hh => hh h2), if_pos (Or.inl h16), e3]
        · have e3 : s3 = s2 := by rw [hs3, if_neg (fun hh => h16 hh.2)]
          rw [hs4, e3, if_neg (show ¬ s2.e ≠ 0 from fun hh => hh h2)]
          by_cases hm : m < l.length + n
          · rw [if_pos (Or.inr hm), if_pos ⟨h2, hm⟩]
          · rw [if_neg (show ¬ (k = 16 ∧ l = [] ∨ m < l.length + n) from fun hh => hh.elim (fun h => h16 h) (fun h => hm h)), if_neg (show ¬ (s2.e = 0 ∧ m < l.length + n) from fun hh => hm hh.2)]
      · have e3 : s3 = s2 := by rw [hs3, if_neg (fun hh => h2 hh.1)]
        rw [hs4, e3, if_pos h2, if_neg (show ¬ (s2.e = 0 ∧ m < l.length + n) from fun hh => h2 hh.1)]
    rw [hR]
    have h4x : s4.e = 0 → x = rpV k l ∧ l.length + n ≤ m := by
      intro h0
      rw [h4e] at h0
      split at h0
      · cases h0
      · exact ⟨hx h0, by omega⟩
    clear hR hs3 hx h3e h3t hs4
    unfold lpC
    have hb4 : s4.t ≤ 8 * d.length := by omega
    have hw2 : wkC p q v most s3.e = [(p, cl [.pointer (some ⟨q, 0, none⟩), v, .int .i64 (most : Int), .int .i64 (s3.e : Int)] 55)] := rfl
    refine WC_cut (X := Unit) (fun _ => [(0, .pointer (some ⟨p, 0, none⟩)), (2, .pointer (some ⟨lp, 0, none⟩)), (9, .int .i64 (x : Int)), (10, .int .i64 (n : Int))]) (fun _ => wkC p q v most s4.e :: biC q fa d.length fc s4.t :: [(lp, cl [.slice la l.length lc] 57)] :: Cl :: L) (fun _ => True) ?_ ?_
    · have hf := wfail_n p q most 3 s3.e v (biC q fa d.length fc s3.t :: [(lp, cl [.slice la l.length lc] 57)] :: Cl :: L)
      rw [h4t, h4e]
      rw [hw2]
      (repeat' first|refine kW ?_|refine kU fun bk=>?_|refine kV fun hc=>?_|refine kZ (fun hc=>?_) fun hc=>?_|fail)
      · have h3 : s3.e = 0 := by omega
        rw [if_pos (show s3.e = 0 ∧ m < l.length + n by omega)]
        rw [if_pos h3] at hf
        refine OW_call rfl rfl rfl hf rfl (fun r L' hp => ?_)
        obtain ⟨rfl, rfl⟩ := hp
        (repeat' first|refine kW ?_|refine kU fun bk=>?_|refine kV fun hc=>?_|refine kZ (fun hc=>?_) fun hc=>?_|fail)
        exact WQ_cut () trivial iS (fun w h => h)
      · rw [if_neg (show ¬ (s3.e = 0 ∧ m < l.length + n) by omega)]
        exact WQ_cut () trivial iS (fun w h => h)
      · rw [if_neg (show ¬ (s3.e = 0 ∧ m < l.length + n) by omega)]
        exact WQ_cut () trivial iS (fun w h => h)
    intro _ _
    (repeat' first|refine kW ?_|refine kU fun bk=>?_|refine kV fun hc=>?_|refine kZ (fun hc=>?_) fun hc=>?_|fail)
    refine WC_loop (X := Nat × Value × Chunk) (fun y => [(0, .pointer (some ⟨p, 0, none⟩)), (2, .pointer (some ⟨lp, 0, none⟩)), (9, .int .i64 (x : Int)), (10, .int .i64 (n : Int)), (11, .int .i64 (y.1 : Int))]) (fun y => wkC p q v most s4.e :: biC q fa d.length fc s4.t :: [(lp, cl [y.2.1] 57)] :: y.2.2 :: L)
      (fun y => y.1 ≤ n ∧ (s4.e ≠ 0 → y.1 = 0) ∧ Ow 3 1 y.2.1 (l.length + y.1) (ivn (l ++ List.replicate y.1 x)) y.2.2) (fun y => n - y.1) (0, .slice la l.length lc, Cl) ⟨Nat.zero_le _, fun _ => rfl, by simpa using hlv⟩ iS (fun w h => h) ?_
    rintro ⟨i, v1, C1⟩ ⟨hi, hz, hov⟩
    simp only at hi hz hov ⊢
    obtain ⟨wa, wc, rfl⟩ := ow_slc hov
    unfold wkC
    (repeat' first|refine kW ?_|refine kU fun bk=>?_|refine kV fun hc=>?_|refine kZ (fun hc=>?_) fun hc=>?_|fail)
    · have h4 : s4.e = 0 := by omega
      have hmx := (h4x h4).2
      refine OW_buildSlice (cs := [.int .i64 (x : Int)]) rfl (by rfl) (by first | (simp [fillL, patch, Value.cells, zeros]; done) | (simp [fillL, patch, Value.cells, zeros]; rfl)) (by omega) rfl rfl (fun bn => ?_)
      (repeat' first|refine kW ?_|refine kU fun bk=>?_|refine kV fun hc=>?_|refine kZ (fun hc=>?_) fun hc=>?_|fail)
      refine OW_append rfl rfl hov (sl_cells (k := 1) (c := #[.int .i64 (x : Int)]) (xs := [.int .i64 (x : Int)]) (m := 1) Fnd.here rfl (by simp)) (by repeat (first | exact Zip.here _ | apply Zip.there)) rfl (by rfl) (by omega) (by simp [maxLen]; omega) rfl (fun v' C' ho' _ _ => ?_)
      (repeat' first|refine kW ?_|refine kU fun bk=>?_|refine kV fun hc=>?_|refine kZ (fun hc=>?_) fun hc=>?_|fail)
      refine OW_storeTo [v'] rfl rfl (by rcases ho' with ⟨rfl, _⟩ | ⟨_, _, _, rfl, _⟩ <;> rfl) rfl iU (by simp) ?_
      (repeat' first|refine kW ?_|refine kU fun bk=>?_|refine kV fun hc=>?_|refine kZ (fun hc=>?_) fun hc=>?_|fail)
      refine WQ_round (X := Nat × Value × Chunk) (μ := fun y => n - y.1) (x := (i, .slice wa (l.length + i) wc, C1)) (i + 1, v', C') (by simp only; omega) ⟨by simp only; omega, fun hh => absurd h4 hh, ?_⟩ iS (fun w h => iH h)
      rw [List.replicate_succ', ← List.append_assoc, ivn_app (l ++ List.replicate i x) [x]]
      exact ho'
    · have h4 : ¬ s4.e = 0 := by omega
      obtain rfl : i = 0 := hz h4
      rw [if_neg h4]
      refine kR ?_
      exact ⟨_, iC, _, C1, rfl, by simpa using hov, rfl, hb4⟩
    · obtain rfl : i = n := by omega
      refine kR ?_
      refine ⟨_, iC, _, C1, rfl, ?_, rfl, hb4⟩
      by_cases h4 : s4.e = 0
      · rw [if_pos h4, ← (h4x h4).1]
        simpa using hov
      · rw [if_neg h4]
        obtain rfl : i = 0 := hz h4
        simpa using hov
end Go.Proofs.YtdcehmhelfohfaaDoor
namespace Go.If
open Go.Vx Go.Hf
set_option linter.all false
theorem tv_err [W0] {d : List UInt8} {s : S6} {n : Nat} (he : s.e = 0) (h : (tk d s n).e ≠ 0) : tv d s n = 0 := by
  unfold tv
  split
  · rename_i hh
    unfold tk at h
    rw [if_pos hh] at h
    exact absurd he h
  · rfl
theorem rp_facts [W0] {d : List UInt8} {own : List Nat} {m : Nat} {s : S6} {l : List Nat} (hol : own.length = 19) (h15 : ∀ x ∈ l, x ≤ 15) (h : (rpS d own m s l).e = 0) :
    l.length < (rpL d own s l).length ∧ (rpL d own s l).length ≤ m ∧ ∀ x ∈ rpL d own s l, x ≤ 15 := by
  have hk := sv_lt d s (l := own) (by omega)
  unfold rpS at h
  unfold rpL
  generalize sv d s own = k at *
  generalize sy d s own = s1 at *
  have hra := rpA_pos k
  split at h
  · exact absurd h (by assumption)
  · split at h
    · exact absurd h (by assumption)
    · rename_i h1 h2
      split at h
      · rw [fl_e, if_pos (by omega)] at h; cases h
      · rename_i h3
        refine ⟨by simp; omega, by simp; omega, fun x hx => ?_⟩
        rcases List.mem_append.1 hx with hx | hx
        · exact h15 x hx
        · rw [List.eq_of_mem_replicate hx]; exact rpV_le (by omega) h15
end Go.If
namespace Go.Proofs.YtdcehmhelfohfaaDoor
open Go Go.Vx Go.Hf Go.If
variable [W0]
set_option maxRecDepth 4000
set_option linter.all false
theorem iD {S L : List Chunk} (h : Inc S L := by exact (by repeat (first | exact Inc.refl | exact Inc.nil | (show Inc (_ :: _) _; refine Inc.cons (by repeat (first | exact Take.here | apply Take.there)) ?_) | refine Inc.skip ?_))) : Inc S L := h
omit [W0] in
/-- Read out of this chunk, whatever else is held. -/
structure SlA (C : Chunk) (v : Value) (m : Nat) (xs : List Value) : Prop where
  all : ∀ L, Sl (C :: L) 1 v m xs
set_option maxHeartbeats 16000000 in
theorem wlengths_n (p q most : Nat) (v : Value) (fa : Option Addr) (fc : Nat) (d : List UInt8) (s : S6) (L : List Chunk)
    (hv : Sl L 1 (.slice fa d.length fc) d.length (bsv d)) (hl : d.length ≤ 1000000) (ht : s.t ≤ 8 * d.length) (he : s.e = 0) :
    Gv Tryd.prog 24 [.pointer (some ⟨p, 0, none⟩)].toArray (wkC p q v most s.e :: biC q fa d.length fc s.t :: L) (fun r L' =>
      (dyS d s).1.t ≤ 8 * d.length ∧ (((dyS d s).1.e ≠ 0 ∧ ∃ x y, r = .tuple #[x, y] ∧ L' = wkC p q v most (dyS d s).1.e :: biC q fa d.length fc (dyS d s).1.t :: L) ∨
      ((dyS d s).1.e = 0 ∧ ∃ a1 c1 a2 c2 l dl Cl, r = .tuple #[.slice a1 l.length c1, .slice a2 dl.length c2] ∧ l = (dyS d s).2.1.take (dyS d s).2.2 ∧ dl = (dyS d s).2.1.drop (dyS d s).2.2 ∧ SlA Cl (.slice a1 l.length c1) l.length (intsN (icn l)) ∧ SlA Cl (.slice a2 dl.length c2) dl.length (intsN (icn dl)) ∧ cdE (icn l) = 0 ∧ cdE (icn dl) = 0 ∧ l.length ≤ 400 ∧
        L' = wkC p q v most (dyS d s).1.e :: biC q fa d.length fc (dyS d s).1.t :: Cl :: L))) := by
  refine Gv.of_body Tryd.func24 rfl rfl ?_
  have hw1 : ∀ v e (L : List Chunk), wkC p q v most e :: L = [(p, cl [.pointer (some ⟨q, 0, none⟩), v, .int .i64 (most : Int), .int .i64 (e : Int)] 55)] :: L := fun _ _ _ => rfl
  have ht1 := wtake_n p q most 5 v fa fc d s L hv (by omega) ht (by omega)
  have htv := tv_lt d s 5
  have hte := tv_err (d := d) (n := 5) he
  unfold dyS
  generalize tv d s 5 = z1 at ht1 htv hte ⊢
  generalize tk d s 5 = s1 at ht1 hte ⊢
  (repeat' first|refine kW ?_|refine kU fun bk=>?_|refine kV fun hc=>?_|refine kZ (fun hc=>?_) fun hc=>?_|fail)
  refine OW_call rfl rfl rfl ht1 rfl (fun r L' hp => ?_)
  obtain ⟨rfl, rfl, hb1⟩ := hp
  by_cases h29 : 29 < z1
  · have h1 : s1.e = 0 := by
      by_cases h0 : s1.e = 0
      · exact h0
      · have := hte h0; omega
    rw [if_neg (show ¬ s1.e ≠ 0 by omega), if_pos h29]
    have hf := wfail_n p q most 3 s1.e v (biC q fa d.length fc s1.t :: L)
    rw [if_pos h1] at hf
    (repeat' first|refine kW ?_|refine kU fun bk=>?_|refine kV fun hc=>?_|refine kZ (fun hc=>?_) fun hc=>?_|fail)
    refine OW_call rfl rfl rfl hf rfl (fun r L' hp => ?_)
    obtain ⟨rfl, rfl⟩ := hp
    rw [hw1]
    (repeat' first|refine kW ?_|refine kU fun bk=>?_|refine kV fun hc=>?_|refine kZ (fun hc=>?_) fun hc=>?_|fail)
    simp only [fl3 h1, fl_t]
    refine kR ?_
    exact ⟨wkC p q v most 3 :: biC q fa d.length fc s1.t :: L, iD, hb1, .inl ⟨by decide, _, _, rfl, rfl⟩⟩
  by_cases h1 : s1.e ≠ 0
  · rw [if_pos h1, hw1]
    (repeat' first|refine kW ?_|refine kU fun bk=>?_|refine kV fun hc=>?_|refine kZ (fun hc=>?_) fun hc=>?_|fail)
    refine kR ?_
    exact ⟨wkC p q v most s1.e :: biC q fa d.length fc s1.t :: L, iD, hb1, .inl ⟨h1, _, _, rfl, rfl⟩⟩
  rw [if_neg h1, if_neg h29]
  have h1 : s1.e = 0 := by omega
  have ht2 := wtake_n p q most 5 v fa fc d s1 L hv (by omega) hb1 (by omega)
  have htv2 := tv_lt d s1 5
  have hte2 := tv_err (d := d) (n := 5) h1
  generalize tv d s1 5 = z2 at ht2 htv2 hte2 ⊢
  generalize tk d s1 5 = s2 at ht2 hte2 ⊢
  rw [hw1 v s1.e]
  (repeat' first|refine kW ?_|refine kU fun bk=>?_|refine kV fun hc=>?_|refine kZ (fun hc=>?_) fun hc=>?_|fail)
  refine OW_call rfl rfl rfl (Gv.holds ht2 (fun w h => h)) rfl (fun r L' hp => ?_)
  obtain ⟨rfl, rfl, hb2⟩ := hp
  by_cases h29b : 29 < z2
  · have h2 : s2.e = 0 := by
      by_cases h0 : s2.e = 0
      · exact h0
      · have := hte2 h0; omega
    rw [if_neg (show ¬ s2.e ≠ 0 by omega), if_pos h29b]
    have hf := wfail_n p q most 3 s2.e v (biC q fa d.length fc s2.t :: L)
    rw [if_pos h2] at hf
    (repeat' first|refine kW ?_|refine kU fun bk=>?_|refine kV fun hc=>?_|refine kZ (fun hc=>?_) fun hc=>?_|fail)
    refine OW_call rfl rfl rfl hf rfl (fun r L' hp => ?_)
    obtain ⟨rfl, rfl⟩ := hp
    rw [hw1]
    (repeat' first|refine kW ?_|refine kU fun bk=>?_|refine kV fun hc=>?_|refine kZ (fun hc=>?_) fun hc=>?_|fail)
    simp only [fl3 h2, fl_t]
    refine kR ?_
    exact ⟨wkC p q v most 3 :: biC q fa d.length fc s2.t :: L, iD, hb2, .inl ⟨by decide, _, _, rfl, rfl⟩⟩
  by_cases h2 : s2.e ≠ 0
  · rw [if_pos h2, hw1]
    (repeat' first|refine kW ?_|refine kU fun bk=>?_|refine kV fun hc=>?_|refine kZ (fun hc=>?_) fun hc=>?_|fail)
    refine kR ?_
    exact ⟨wkC p q v most s2.e :: biC q fa d.length fc s2.t :: L, iD, hb2, .inl ⟨h2, _, _, rfl, rfl⟩⟩
  rw [if_neg h2, if_neg h29b, dyT_eq]
  have h2 : s2.e = 0 := by omega
  obtain ⟨n1, hn1⟩ : ∃ n1, n1 = 257 + z1 := ⟨_, rfl⟩
  obtain ⟨n2, hn2⟩ : ∃ n2, n2 = 1 + z2 := ⟨_, rfl⟩
  rw [← hn1, ← hn2]
  rw [hw1 v s2.e]
  (repeat' first|refine kW ?_|refine kU fun bk=>?_|refine kV fun hc=>?_|refine kZ (fun hc=>?_) fun hc=>?_|fail)
  refine OW_buildSlice (cs := ivn ordL) rfl (by rfl) (by kernel_rfl) (by omega) rfl rfl (fun bo => ?_)
  (repeat' first|refine kW ?_|refine kU fun bk=>?_|refine kV fun hc=>?_|refine kZ (fun hc=>?_) fun hc=>?_|fail)
  refine OW_makeSlice (m := 19) (c := 19) rfl rfl (by rfl) (by omega) (by omega) (by omega) rfl (fun b => ?_)
  rw [zeros_int]
  generalize hOL : ivn ordL = OL
  obtain ⟨o0, ho0⟩ : ∃ o0, o0 = List.replicate 19 0 := ⟨_, rfl⟩
  rw [← ho0]
  have ho0l : o0.length = 19 := by rw [ho0]; simp
  have ho07 : ∀ y ∈ o0, y ≤ 7 := by rw [ho0]; simp
  (repeat' first|refine kW ?_|refine kU fun bk=>?_|refine kV fun hc=>?_|refine kZ (fun hc=>?_) fun hc=>?_|fail)
  have ht3 := wtake_n p q most 4 v fa fc d s2 ([(b, cl (ivn o0) 3)] :: [(bo, cl OL 3)] :: L) (sl_there (sl_there hv)) (by omega) hb2 (by omega)
  have htv3 := tv_lt d s2 4
  obtain ⟨LC, hLC⟩ : ∃ LC, LC = lcS d s2 := ⟨_, rfl⟩
  have hlg : lgS d (n1 + n2) s2 = if LC.1.e ≠ 0 then (LC.1, []) else lpS d LC.2 (n1 + n2) (n1 + n2) LC.1 [] := by rw [hLC]; rfl
  rw [hlg]
  clear hlg
  obtain ⟨LG, hLG⟩ : ∃ LG, LG = if LC.1.e ≠ 0 then (LC.1, []) else lpS d LC.2 (n1 + n2) (n1 + n2) LC.1 [] := ⟨_, rfl⟩
  rw [← hLG]
  obtain ⟨Y, hY⟩ : ∃ Y, Y = if LG.1.e ≠ 0 then (LG.1, [], 0) else dyK n1 LG := ⟨_, rfl⟩
  rw [← hY]
  unfold lcS at hLC
  rw [← ho0] at hLC
  clear ho0
  generalize tv d s2 4 = z at ht3 htv3 hLC
  generalize tk d s2 4 = s3 at ht3 hLC
  refine OW_call rfl rfl rfl (Gv.holds ht3 (fun w h => iH h)) rfl (fun r L' hp => ?_)
  obtain ⟨rfl, rfl, hb3⟩ := hp
  rw [hw1 v s3.e]
  (repeat' first|refine kW ?_|refine kU fun bk=>?_|refine kV fun hc=>?_|refine kZ (fun hc=>?_) fun hc=>?_|fail)
  refine WC_loop (X := Nat × S6 × List Nat) (fun x => [(0, .pointer (some ⟨p, 0, none⟩)), (4, .int .i64 (n1 : Int)), (5, .int .i64 (n2 : Int)), (6, .slice (some ⟨bo, 0, none⟩) 19 19), (7, .slice (some ⟨b, 0, none⟩) 19 19), (8, .int .i64 ((4 + z : Nat) : Int)), (9, .int .i64 (x.1 : Int))])
    (fun x => wkC p q v most x.2.1.e :: biC q fa d.length fc x.2.1.t :: [(b, cl (ivn x.2.2) 3)] :: [(bo, cl OL 3)] :: L)
    (fun x => x.1 ≤ 4 + z ∧ x.2.1.t ≤ 8 * d.length ∧ x.2.2.length = 19 ∧ (∀ y ∈ x.2.2, y ≤ 7) ∧ (x.2.1.e = 0 → s3.e = 0 ∧ owS d (4 + z - x.1) x.1 x.2.1 x.2.2 = owS d (4 + z) 0 s3 o0) ∧ (x.2.1.e ≠ 0 → LC.1 = x.2.1)) (fun x => 4 + z - x.1) (0, s3, o0)
    ⟨Nat.zero_le _, hb3, ho0l, ho07, fun h => ⟨h, rfl⟩, fun h => by rw [hLC, if_pos h]⟩ iS (fun w h => iH h) ?_
  rintro ⟨i, s5, o⟩ ⟨hi, hb5, hol, ho7, hs5, he5⟩
  simp only at hi hb5 hol ho7 hs5 he5 ⊢
  rw [hw1 v s5.e]
  (repeat' first|refine kW ?_|refine kU fun bk=>?_|refine kV fun hc=>?_|refine kZ (fun hc=>?_) fun hc=>?_|fail)
  · have h5 : s5.e = 0 := by omega
    obtain ⟨h3, hs5⟩ := hs5 h5
    obtain ⟨k2, hk2⟩ : ∃ k2, 4 + z - i = k2 + 1 := ⟨4 + z - i - 1, by omega⟩
    have hk3 : 4 + z - (i + 1) = k2 := by omega
    rw [hk2, owS] at hs5
    have ht6 := wtake_n p q most 3 v fa fc d s5 ([(b, cl (ivn o) 3)] :: [(bo, cl OL 3)] :: L) (sl_there (sl_there hv)) (by omega) hb5 (by omega)
    have htv6 := tv_lt d s5 3
    generalize tv d s5 3 = z6 at ht6 htv6 hs5
    generalize tk d s5 3 = s6 at ht6 hs5
    have ho19 : ordL.getD i 0 < 19 := by
      have : ∀ j, j < 19 → ordL.getD j 0 < 19 := by decide
      exact this i (by omega)
    have hcell : OL.toArray[i * 1]? = some (.int .i64 (ordL.getD i 0 : Int)) := by
      rw [Nat.mul_one, ← hOL]
      simpa using ivn_get (l := ordL) (i := i) (n := ordL.getD i 0) (by simp [List.getD, show i < ordL.length from by show i < 19; omega])
    generalize ordL.getD i 0 = oi at hs5 ho19 hcell
    refine WC_draw [[(bo, cl OL 3)]] [8] mixed ?_
    (refine WR_t 0 ?_; refine WR_t 1 ?_; refine WR_t 2 ?_)
    (refine WR_take 3 rfl rfl (by kernel_rfl) iP iC (EV_indexAddr0 (j := i) (len := 19) rfl rfl rfl (by omega)) (by rfl) ?_)
    (refine WR_take 4 rfl rfl (by kernel_rfl) iP iC (EV_load rfl (by exact Fnd.here) hcell) (by rfl) ?_)
    (refine WR_t 5 ?_)
    (refine WR_one 6 (by kernel_rfl) rfl rfl ?_)
    refine OW_call rfl rfl rfl (Gv.holds ht6 (fun w h => iH h)) rfl (fun r L' hp => ?_)
    obtain ⟨rfl, rfl, hb6⟩ := hp
    refine ⟨iC, ?_⟩
    (refine WR_take 7 rfl rfl (by kernel_rfl) iP iC (EV_indexAddr0 (j := oi) (len := 19) rfl rfl rfl (by omega)) (by rfl) ?_)
    (refine WR_last 8 (by kernel_rfl) rfl rfl rfl ?_)
    have hse : (ivn o).set (oi * 1) (.int .i64 (z6 : Int)) = ivn (o.set oi z6) := by simp [ivn, List.map_set]
    refine OW_storeTo (ivn (o.set oi z6)) rfl rfl rfl hse iU (by rw [ivn_length]; omega) ?_
    (refine WR_done (by kernel_rfl) ?_)
    (repeat' first|refine kW ?_|refine kU fun bk=>?_|refine kV fun hc=>?_|refine kZ (fun hc=>?_) fun hc=>?_|fail)
    refine WQ_round (X := Nat × S6 × List Nat) (μ := fun x => 4 + z - x.1) (x := (i, s5, o)) (i + 1, s6, o.set oi z6) (by simp only; omega) ⟨by simp only; omega, hb6, by simp only [List.length_set]; exact hol, fun y hy => ?_, fun h6 => ⟨h3, ?_⟩, fun h6 => ?_⟩ iS (fun w h => iH h)
    · rcases List.mem_or_eq_of_mem_set hy with h | rfl
      · exact ho7 y h
      · omega
    · simp only at h6 ⊢
      rw [hk3]
      rw [if_neg (show ¬ s6.e ≠ 0 from fun hh => hh h6)] at hs5
      exact hs5
    · simp only at h6 ⊢
      rw [if_pos h6] at hs5
      rw [hLC, if_neg (show ¬ s3.e ≠ 0 from fun hh => hh h3), ← hs5, if_pos (by exact h6)]
  · have h5 : s5.e ≠ 0 := by omega
    have hL := he5 h5
    rw [hL, if_pos h5] at hLG
    rw [hLG, if_pos (by exact h5)] at hY
    subst hY
    refine kR ?_
    exact ⟨wkC p q v most s5.e :: biC q fa d.length fc s5.t :: L, iD, hb5, .inl ⟨h5, _, _, rfl, rfl⟩⟩
  · have h5 : s5.e ≠ 0 := by omega
    have hL := he5 h5
    rw [hL, if_pos h5] at hLG
    rw [hLG, if_pos (by exact h5)] at hY
    subst hY
    refine kR ?_
    exact ⟨wkC p q v most s5.e :: biC q fa d.length fc s5.t :: L, iD, hb5, .inl ⟨h5, _, _, rfl, rfl⟩⟩
  have h5 : s5.e = 0 := by omega
  obtain ⟨h3, hs5⟩ := hs5 h5
  obtain rfl : i = 4 + z := by omega
  rw [show 4 + z - (4 + z) = 0 from by omega, owS] at hs5
  rw [if_neg (show ¬ s3.e ≠ 0 from fun hh => hh h3), ← hs5, if_neg (show ¬ (s5, o).1.e ≠ 0 from fun hh => hh h5)] at hLC
  simp only at hLC
  clear he5 hs5 ht3
  have ho15 : ∀ x ∈ o, x ≤ 15 := fun x hx => by have := ho7 x hx; omega
  have hcc := complete_n (some ⟨b, 0, none⟩) 19 (icn o) (wkC p q v most s5.e :: biC q fa d.length fc s5.t :: [(b, cl (ivn o) 3)] :: [(bo, cl OL 3)] :: L) (by rw [icn_length, hol, ivn_icn]; exact sl_there (sl_there (sl_cells (c := (ivn o).toArray) Fnd.here (by rw [ivn_length, hol]) (by simp)))) (by rw [icn_length]; omega)
  rw [icn_length, hol, wgt_icn ho15] at hcc
  have hBd : ((kS o : Int) == 32768) = decide (kS o = 32768) := by
    by_cases h : kS o = 32768
    · rw [h]; rfl
    · rw [decide_eq_false h]; simp; omega
  rw [hBd] at hcc
  by_cases hk : kS o = 32768
  · rw [if_pos hk] at hLC
    rw [decide_eq_true hk] at hcc
    refine OW_callP rfl rfl rfl hcc rfl ?_
    (repeat' first|refine kW ?_|refine kU fun bk=>?_|refine kV fun hc=>?_|refine kZ (fun hc=>?_) fun hc=>?_|fail)
    obtain ⟨lp, hlp⟩ : ∃ lp, lp = bk := ⟨_, rfl⟩
    rw [← hlp]
    clear hlp
    rw [hLC, if_neg (show ¬ (s5, o).1.e ≠ 0 from fun hh => hh h5)] at hLG
    simp only at hLG
    have hcd := cdE_icn ho15 (by omega) (show kS o ≤ 32768 by omega)
    refine WC_loop (X := Nat × S6 × List Nat × Value × Chunk) (fun x => [(0, .pointer (some ⟨p, 0, none⟩)), (4, .int .i64 (n1 : Int)), (5, .int .i64 (n2 : Int)), (7, .slice (some ⟨b, 0, none⟩) 19 19), (10, .pointer (some ⟨lp, 0, none⟩))])
      (fun x => wkC p q v most x.2.1.e :: biC q fa d.length fc x.2.1.t :: lpC lp x.2.2.2.1 :: x.2.2.2.2 :: [(b, cl (ivn o) 3)] :: L)
      (fun x => x.2.1.t ≤ 8 * d.length ∧ x.2.2.1.length ≤ n1 + n2 ∧ Ow 3 1 x.2.2.2.1 x.2.2.1.length (ivn x.2.2.1) x.2.2.2.2 ∧ (x.2.1.e = 0 → n1 + n2 ≤ x.1 + x.2.2.1.length ∧ (∀ y ∈ x.2.2.1, y ≤ 15) ∧ lpS d o (n1 + n2) x.1 x.2.1 x.2.2.1 = LG) ∧ (x.2.1.e ≠ 0 → LG.1 = x.2.1)) (fun x => x.1) (n1 + n2, s5, [], .slice none 0 0, [])
      ⟨hb5, Nat.zero_le _, .inl ⟨rfl, rfl, rfl, rfl⟩, fun _ => ⟨by simp, by simp, hLG.symm⟩, fun h => absurd h5 h⟩ iS (fun w h => ?_) ?_
    · show Holds w ([(p, cl [.pointer (some ⟨q, 0, none⟩), v, .int .i64 (most : Int), .int .i64 (s5.e : Int)] 55)] :: biC q fa d.length fc s5.t :: [(lp, cl [.slice none 0 0] 57)] :: [] :: [(b, cl (ivn o) 3)] :: L)
      have h' : Holds w ([(p, cl [.pointer (some ⟨q, 0, none⟩), v, .int .i64 (most : Int), .int .i64 (s5.e : Int)] 55)] :: biC q fa d.length fc s5.t :: [(lp, cl [.slice none 0 0] 57)] :: [(b, cl (ivn o) 3)] :: L) := iH h
      simpa only [Holds, List.flatten_cons, List.nil_append] using h'
    clear h5 hb5 hcc hLC hLG
    rintro ⟨f, s7, l, lv, Cl⟩ ⟨hb7, hlm, hov, hs7, he7⟩
    simp only at hb7 hlm hov hs7 he7 ⊢
    obtain ⟨la, lc, rfl⟩ := ow_slc hov
    unfold lpC
    rw [hw1 v s7.e]
    (repeat' first|refine kW ?_|refine kU fun bk=>?_|refine kV fun hc=>?_|refine kZ (fun hc=>?_) fun hc=>?_|fail)
    · have h7 : s7.e = 0 := by omega
      obtain ⟨hf7, h15, hlp7⟩ := hs7 h7
      obtain ⟨g, rfl⟩ : ∃ g, f = g + 1 := ⟨f - 1, by omega⟩
      rw [lpS, if_pos ⟨h7, by omega⟩] at hlp7
      have hr := wrepeat_n p q lp most (n1 + n2) v (.slice la l.length lc) (some ⟨b, 0, none⟩) 19 o l fa fc d s7 Cl ([(b, cl (ivn o) 3)] :: L) (by rw [hol, ivn_icn]; exact sl_cells (c := (ivn o).toArray) Fnd.here (by rw [ivn_length, hol]) (by simp)) hcd hol (sl_there hv) hl hb7 h7 hov hlm (by omega)
      rw [hol] at hr
      have hfa := rp_facts (d := d) (s := s7) (own := o) (m := n1 + n2) hol h15
      generalize rpS d o (n1 + n2) s7 l = s8 at hr hlp7 hfa
      generalize rpL d o s7 l = l8 at hr hlp7 hfa
      unfold lpC at hr
      rw [← Int.natCast_add]
      refine OW_call rfl rfl rfl (Gv.holds hr (fun w h => iH h)) rfl (fun r L' hp => ?_)
      obtain ⟨lv8, Cl8, rfl, ho8, rfl, hb8⟩ := hp
      (repeat' first|refine kW ?_|refine kU fun bk=>?_|refine kV fun hc=>?_|refine kZ (fun hc=>?_) fun hc=>?_|fail)
      by_cases h8 : s8.e = 0
      · rw [if_pos h8] at hlp7 ho8
        obtain ⟨hx1, hx2, hx3⟩ := hfa h8
        refine WQ_round (X := Nat × S6 × List Nat × Value × Chunk) (μ := fun x => x.1) (x := (g + 1, s7, l, .slice la l.length lc, Cl)) (g, s8, l8, lv8, Cl8) (by simp only; omega) ⟨hb8, hx2, ho8, fun _ => ⟨by simp only; omega, hx3, hlp7⟩, fun hh => absurd h8 hh⟩ iS (fun w h => iH h)
      · rw [if_neg h8] at hlp7 ho8
        refine WQ_round (X := Nat × S6 × List Nat × Value × Chunk) (μ := fun x => x.1) (x := (g + 1, s7, l, .slice la l.length lc, Cl)) (g, s8, l, lv8, Cl8) (by simp only; omega) ⟨hb8, hlm, ho8, fun hh => absurd hh h8, fun _ => by rw [← hlp7]⟩ iS (fun w h => iH h)
    · have h7 : s7.e = 0 := by omega
      obtain ⟨hf7, h15, hlp7⟩ := hs7 h7
      have hlm : l.length = n1 + n2 := by omega
      have hq : lpS d o (n1 + n2) f s7 l = (s7, l) := by
        cases f with
        | zero => rfl
        | succ f => rw [lpS, if_neg (fun hh => by omega)]
      rw [hq] at hlp7
      rw [← hlp7, if_neg (show ¬ (s7, l).1.e ≠ 0 from fun hh => hh h7)] at hY
      unfold dyK at hY
      simp only at hY
      have hov2 := hov
      rcases hov2 with ⟨_, h0, _⟩ | ⟨b2, cap, rest, hve, rfl, hxl, hrl, hmc, hcm⟩
      · omega
      injection hve with q1 q2 q3
      subst q1 q3
      clear q2
      have hl4 : ∀ x ∈ l.take n1, x ≤ 15 := fun x hx => h15 x (List.mem_of_mem_take hx)
      have hd4 : ∀ x ∈ l.drop n1, x ≤ 15 := fun x hx => h15 x (List.mem_of_mem_drop hx)
      have hln : (l.take n1).length = n1 := by simp; omega
      have hdn : (l.drop n1).length = n2 := by simp; omega
      obtain ⟨x, hx⟩ : ∃ x, l[256]? = some x := ⟨l[256], List.getElem?_eq_getElem (by omega)⟩
      have hcell : (ivn l ++ rest).toArray[0 + 256 * 1]? = some (.int .i64 (x : Int)) := by
        have h5 := ivn_get hx
        have h6 := (List.getElem?_eq_some_iff.1 h5).1
        rw [List.getElem?_toArray, List.getElem?_append_left (by simpa using h6)]
        simpa using h5
      rw [show l.getD 256 0 = x from by simp [List.getD, hx]] at hY
      rw [hlm] at hmc
      rw [hlm]
      refine OW_EV (EV_sliceTo (h := n1) rfl rfl rfl (by omega)) rfl ?_
      (repeat' first|refine kW ?_|refine kU fun bk=>?_|refine kV fun hc=>?_|refine kZ (fun hc=>?_) fun hc=>?_|fail)
      refine OW_EV (EV_sliceFrom0 (l := n1) (h := n1 + n2) rfl rfl rfl (by omega) (by omega) (by omega)) rfl ?_
      rw [show n1 + n2 - n1 = n2 from by omega]
      (repeat' first|refine kW ?_|refine kU fun bk=>?_|refine kV fun hc=>?_|refine kZ (fun hc=>?_) fun hc=>?_|fail)
      obtain ⟨K, hK⟩ : ∃ K, K = [(p, cl [.pointer (some ⟨q, 0, none⟩), v, .int .i64 (most : Int), .int .i64 (s7.e : Int)] 55)] :: biC q fa d.length fc s7.t :: [(lp, cl [.slice (some ⟨b2, 0, none⟩) (n1 + n2) lc] 57)] :: [(b2, cl (ivn l ++ rest) 3)] :: [(b, cl (ivn o) 3)] :: L := ⟨_, rfl⟩
      have hS1 : ∀ L, Sl ([(b2, cl (ivn l ++ rest) 3)] :: L) 1 (.slice (some ⟨b2, 0, none⟩) (l.take n1).length lc) (l.take n1).length (intsN (icn (l.take n1))) := fun L => by
        rw [ivn_icn]
        exact .inr ⟨_, _, rfl, RdAt.cl' (l := ivn l ++ rest) Fnd.here (by
          rw [ivn_length]; unfold cut ivn
          rw [List.drop_zero, List.take_append_of_le_length (by simp; omega), List.map_take, List.length_take, Nat.min_eq_left (by omega)]), by rw [ivn_length]; simp⟩
      have hS2 : ∀ L, Sl ([(b2, cl (ivn l ++ rest) 3)] :: L) 1 (.slice (some ⟨b2, n1 * 1, none⟩) (l.drop n1).length (lc - n1)) (l.drop n1).length (intsN (icn (l.drop n1))) := fun L => by
        rw [ivn_icn]
        exact .inr ⟨_, _, rfl, RdAt.cl' (l := ivn l ++ rest) Fnd.here (by
          rw [ivn_length, hdn]; unfold cut ivn
          rw [List.drop_append_of_le_length (by simp; omega), List.take_append_of_le_length (by simp; omega), Nat.mul_one, ← List.map_drop, ← List.map_take, List.take_of_length_le (by omega)]), by rw [ivn_length]; simp⟩
      have hBd : ∀ o : List Nat, ((kS o : Int) == 32768) = decide (kS o = 32768) := fun o => by
        by_cases h : kS o = 32768
        · rw [h]; rfl
        · rw [decide_eq_false h]; simp; omega
      have hS1K : Sl K 1 (.slice (some ⟨b2, 0, none⟩) (l.take n1).length lc) (l.take n1).length (intsN (icn (l.take n1))) := by rw [hK]; exact sl_there (sl_there (sl_there (hS1 _)))
      have hS2K : Sl K 1 (.slice (some ⟨b2, n1 * 1, none⟩) (l.drop n1).length (lc - n1)) (l.drop n1).length (intsN (icn (l.drop n1))) := by rw [hK]; exact sl_there (sl_there (sl_there (hS2 _)))
      have hc1 := complete_n _ _ (icn (l.take n1)) K (by rw [icn_length]; exact hS1K) (by rw [icn_length]; omega)
      have hc2 := complete_n _ _ (icn (l.drop n1)) K (by rw [icn_length]; exact hS2K) (by rw [icn_length]; omega)
      have hsg := single_n _ _ (l.drop n1) K hS2K (by omega)
      rw [icn_length, wgt_icn hl4, hBd, hln] at hc1
      rw [icn_length, wgt_icn hd4, hBd, hdn] at hc2
      rw [hdn] at hsg
      have hf := wfail_n p q most 3 s7.e v (biC q fa d.length fc s7.t :: [(lp, cl [.slice (some ⟨b2, 0, none⟩) (n1 + n2) lc] 57)] :: [(b2, cl (ivn l ++ rest) 3)] :: [(b, cl (ivn o) 3)] :: L)
      rw [if_pos h7] at hf
      have hbad : ¬ (x ≠ 0 ∧ kS (l.take n1) = 32768 ∧ (kS (l.drop n1) = 32768 ∨ sgl (l.drop n1) = true)) → Y = (fl s7 3, [], 0) := fun h => by rw [hY, if_neg h]
      refine OW_EV (EV_indexAddr (j := 256) rfl rfl rfl (by omega)) rfl ?_
      (repeat' first|refine kW ?_|refine kU fun bk=>?_|refine kV fun hc=>?_|refine kZ (fun hc=>?_) fun hc=>?_|fail)
      refine OW_EV (EV_load rfl (by exact Fnd.there (Fnd.there (Fnd.there Fnd.here))) hcell) rfl ?_
      rw [← hK]
      (repeat' first|refine kW ?_|refine kU fun bk=>?_|refine kV fun hc=>?_|refine kZ (fun hc=>?_) fun hc=>?_|fail)
      · rw [hbad (fun hh => hh.1 (by omega))]
        simp only [fl3 h7, fl_t]
        rw [hK]
        refine OW_call rfl rfl rfl (Gv.holds hf (fun w h => iH h)) rfl (fun r L' hp => ?_)
        obtain ⟨rfl, rfl⟩ := hp
        (repeat' first|refine kW ?_|refine kU fun bk=>?_|refine kV fun hc=>?_|refine kZ (fun hc=>?_) fun hc=>?_|fail)
        refine kR ?_
        exact ⟨wkC p q v most 3 :: biC q fa d.length fc s7.t :: L, iD, hb7, .inl ⟨by decide, _, _, rfl, rfl⟩⟩
      by_cases hk1 : kS (l.take n1) = 32768
      · rw [decide_eq_true hk1] at hc1
        refine OW_callP rfl rfl rfl hc1 rfl ?_
        (repeat' first|refine kW ?_|refine kU fun bk=>?_|refine kV fun hc=>?_|refine kZ (fun hc=>?_) fun hc=>?_|fail)
        by_cases hk2 : kS (l.drop n1) = 32768
        · rw [decide_eq_true hk2] at hc2
          refine OW_callP rfl rfl rfl hc2 rfl ?_
          (repeat' first|refine kW ?_|refine kU fun bk=>?_|refine kV fun hc=>?_|refine kZ (fun hc=>?_) fun hc=>?_|fail)
          have hYo : Y = (s7, l, n1) := by rw [hY, if_pos ⟨show x ≠ 0 by omega, hk1, .inl hk2⟩]
          rw [hYo, hK]
          have hks := kS_sum (l.drop n1)
          have hkd : kS (l.drop n1) ≤ 32768 := by
            rcases (.inl hk2 : kS (l.drop n1) = 32768 ∨ sgl (l.drop n1) = true) with h | h
            · omega
            · rw [sgl_sum] at h
              have := of_decide_eq_true h
              omega
          refine kR ?_
          exact ⟨wkC p q v most s7.e :: biC q fa d.length fc s7.t :: [(b2, cl (ivn l ++ rest) 3)] :: L, iD, hb7, .inr ⟨h7, some ⟨b2, 0, none⟩, lc, some ⟨b2, n1 * 1, none⟩, lc - n1, l.take n1, l.drop n1, _, by rw [hln, hdn]; rfl, rfl, rfl, ⟨hS1⟩, ⟨hS2⟩, cdE_icn hl4 (by omega) (by omega), cdE_icn hd4 (by omega) hkd, by omega, rfl⟩⟩
        · rw [decide_eq_false hk2] at hc2
          refine OW_callP rfl rfl rfl hc2 rfl ?_
          (repeat' first|refine kW ?_|refine kU fun bk=>?_|refine kV fun hc=>?_|refine kZ (fun hc=>?_) fun hc=>?_|fail)
          cases hsb : sgl (l.drop n1) with
          | false =>
            rw [hsb] at hsg
            refine OW_callP rfl rfl rfl hsg rfl ?_
            (repeat' first|refine kW ?_|refine kU fun bk=>?_|refine kV fun hc=>?_|refine kZ (fun hc=>?_) fun hc=>?_|fail)
            rw [hbad (fun hh => by rcases hh.2.2 with h | h; exact hk2 h; rw [hsb] at h; cases h)]
            simp only [fl3 h7, fl_t]
            rw [hK]
            refine OW_call rfl rfl rfl (Gv.holds hf (fun w h => iH h)) rfl (fun r L' hp => ?_)
            obtain ⟨rfl, rfl⟩ := hp
            (repeat' first|refine kW ?_|refine kU fun bk=>?_|refine kV fun hc=>?_|refine kZ (fun hc=>?_) fun hc=>?_|fail)
            refine kR ?_
            exact ⟨wkC p q v most 3 :: biC q fa d.length fc s7.t :: L, iD, hb7, .inl ⟨by decide, _, _, rfl, rfl⟩⟩
          | true =>
            rw [hsb] at hsg
            refine OW_callP rfl rfl rfl hsg rfl ?_
            (repeat' first|refine kW ?_|refine kU fun bk=>?_|refine kV fun hc=>?_|refine kZ (fun hc=>?_) fun hc=>?_|fail)
            have hYo : Y = (s7, l, n1) := by rw [hY, if_pos ⟨show x ≠ 0 by omega, hk1, .inr hsb⟩]
            rw [hYo, hK]
            have hks := kS_sum (l.drop n1)
            have hkd : kS (l.drop n1) ≤ 32768 := by
              rcases (.inr hsb : kS (l.drop n1) = 32768 ∨ sgl (l.drop n1) = true) with h | h
              · omega
              · rw [sgl_sum] at h
                have := of_decide_eq_true h
                omega
            refine kR ?_
            exact ⟨wkC p q v most s7.e :: biC q fa d.length fc s7.t :: [(b2, cl (ivn l ++ rest) 3)] :: L, iD, hb7, .inr ⟨h7, some ⟨b2, 0, none⟩, lc, some ⟨b2, n1 * 1, none⟩, lc - n1, l.take n1, l.drop n1, _, by rw [hln, hdn]; rfl, rfl, rfl, ⟨hS1⟩, ⟨hS2⟩, cdE_icn hl4 (by omega) (by omega), cdE_icn hd4 (by omega) hkd, by omega, rfl⟩⟩
      · rw [decide_eq_false hk1] at hc1
        refine OW_callP rfl rfl rfl hc1 rfl ?_
        (repeat' first|refine kW ?_|refine kU fun bk=>?_|refine kV fun hc=>?_|refine kZ (fun hc=>?_) fun hc=>?_|fail)
        rw [hbad (fun hh => hk1 hh.2.1)]
        simp only [fl3 h7, fl_t]
        rw [hK]
        refine OW_call rfl rfl rfl (Gv.holds hf (fun w h => iH h)) rfl (fun r L' hp => ?_)
        obtain ⟨rfl, rfl⟩ := hp
        (repeat' first|refine kW ?_|refine kU fun bk=>?_|refine kV fun hc=>?_|refine kZ (fun hc=>?_) fun hc=>?_|fail)
        refine kR ?_
        exact ⟨wkC p q v most 3 :: biC q fa d.length fc s7.t :: L, iD, hb7, .inl ⟨by decide, _, _, rfl, rfl⟩⟩
    · have h7 : s7.e ≠ 0 := by omega
      have hL := he7 h7
      rw [hL, if_pos h7] at hY
      subst hY
      refine kR ?_
      exact ⟨wkC p q v most s7.e :: biC q fa d.length fc s7.t :: L, iD, hb7, .inl ⟨h7, _, _, rfl, rfl⟩⟩
  · rw [if_neg hk] at hLC
    rw [decide_eq_false hk] at hcc
    refine OW_callP rfl rfl rfl hcc rfl ?_
    have hf := wfail_n p q most 3 s5.e v (biC q fa d.length fc s5.t :: [(b, cl (ivn o) 3)] :: [(bo, cl OL 3)] :: L)
    rw [if_pos h5] at hf
    rw [hLC, if_pos (by rw [fl3 h5]; decide)] at hLG
    rw [hLG, if_pos (by rw [fl3 h5]; decide)] at hY
    subst hY
    simp only [fl3 h5, fl_t]
    (repeat' first|refine kW ?_|refine kU fun bk=>?_|refine kV fun hc=>?_|refine kZ (fun hc=>?_) fun hc=>?_|fail)
    refine OW_call rfl rfl rfl hf rfl (fun r L' hp => ?_)
    obtain ⟨rfl, rfl⟩ := hp
    rw [hw1 v 3]
    (repeat' first|refine kW ?_|refine kU fun bk=>?_|refine kV fun hc=>?_|refine kZ (fun hc=>?_) fun hc=>?_|fail)
    refine WC_loop (X := Unit) (fun _ => [(0, .pointer (some ⟨p, 0, none⟩))]) (fun _ => wkC p q v most 3 :: biC q fa d.length fc s5.t :: L) (fun _ => True) (fun _ => 0) () trivial iS (fun w h => iH h) ?_
    intro _ _
    rw [hw1 v 3]
    (repeat' first|refine kW ?_|refine kU fun bk=>?_|refine kV fun hc=>?_|refine kZ (fun hc=>?_) fun hc=>?_|fail)
    refine kR ?_
    exact ⟨wkC p q v most 3 :: biC q fa d.length fc s5.t :: L, iD, hb5, .inl ⟨by decide, _, _, rfl, rfl⟩⟩
end Go.Proofs.YtdcehmhelfohfaaDoor
namespace Go.If
open Go.Vx Go.Hf
set_option linter.all false
theorem rpS_out [W0] (d : List UInt8) (own : List Nat) (m : Nat) (s : S6) (l : List Nat) : (rpS d own m s l).out = s.out := by
  unfold rpS
  repeat' split
  all_goals simp only [fl_out, tk_out, sy_o]
theorem lpS_out [W0] (d : List UInt8) (own : List Nat) (m : Nat) : ∀ f s l, (lpS d own m f s l).1.out = s.out
  | 0, s, l => rfl
  | f + 1, s, l => by
    rw [lpS]
    split
    · split
      · rw [lpS_out d own m f, rpS_out]
      · exact rpS_out _ _ _ _ _
    · rfl
theorem owS_out [W0] (d : List UInt8) : ∀ k i s o, (owS d k i s o).1.out = s.out
  | 0, i, s, o => rfl
  | k + 1, i, s, o => by
    rw [owS]
    split
    · exact tk_out _ _ _
    · rw [owS_out d k, tk_out]
theorem lcS_out [W0] (d : List UInt8) (s : S6) : (lcS d s).1.out = s.out := by
  unfold lcS
  repeat' split
  all_goals simp only [fl_out, tk_out, owS_out]
theorem lgS_out [W0] (d : List UInt8) (m : Nat) (s : S6) : (lgS d m s).1.out = s.out := by
  unfold lgS
  repeat' split
  all_goals simp only [lpS_out, lcS_out]
theorem dyT_out [W0] (d : List UInt8) (n1 n2 : Nat) (s : S6) : (dyT d n1 n2 s).1.out = s.out := by
  rw [dyT_eq]
  unfold dyK
  repeat' split
  all_goals simp only [fl_out, lgS_out]
theorem dyS_out [W0] (d : List UInt8) (s : S6) : (dyS d s).1.out = s.out := by
  unfold dyS
  repeat' split
  all_goals simp only [fl_out, tk_out, dyT_out]
end Go.If
namespace Go.Proofs.YtdcehmhelfohfaaDoor
open Go Go.Vx Go.Hf Go.If
variable [W0]
set_option maxRecDepth 4000
set_option linter.all false
theorem fxL_length : fxL.length = 288 := by simp [fxL]
theorem fxD_length : fxD.length = 32 := by simp [fxD]
set_option maxHeartbeats 16000000 in
theorem wraw_n (a : Option Addr) (c : Nat) (d : List UInt8) (mo : Int) (most : Nat) (L : List Chunk) (hv : Sl L 1 (.slice a d.length c) d.length (bsv d)) (hl : d.length ≤ 1000000) (hm1 : max mo 0 = (most : Int)) (hm : most ≤ 1000000) :
    Gv Tryd.prog 13 [.slice a d.length c, .int .i64 mo].toArray L (fun r L' =>
      ((rawS d most).e ≠ 0 ∧ r = .agg #[.slice none 0 0, .int .i64 0, .int .i64 ((rawS d most).e : Int)] ∧ L' = L) ∨
      ((rawS d most).e = 0 ∧ ∃ v C, r = .agg #[v, .int .i64 (((rawS d most).t + 7) / 8 : Nat), .int .i64 0] ∧ Ow 5 1 v (rawS d most).out.length (bsv (rawS d most).out) C ∧ (rawS d most).t ≤ 8 * d.length ∧ L' = C :: L)) := by
  refine Gv.of_body Tryd.func13 rfl rfl ?_
  unfold rawS
  generalize hR : rwS d most (8 * d.length + 1) ⟨0, [], 0⟩ = R
  (repeat' first|refine kW ?_|refine kU fun bk=>?_|refine kV fun hc=>?_|refine kZ (fun hc=>?_) fun hc=>?_|fail)
  rename_i g q
  obtain ⟨p, hp⟩ : ∃ p, p = bk := ⟨_, rfl⟩
  rw [← hp, hm1]
  clear hp
  have hw1 : ∀ v e (L : List Chunk), wkC p q v most e :: L = [(p, cl [.pointer (some ⟨q, 0, none⟩), v, .int .i64 (most : Int), .int .i64 (e : Int)] 55)] :: L := fun _ _ _ => rfl
  refine WC_loop (X := Nat × S6 × Nat × Value × Chunk) (fun x => [(4, .pointer (some ⟨g, 0, none⟩)), (5, .pointer (some ⟨p, 0, none⟩)), (6, .int .i64 (x.2.2.1 : Int))])
    (fun x => wkC p q x.2.2.2.1 most x.2.1.e :: biC q a d.length c x.2.1.t :: x.2.2.2.2 :: [(g, cl [.slice none 0 0, .int .i64 0, .int .i64 0] 38)] :: L)
    (fun x => x.2.1.t ≤ 8 * d.length ∧ Ow 5 1 x.2.2.2.1 x.2.1.out.length (bsv x.2.1.out) x.2.2.2.2 ∧ (x.2.1.e = 0 → x.2.2.1 = 0 → 8 * d.length < x.1 + x.2.1.t ∧ rwS d most x.1 x.2.1 = R) ∧ ((x.2.1.e ≠ 0 ∨ x.2.2.1 ≠ 0) → x.2.1 = R)) (fun x => x.1)
    (8 * d.length + 1, ⟨0, [], 0⟩, 0, .slice none 0 0, []) ⟨Nat.zero_le _, .inl ⟨rfl, rfl, rfl, rfl⟩, fun _ _ => ⟨by simp, hR⟩, fun h => by simp at h⟩ iS (fun w h => ?_) ?_
  · show Holds w ([(p, cl [.pointer (some ⟨q, 0, none⟩), .slice none 0 0, .int .i64 (most : Int), .int .i64 (0 : Int)] 55)] :: [(q, cl [.slice a d.length c, .int .i64 (0 : Int)] 53)] :: [] :: [(g, cl [.slice none 0 0, .int .i64 0, .int .i64 0] 38)] :: L)
    have h' : Holds w ([(p, cl [.pointer (some ⟨q, 0, none⟩), .slice none 0 0, .int .i64 (most : Int), .int .i64 (0 : Int)] 55)] :: [(q, cl [.slice a d.length c, .int .i64 (0 : Int)] 53)] :: [(g, cl [.slice none 0 0, .int .i64 0, .int .i64 0] 38)] :: L) := h
    simpa only [Holds, List.flatten_cons, List.nil_append] using h'
  clear hR
  rintro ⟨f, s1, la, v1, C1⟩ ⟨hb1, ho1, hf1, hf2⟩
  simp only at hb1 ho1 hf1 hf2 ⊢
  rw [hw1 v1 s1.e]
  (repeat' first|refine kW ?_|refine kU fun bk=>?_|refine kV fun hc=>?_|refine kZ (fun hc=>?_) fun hc=>?_|fail)
  · have h1 : s1.e = 0 := by omega
    obtain ⟨hf3, hsl⟩ := hf1 h1 (by omega)
    clear hf1 hf2
    obtain ⟨f, rfl⟩ : ∃ g, f = g + 1 := ⟨f - 1, by omega⟩
    rw [rwS] at hsl
    have htk := wtake_n p q most 3 v1 a c d s1 (C1 :: [(g, cl [.slice none 0 0, .int .i64 0, .int .i64 0] 38)] :: L) (sl_there (sl_there hv)) (by omega) hb1 (by decide)
    have htv := tv_lt d s1 3
    have hto := tk_out d s1 3
    have htt : (tk d s1 3).e = 0 → (tk d s1 3).t = s1.t + 3 := fun h0 => by
      by_cases hc : s1.t + 3 ≤ 8 * d.length
      · rw [tk_ok hc]
      · rw [Go.If.tk_no hc h1] at h0; cases h0
    generalize tv d s1 3 = z at htk htv hsl
    generalize tk d s1 3 = s2 at htk hto htt hsl
    rw [← hto] at ho1
    refine OW_call rfl rfl rfl (Gv.holds htk (fun w h => h)) rfl (fun r L' hp => ?_)
    obtain ⟨rfl, rfl, hb2⟩ := hp
    rw [hw1 v1 s2.e]
    have hround : ∀ s3, s3 = bkS d most (z / 2) s2 → z ≤ 5 → s2.e = 0 → (s3.e = 0 → z % 2 = 0 → 8 * d.length < f + s3.t ∧ rwS d most f s3 = R) ∧ ((s3.e ≠ 0 ∨ z % 2 ≠ 0) → s3 = R) := by
      intro s3 h3 hz h2
      have hle := bkS_le d most (z / 2) s2
      rw [← h3] at hle hsl
      have hlt := hle.t
      have htt := htt h2
      rw [if_neg (show ¬ s2.e ≠ 0 from fun hh => hh h2), if_neg (show ¬ 5 < z by omega)] at hsl
      refine ⟨fun h0 h1 => ⟨by omega, ?_⟩, fun h0 => ?_⟩
      · rw [if_neg (show ¬ s3.e ≠ 0 from fun hh => hh h0), if_neg (show ¬ z % 2 = 1 by omega)] at hsl
        exact hsl
      · by_cases h4 : s3.e ≠ 0
        · rw [if_pos h4] at hsl; exact hsl
        · rw [if_neg h4, if_pos (by rcases h0 with h | h; exact absurd h h4; omega)] at hsl; exact hsl
    (repeat' first|refine kW ?_|refine kU fun bk=>?_|refine kV fun hc=>?_|refine kZ (fun hc=>?_) fun hc=>?_|fail)
    refine OW_EV (EV_bit rfl rfl (bit_and16 (a := z) (b := 1) (by omega) (by decide))) rfl ?_
    rw [Nat.and_one_is_mod]
    (repeat' first|refine kW ?_|refine kU fun bk=>?_|refine kV fun hc=>?_|refine kZ (fun hc=>?_) fun hc=>?_|fail)
    · have h2 : s2.e ≠ 0 := by omega
      rw [if_pos h2] at hsl
      refine WQ_round (X := Nat × S6 × Nat × Value × Chunk) (μ := fun x => x.1) (x := (f + 1, s1, la, v1, C1)) (f, s2, z % 2, v1, C1) (by simp only; omega) ⟨hb2, ho1, fun hh => absurd hh h2, fun _ => hsl⟩ iS (fun w h => iH h)
    · have h2 : s2.e = 0 := by omega
      have hJ := hround (stS d most s2) (by unfold bkS; rw [if_pos (by omega)]) (by omega) h2
      have hst := wstored_n p q most v1 a c d s2 C1 ([(g, cl [.slice none 0 0, .int .i64 0, .int .i64 0] 38)] :: L) (sl_there hv) hl hb2 hm ho1
      generalize stS d most s2 = s3 at hst hJ
      refine OW_call rfl rfl rfl (Gv.holds hst (fun w h => h)) rfl (fun r L' hp => ?_)
      obtain ⟨v3, C3, rfl, ho3, rfl, hb3⟩ := hp
      (repeat' first|refine kW ?_|refine kU fun bk=>?_|refine kV fun hc=>?_|refine kZ (fun hc=>?_) fun hc=>?_|fail)
      refine WQ_round (X := Nat × S6 × Nat × Value × Chunk) (μ := fun x => x.1) (x := (f + 1, s1, la, v1, C1)) (f, s3, z % 2, v3, C3) (by simp only; omega) ⟨hb3, ho3, hJ.1, hJ.2⟩ iS (fun w h => iH h)
    · have h2 : s2.e = 0 := by omega
      have hJ := hround (cdC d most fxL fxD (8 * d.length + 1) s2) (by unfold bkS; rw [if_neg (by omega), if_pos (by omega)]) (by omega) h2
      have hfx := fixed_n ([(p, cl [.pointer (some ⟨q, 0, none⟩), v1, .int .i64 (most : Int), .int .i64 (s2.e : Int)] 55)] :: biC q a d.length c s2.t :: C1 :: [(g, cl [.slice none 0 0, .int .i64 0, .int .i64 0] 38)] :: L)
      refine OW_call rfl rfl rfl hfx rfl (fun r L' hp => ?_)
      obtain ⟨u, w2, Cf, Df, rfl, rfl, hof, hod⟩ := hp
      obtain ⟨ua, uc, rfl⟩ := ow_slc hof
      obtain ⟨wa, wc, rfl⟩ := ow_slc hod
      (repeat' first|refine kW ?_|refine kU fun bk=>?_|refine kV fun hc=>?_|refine kZ (fun hc=>?_) fun hc=>?_|fail)
      have hco := wcoded_n p q most v1 ua wa uc wc fxL fxD a c d s2 C1 (Df :: Cf :: [(g, cl [.slice none 0 0, .int .i64 0, .int .i64 0] 38)] :: L) (by rw [fxL_length]; exact sl_there (ow_sl hof)) (by decide +kernel) (by rw [fxL_length]; omega) (by rw [fxD_length]; exact ow_sl hod) (by decide +kernel) (sl_there (sl_there (sl_there hv))) hl hb2 hm ho1
      rw [fxL_length, fxD_length] at hco
      generalize cdC d most fxL fxD (8 * d.length + 1) s2 = s3 at hco hJ
      refine OW_call rfl rfl rfl (Gv.holds hco (fun w h => iH h)) rfl (fun r L' hp => ?_)
      obtain ⟨v3, C3, rfl, ho3, rfl, hb3⟩ := hp
      (repeat' first|refine kW ?_|refine kU fun bk=>?_|refine kV fun hc=>?_|refine kZ (fun hc=>?_) fun hc=>?_|fail)
      refine WQ_round (X := Nat × S6 × Nat × Value × Chunk) (μ := fun x => x.1) (x := (f + 1, s1, la, v1, C1)) (f, s3, z % 2, v3, C3) (by simp only; omega) ⟨hb3, ho3, hJ.1, hJ.2⟩ iS (fun w h => iH h)
    · have h2 : s2.e = 0 := by omega
      have hJ := hround (dbS d most s2) (by unfold bkS; rw [if_neg (by omega), if_neg (by omega)]) (by omega) h2
      have hle := wlengths_n p q most v1 a c d s2 (C1 :: [(g, cl [.slice none 0 0, .int .i64 0, .int .i64 0] 38)] :: L) (sl_there (sl_there hv)) hl hb2 h2
      have hdo := dyS_out d s2
      unfold dbS at hJ
      generalize dyS d s2 = Y at hle hJ hdo
      obtain ⟨s4, ly, ny⟩ := Y
      simp only at hle hJ hdo
      refine OW_call rfl rfl rfl (Gv.holds hle (fun w h => h)) rfl (fun r L' hp => ?_)
      obtain ⟨hb4, ⟨h4, x, y, rfl, rfl⟩ | ⟨h4, a1, c1, a2, c2, l, dl, Cl, rfl, rfl, rfl, hS1, hS2, hd1, hd2, hll, rfl⟩⟩ := hp
      · rw [if_pos h4] at hJ
        rw [hw1 v1 s4.e]
        (repeat' first|refine kW ?_|refine kU fun bk=>?_|refine kV fun hc=>?_|refine kZ (fun hc=>?_) fun hc=>?_|fail)
        rw [← hdo] at ho1
        refine WQ_round (X := Nat × S6 × Nat × Value × Chunk) (μ := fun x => x.1) (x := (f + 1, s1, la, v1, C1)) (f, s4, z % 2, v1, C1) (by simp only; omega) ⟨hb4, ho1, hJ.1, hJ.2⟩ iS (fun w h => iH h)
      · rw [if_neg (show ¬ s4.e ≠ 0 by omega)] at hJ
        rw [hw1 v1 s4.e]
        (repeat' first|refine kW ?_|refine kU fun bk=>?_|refine kV fun hc=>?_|refine kZ (fun hc=>?_) fun hc=>?_|fail)
        rw [← hdo] at ho1
        have hco := wcoded_n p q most v1 a1 a2 c1 c2 (ly.take ny) (ly.drop ny) a c d s4 C1 (Cl :: [(g, cl [.slice none 0 0, .int .i64 0, .int .i64 0] 38)] :: L) (hS1.all _) hd1 hll (hS2.all _) hd2 (sl_there (sl_there hv)) hl hb4 hm ho1
        generalize cdC d most (ly.take ny) (ly.drop ny) (8 * d.length + 1) s4 = s3 at hco hJ
        refine OW_call rfl rfl rfl (Gv.holds hco (fun w h => iH h)) rfl (fun r L' hp => ?_)
        obtain ⟨v3, C3, rfl, ho3, rfl, hb3⟩ := hp
        (repeat' first|refine kW ?_|refine kU fun bk=>?_|refine kV fun hc=>?_|refine kZ (fun hc=>?_) fun hc=>?_|fail)
        refine WQ_round (X := Nat × S6 × Nat × Value × Chunk) (μ := fun x => x.1) (x := (f + 1, s1, la, v1, C1)) (f, s3, z % 2, v3, C3) (by simp only; omega) ⟨hb3, ho3, hJ.1, hJ.2⟩ iS (fun w h => iH h)
    · have h2 : s2.e = 0 := by omega
      rw [if_neg (show ¬ s2.e ≠ 0 by omega), if_pos (show 5 < z by omega)] at hsl
      have hf := wfail_n p q most 3 s2.e v1 (biC q a d.length c s2.t :: C1 :: [(g, cl [.slice none 0 0, .int .i64 0, .int .i64 0] 38)] :: L)
      rw [if_pos h2] at hf
      refine OW_call rfl rfl rfl hf rfl (fun r L' hp => ?_)
      obtain ⟨rfl, rfl⟩ := hp
      (repeat' first|refine kW ?_|refine kU fun bk=>?_|refine kV fun hc=>?_|refine kZ (fun hc=>?_) fun hc=>?_|fail)
      refine WQ_round (X := Nat × S6 × Nat × Value × Chunk) (μ := fun x => x.1) (x := (f + 1, s1, la, v1, C1)) (f, fl s2 3, z % 2, v1, C1) (by simp only; omega) ⟨by simp only [fl_t]; exact hb2, by simp only [fl_out]; exact ho1, fun hh => absurd hh (by show ¬ (fl s2 3).e = 0; rw [fl3 h2]; decide), fun _ => hsl⟩ iS (fun w h => ?_)
      simp only [fl_t, fl3 h2]
      exact iH h
  · have h1 : s1.e ≠ 0 := by omega
    obtain rfl : s1 = R := hf2 (.inl h1)
    first
      | (refine WQ_retC (vs := [.agg #[.slice none 0 0, .int .i64 0, .int .i64 (s1.e : Int)]]) rfl (.agg ⟨by kernel_rfl, by kernel_rfl⟩ rfl (RdAt.cl' (vs := [.slice none 0 0, .int .i64 0, .int .i64 (s1.e : Int)]) (by repeat (first | assumption | exact Fnd.here | refine Fnd.there ?_)) rfl) rfl .nil) ?_
         exact ⟨L, fun w h => iH h, .inl ⟨h1, rfl, rfl⟩⟩)
      | (refine WQ_endC (vs := [.agg #[.slice none 0 0, .int .i64 0, .int .i64 (s1.e : Int)]]) rfl (.agg ⟨by kernel_rfl, by kernel_rfl⟩ rfl (RdAt.cl' (vs := [.slice none 0 0, .int .i64 0, .int .i64 (s1.e : Int)]) (by repeat (first | assumption | exact Fnd.here | refine Fnd.there ?_)) rfl) rfl .nil) ?_
         exact ⟨L, fun w h => iH h, .inl ⟨h1, rfl, rfl⟩⟩)
  · have h1 : s1.e ≠ 0 := by omega
    obtain rfl : s1 = R := hf2 (.inl h1)
    first
      | (refine WQ_retC (vs := [.agg #[.slice none 0 0, .int .i64 0, .int .i64 (s1.e : Int)]]) rfl (.agg ⟨by kernel_rfl, by kernel_rfl⟩ rfl (RdAt.cl' (vs := [.slice none 0 0, .int .i64 0, .int .i64 (s1.e : Int)]) (by repeat (first | assumption | exact Fnd.here | refine Fnd.there ?_)) rfl) rfl .nil) ?_
         exact ⟨L, fun w h => iH h, .inl ⟨h1, rfl, rfl⟩⟩)
      | (refine WQ_endC (vs := [.agg #[.slice none 0 0, .int .i64 0, .int .i64 (s1.e : Int)]]) rfl (.agg ⟨by kernel_rfl, by kernel_rfl⟩ rfl (RdAt.cl' (vs := [.slice none 0 0, .int .i64 0, .int .i64 (s1.e : Int)]) (by repeat (first | assumption | exact Fnd.here | refine Fnd.there ?_)) rfl) rfl .nil) ?_
         exact ⟨L, fun w h => iH h, .inl ⟨h1, rfl, rfl⟩⟩)
  · have h1 : s1.e = 0 := by omega
    obtain rfl : s1 = R := hf2 (.inr (by omega))
    have hus := bused_n q s1.t (.slice a d.length c) 53 ([(p, cl [.pointer (some ⟨q, 0, none⟩), v1, .int .i64 (most : Int), .int .i64 (s1.e : Int)] 55)] :: biC q a d.length c s1.t :: C1 :: [(g, cl [.slice none 0 0, .int .i64 0, .int .i64 0] 38)] :: L) (by exact Fnd.there Fnd.here) (by omega)
    generalize hn : (s1.t + 7) / 8 = n at hus ⊢
    obtain ⟨va, vc, rfl⟩ := ow_slc ho1
    refine WC_draw [[(p, cl [.pointer (some ⟨q, 0, none⟩), .slice va s1.out.length vc, .int .i64 (most : Int), .int .i64 (s1.e : Int)] 55)]] [10] mixed ?_
    (refine WR_t 0 ?_; refine WR_t 1 ?_; refine WR_t 2 ?_; refine WR_t 3 ?_; refine WR_t 4 ?_; refine WR_t 5 ?_; refine WR_t 6 ?_; refine WR_t 7 ?_)
    (refine WR_one 8 (by kernel_rfl) rfl rfl ?_)
    refine OW_callP rfl rfl rfl hus rfl ?_
    refine ⟨iC, ?_⟩
    (refine WR_t 9 ?_)
    (refine WR_last 10 (by kernel_rfl) rfl rfl rfl ?_)
    refine OW_storeAggTo (l := [.slice none 0 0, .int .i64 0, .int .i64 0]) (vs := [.slice va s1.out.length vc, .int .i64 (n : Int), .int .i64 0]) [.slice va s1.out.length vc, .int .i64 (n : Int), .int .i64 0] rfl rfl (by rfl) (by rfl) (by rfl) iU (by simp) ?_
    (refine WR_done (by kernel_rfl) ?_)
    (repeat' first|refine kW ?_|refine kU fun bk=>?_|refine kV fun hc=>?_|refine kZ (fun hc=>?_) fun hc=>?_|fail)
    first
      | (refine WQ_retC (vs := [.agg #[.slice va s1.out.length vc, .int .i64 (n : Int), .int .i64 0]]) rfl (.agg ⟨by kernel_rfl, by kernel_rfl⟩ rfl (RdAt.cl' (vs := [.slice va s1.out.length vc, .int .i64 (n : Int), .int .i64 0]) (by repeat (first | assumption | exact Fnd.here | refine Fnd.there ?_)) rfl) rfl .nil) ?_
         exact ⟨C1 :: L, fun w h => iH h, .inr ⟨h1, _, C1, rfl, ho1, hb1, rfl⟩⟩)
      | (refine WQ_endC (vs := [.agg #[.slice va s1.out.length vc, .int .i64 (n : Int), .int .i64 0]]) rfl (.agg ⟨by kernel_rfl, by kernel_rfl⟩ rfl (RdAt.cl' (vs := [.slice va s1.out.length vc, .int .i64 (n : Int), .int .i64 0]) (by repeat (first | assumption | exact Fnd.here | refine Fnd.there ?_)) rfl) rfl .nil) ?_
         exact ⟨C1 :: L, fun w h => iH h, .inr ⟨h1, _, C1, rfl, ho1, hb1, rfl⟩⟩)
end Go.Proofs.YtdcehmhelfohfaaDoor
namespace Go.Proofs.YtdcehmhelfohfaaDoor
open Go Go.Vx Go.ChangeShapes Go.WideShapes Go.ChangeAt Go.RowKit
set_option maxRecDepth 4000
set_option linter.all false
def blks (W : World) : Chunk := W.heap.toList.zipIdx.map fun x => (x.2, x.1)
theorem blks_mem {W : World} {b : Nat} {o : Obj} : (b, o) ∈ blks W ↔ W.heap[b]? = some o := by
  unfold blks
  rw [List.mem_map]
  constructor
  · rintro ⟨⟨x, i⟩, hm, he⟩
    simp at he
    obtain ⟨rfl, rfl⟩ := he
    have := List.mk_mem_zipIdx_iff_getElem?.1 hm
    simpa using this
  · intro h
    exact ⟨(o, b), List.mk_mem_zipIdx_iff_getElem?.2 (by simpa using h), rfl⟩
theorem blks_keys (W : World) : ((blks W).map Prod.fst).Nodup := by
  have : (blks W).map Prod.fst = List.range' 0 W.heap.toList.length := by
    unfold blks
    rw [List.map_map]
    exact List.zipIdx_map_snd 0 _
  rw [this]
  exact List.nodup_range'
structure Kept (W W' : World) : Prop where
  os : W'.os = W.os
  output : W'.output = W.output
  block : ∀ k, k < W.heap.size → W'.heap[k]? = W.heap[k]?
theorem bridge {P : Program} {f : FuncId} {args : Array Value} {W : World} {v : Value} (h : ∀ [W0], GvP P f args [blks W] v) : Calls P f args W fun e W' => e = .returned v ∧ Kept W W' := by
  letI i : W0 := ⟨W.os, W.output⟩
  have h0 : GvP P f args [blks W] v := h
  have hH : Holds W [blks W] := ⟨by simpa using blks_keys W, fun x hx => blks_mem.1 (by simpa using hx), rfl, rfl⟩
  refine (h0.out W hH).mono fun e W' he => ?_
  obtain ⟨v', L', rfl, ⟨rfl, rfl⟩, hw⟩ := he
  refine ⟨rfl, hw.2.2.1, hw.2.2.2, fun k hk => ?_⟩
  have hm : W.heap[k]? = some W.heap[k] := by simp [hk]
  rw [hm]
  exact hw.2.1 (k, W.heap[k]) (by simpa using blks_mem.2 hm)
theorem Kept.frame {W W' : World} (h : Kept W W') (may : MemPlace → Prop) : W.keptBut W' may := by
  refine ⟨h.os, h.output, fun i hi => ?_⟩
  rw [h.block i hi]
  split <;> simp_all
theorem Kept.same {W W' : World} (h : Kept W W') {p : MemPlace} (hp : p.block < W.heap.size) : W.sameAt W' p := by
  cases p with
  | cell b o => exact World.cell?_of_block (w := W) (h.block b hp)
  | map b => exact h.block b hp
theorem Kept.trod {H : Type} {enc : TypeId × Value → H} {P : Program} {t : TypeId} (hl : laidOutB P = true) (hr : P.readableRec t = true) (hrow : t < P.types.size) {W W' : World} {v : Value} {d : DataW H} {ps : List MemPlace}
    (h : DataW.Trod enc P W 0 (fun _ => true) true t v d ps) (hb : Kept W W') (hlt : ∀ x ∈ ps, x.block < W.heap.size) :
    DataW.Trod enc P W' 0 (fun b => decide (b < W.heap.size)) true t v d ps :=
  WideElems.Trod_stays hl hr hrow h (fun x hx => hb.same (hlt x hx)) (fun x hx => by simpa using hlt x hx)
theorem bulk_lits {H : Type} (k : IntKind) : ∀ xs : List Int, Rows.uptoBulkAll (H := H) (lits k xs) = xs.length
  | [] => rfl
  | x :: r => by
    have := bulk_lits (H := H) k r
    simp only [lits, List.map_cons, Rows.uptoBulkAll, Rows.uptoBulk, List.length_cons] at *
    omega
theorem open_row {H : Type} {enc : TypeId × Value → H} {P : Program} {W : World} {t e : TypeId} {k : IntKind} {a : Option Addr} {len cap : Nat} {d : DataW H} {ps : List MemPlace} (ht : P.underlying t = some (.slice e)) (he : P.underlying e = some (.int k)) (hc : P.cellsOf e = 1)
    (h : DataW.Trod enc P W 0 (fun _ => true) true t (.slice a len cap) d ps) :
    ∃ xs : List Int, xs.length = len ∧ (∀ n ∈ xs, (Lit.int k n).wf = true) ∧ Sl [blks W] 1 (.slice a len cap) len (xs.map (Value.int k)) ∧ len ≤ Rows.uptoBulk d := by
  letI : W0 := ⟨W.os, W.output⟩
  obtain ⟨fuel, hf⟩ := h
  rcases open_ints ht he hc hf with ⟨hcs, _⟩ | ⟨x, l, c, zs, hcs, _, hl, hm, hz, hx, hcell, hwz⟩
  · simp [Value.cells] at hcs
    obtain ⟨rfl, rfl, rfl⟩ := hcs
    exact ⟨[], rfl, fun n h => by simp at h, .inl ⟨0, rfl, rfl, rfl⟩, Nat.zero_le _⟩
  · simp [Value.cells] at hcs
    obtain ⟨rfl, rfl, rfl⟩ := hcs
    have hzl : zs.length = cap := by simpa using hz
    have hd : d = .slice (lits k (zs.take len)) (lits k (zs.drop len)) := by injection hx
    refine ⟨zs.take len, by simp; omega, fun n hn => hwz n (List.mem_of_mem_take hn), ?_, ?_⟩
    · refine .inr ⟨x, cap, rfl, ?_, by simp; omega⟩
      rcases Nat.eq_zero_or_pos len with h0 | h0
      · subst h0; exact .inl (by simp)
      · have hc0 := hcell 0 (by omega)
        obtain ⟨b, off, spot⟩ := x
        have hspot : spot = none := by simpa [Addr.add] using World.cell?_spot hc0
        subst hspot
        have hblk : ∃ C T fr, W.heap[b]? = some (.cells C T fr) := by
          have : (⟨b, off, none⟩ : Addr).add 0 = ⟨b, off, none⟩ := by simp [Addr.add]
          rw [this] at hc0
          unfold World.cell? at hc0
          split at hc0
          · rename_i C T fr hb; exact ⟨C, T, fr, hb⟩
          · cases hc0
        obtain ⟨C, T, fr, hb⟩ := hblk
        refine .inr ⟨b, off, C, T, fr, rfl, by simpa [Fnd] using blks_mem.2 hb, fun j u hj => ?_⟩
        have hjl : j < len := by
          rcases Nat.lt_or_ge j len with h' | h'
          · exact h'
          · rw [List.getElem?_eq_none (by simp; omega)] at hj; simp at hj
        have hcj := hcell j (by omega)
        rw [addr_add, cell_of hb] at hcj
        rw [hcj, ← hj]
        simp [List.getElem?_take, hjl, List.getD, List.getElem?_eq_getElem (show j < zs.length by omega)]
    · rw [hd]
      simp only [Rows.uptoBulk, bulk_lits, List.length_take]
      omega
theorem bytes_of (xs : List Int) (h : ∀ n ∈ xs, (Lit.int .u8 n).wf = true) : bsv (xs.map fun n => UInt8.ofNat n.toNat) = xs.map (Value.int .u8) := by
  unfold bsv
  rw [List.map_map]
  refine List.map_congr_left fun n hn => ?_
  have := h n hn
  simp [Lit.wf, IntKind.min, IntKind.max, IntKind.signed, IntKind.bits] at this
  have h2 : n.toNat < 256 := by omega
  simp [UInt8.toNat_ofNat, Nat.mod_eq_of_lt h2]
  omega
theorem Tryd.own : ownKnob Tryd.prog.godebug = none := by kernel_rfl
theorem Tryd.laidOut : laidOutB Tryd.prog = true := by kernel_rfl
end Go.Proofs.YtdcehmhelfohfaaDoor
namespace Go.Proofs.YtdcehmhelfohfaaDoor
open Go Go.Vx
variable [W0]
set_option maxRecDepth 4000
set_option linter.all false
omit [W0] in
/-- A word turned to the left. -/
def rol (w : BitVec 32) (s : Nat) : BitVec 32 := w <<< s ||| w >>> (32 - s)
omit [W0] in
def stChoice (b c d : BitVec 32) : BitVec 32 := (b &&& c ||| ~~~ b &&& d) + 1518500249#32
omit [W0] in
def stParity (b c d : BitVec 32) : BitVec 32 := (b ^^^ c ^^^ d) + 1859775393#32
omit [W0] in
def stMajority (b c d : BitVec 32) : BitVec 32 := (b &&& c ||| b &&& d ||| c &&& d) + 2400959708#32
omit [W0] in
def stLast (b c d : BitVec 32) : BitVec 32 := (b ^^^ c ^^^ d) + 3395469782#32
abbrev w32 (w : BitVec 32) : Value := .int .u32 (w.toNat : Int)
end Go.Proofs.YtdcehmhelfohfaaDoor
namespace Go.Proofs.YtdcehmhelfohfaaDoor
open Go Go.Vx
variable [W0]
set_option maxRecDepth 4000
set_option linter.all false
omit [W0] in
/-- Word i of a block. -/
def wordAt (blk : List UInt8) (i : Nat) : BitVec 32 :=
  b2w (blk.getD (4 * i) 0) <<< 24 ||| b2w (blk.getD (4 * i + 1) 0) <<< 16 ||| b2w (blk.getD (4 * i + 2) 0) <<< 8 ||| b2w (blk.getD (4 * i + 3) 0)
omit [W0] in
def schedNext (blk : List UInt8) (l : List (BitVec 32)) : BitVec 32 :=
  if l.length < 16 then wordAt blk l.length
  else rol (l.getD (l.length - 3) 0 ^^^ l.getD (l.length - 8) 0 ^^^ l.getD (l.length - 14) 0 ^^^ l.getD (l.length - 16) 0) 1
omit [W0] in
/-- The first t words of a block's schedule. -/
def sched (blk : List UInt8) : Nat → List (BitVec 32)
  | 0 => []
  | t + 1 => sched blk t ++ [schedNext blk (sched blk t)]
omit [W0] in
/-- The chain. -/
structure H5 where
  a : BitVec 32
  b : BitVec 32
  c : BitVec 32
  d : BitVec 32
  e : BitVec 32
end Go.Proofs.YtdcehmhelfohfaaDoor
namespace Go.Proofs.YtdcehmhelfohfaaDoor
open Go Go.Vx
variable [W0]
set_option maxRecDepth 4000
set_option linter.all false
omit [W0] in
def kindF : Nat → BitVec 32 → BitVec 32 → BitVec 32 → BitVec 32
  | 0 => stChoice
  | 1 => stParity
  | 2 => stMajority
  | _ => stLast
omit [W0] in
/-- One step. -/
def rnd (k : Nat) (h : H5) (w : BitVec 32) : H5 := ⟨rol h.a 5 + kindF k h.b h.c h.d + h.e + w, h.a, rol h.b 30, h.c, h.d⟩
omit [W0] in
/-- The first t steps. -/
def rounds (ws : List (BitVec 32)) (h : H5) : Nat → H5
  | 0 => h
  | t + 1 => rnd (t / 20) (rounds ws h t) (ws.getD t 0)
omit [W0] in
def add5 (h r : H5) : H5 := ⟨h.a + r.a, h.b + r.b, h.c + r.c, h.d + r.d, h.e + r.e⟩
omit [W0] in
/-- A block taken into the chain. -/
def mixN (h : H5) (blk : List UInt8) : H5 := add5 h (rounds (sched blk 80) h 80)
end Go.Proofs.YtdcehmhelfohfaaDoor
namespace Go.Proofs.YtdcehmhelfohfaaDoor
open Go Go.Vx
variable [W0]
set_option maxRecDepth 4000
set_option linter.all false
omit [W0] in
def h50 : H5 := ⟨1732584193#32, 4023233417#32, 2562383102#32, 271733878#32, 3285377520#32⟩
omit [W0] in
/-- The chain behind the first k blocks of a text. -/
def chainN (t : List UInt8) : Nat → H5
  | 0 => h50
  | k + 1 => mixN (chainN t k) ((t.drop (64 * k)).take 64)
theorem chainN_app (t u : List UInt8) : ∀ k, 64 * k ≤ t.length → chainN (t ++ u) k = chainN t k
  | 0, _ => rfl
  | k + 1, h => by
    have e : ((t ++ u).drop (64 * k)).take 64 = (t.drop (64 * k)).take 64 := by
      rw [List.drop_append_of_le_length (by omega), List.take_append_of_le_length (by simp; omega)]
    simp only [chainN, chainN_app t u k (by omega), e]
omit [W0] in
/-- What a digest in progress is of a text. -/
structure ShaI (t : List UInt8) (h : H5) (blk : List UInt8) : Prop where
  len : blk.length = 64
  chain : h = chainN t (t.length / 64)
  rest : blk.take (t.length % 64) = t.drop (64 * (t.length / 64))
omit [W0] in
def fillB (blk : List UInt8) (r : Nat) (u : List UInt8) : List UInt8 := blk.take r ++ (u ++ blk.drop (r + u.length))
theorem fillB_length {blk u : List UInt8} {r : Nat} (hb : blk.length = 64) (h : r + u.length ≤ 64) : (fillB blk r u).length = 64 := by
  simp [fillB]; omega
theorem fillB_take {blk u : List UInt8} {r : Nat} (hb : blk.length = 64) (h : r + u.length ≤ 64) : (fillB blk r u).take (r + u.length) = blk.take r ++ u := by
  unfold fillB
  have e : (blk.take r ++ u).length = r + u.length := by simp; omega
  rw [← List.append_assoc, ← e, List.take_left]
theorem ShaI.part {t u : List UInt8} {h : H5} {blk : List UInt8} (hi : ShaI t h blk) (hu : t.length % 64 + u.length < 64) : ShaI (t ++ u) h (fillB blk (t.length % 64) u) := by
  have e1 : (t ++ u).length / 64 = t.length / 64 := by simp; omega
  have e2 : (t ++ u).length % 64 = t.length % 64 + u.length := by simp; omega
  refine ⟨fillB_length hi.len (by omega), ?_, ?_⟩
  · rw [e1, chainN_app _ _ _ (by omega)]; exact hi.chain
  · rw [e1, e2, fillB_take hi.len (by omega), hi.rest, List.drop_append_of_le_length (by omega)]
theorem ShaI.new : ShaI [] h50 (List.replicate 64 0) := ⟨by simp, rfl, rfl⟩
omit [W0] in
/-- A slice that can be read, and its room. -/
structure SlC (L : List Chunk) (k : Nat) (v : Value) (m : Nat) (xs : List Value) : Prop where
  sl : Sl L k v m xs
  room : ∃ a c, v = .slice a m c ∧ m ≤ c
theorem SlC.there {L : List Chunk} {C : Chunk} {k m : Nat} {v : Value} {xs : List Value} (h : SlC L k v m xs) : SlC (C :: L) k v m xs := ⟨sl_there h.sl, h.room⟩
theorem SlC.ow {e k m : Nat} {v : Value} {xs : List Value} {C : Chunk} {L : List Chunk} (h : Ow e k v m xs C) : SlC (C :: L) k v m xs := by
  refine ⟨ow_sl h, ?_⟩
  rcases h with ⟨rfl, rfl, _⟩ | ⟨b, cap, rest, rfl, _, _, _, hmc, _⟩
  · exact ⟨_, _, rfl, Nat.le_refl _⟩
  · exact ⟨_, _, rfl, hmc⟩
theorem SlC.cut {L : List Chunk} {bb off m cap q : Nat} {l : List UInt8} {c : Array Value} {T : TypeId} {fr : Nat × Nat} (hf : Fnd L bb (.cells c T fr)) (hc : ∀ j u, (bsv l)[j]? = some u → c[off + j]? = some u) (hm : l.length = m) (hq : q ≤ m) (hmc : m ≤ cap) :
    SlC L 1 (.slice (some ⟨bb, if cap = q then off else off + q * 1, none⟩) (m - q) (cap - q)) (m - q) (bsv (l.drop q)) := by
  refine ⟨.inr ⟨_, _, rfl, ?_, by simp [bsv_length, hm]⟩, _, _, rfl, by omega⟩
  by_cases h0 : m = q
  · refine .inl ?_
    rw [List.drop_of_length_le (by omega)]; rfl
  · refine .inr ⟨bb, _, c, T, fr, rfl, hf, fun j u hj => ?_⟩
    rw [if_neg (by omega), Nat.mul_one, Nat.add_assoc]
    refine hc _ _ ?_
    rw [← hj]
    simp [bsv]
end Go.Proofs.YtdcehmhelfohfaaDoor
namespace Go.Proofs.YtdcehmhelfohfaaDoor
open Go Go.Vx
variable [W0]
set_option maxRecDepth 4000
set_option linter.all false
theorem sl_byte {L : List Chunk} {v : Value} {m k : Nat} {t : List UInt8} (h : Sl L 1 v m (bsv t)) (hk : k < m) :
    ∃ bb off cap c T fr, v = .slice (some ⟨bb, off, none⟩) m cap ∧ Fnd L bb (.cells c T fr) ∧ c[off + k * 1]? = some (.int .u8 ((t.getD k 0).toNat : Int)) := by
  rcases h with ⟨c, rfl, rfl, h0⟩ | ⟨a, cap, rfl, hr, hl⟩
  · omega
  · have hlt : k < t.length := by rw [bsv_length] at hl; omega
    have hg : (bsv t)[k]? = some (.int .u8 ((t.getD k 0).toNat : Int)) := bsv_get (by simp [List.getD, hlt])
    rcases hr with h0 | ⟨b, off, c, T, fr, rfl, h1, h2⟩
    · rw [h0] at hg; simp at hg
    · exact ⟨b, off, cap, c, T, fr, rfl, h1, by rw [Nat.mul_one]; exact h2 _ _ hg⟩
theorem take_succ {α : Type} {t : List α} {k : Nat} (d : α) (h : k < t.length) : t.take (k + 1) = t.take k ++ [t.getD k d] := by
  rw [List.take_add_one, List.getElem?_eq_getElem h]
  simp [List.getD, h]
omit [W0] in
def adlA (a : BitVec 32) (x : UInt8) : BitVec 32 := (a + b2w x) % 65521#32
omit [W0] in
def adlN (s : BitVec 32 × BitVec 32) (t : List UInt8) : BitVec 32 × BitVec 32 := t.foldl (fun s x => (adlA s.1 x, (s.2 + adlA s.1 x) % 65521#32)) s
theorem adlN_snoc (s : BitVec 32 × BitVec 32) (t : List UInt8) (x : UInt8) : adlN s (t ++ [x]) = (adlA (adlN s t).1 x, ((adlN s t).2 + adlA (adlN s t).1 x) % 65521#32) := by simp [adlN]
omit [W0] in
def adlV (s : BitVec 32 × BitVec 32) : BitVec 32 := s.2 <<< 16 ||| s.1
theorem newAdler_n (L : List Chunk) : Gv Tryd.prog 42 [].toArray L (fun r L' => ∃ p, r = .pointer (some ⟨p, 0, none⟩) ∧ L' = [(p, cl [w32 1#32, w32 0#32] 90)] :: L) := by
  refine Gv.of_body Tryd.func42 rfl rfl ?_
  (repeat' first|refine kX ?_|refine kU fun bk=>?_|refine kV fun hc=>?_|refine kZ (fun hc=>?_) fun hc=>?_|fail)
  first | refine WQ_retH rfl rfl ?_ | refine WQ_endH rfl rfl ?_
  exact ⟨[(bk, cl [w32 1#32, w32 0#32] 90)] :: L, fun w h => h, bk, rfl, rfl⟩
theorem adlerwrite_n (s : BitVec 32 × BitVec 32) (t : List UInt8) (v : Value) (p : Nat) (L : List Chunk) (hlen : t.length < 576460752303423488) (hv : SlC L 1 v t.length (bsv t)) :
    Gv Tryd.prog 43 [.pointer (some ⟨p, 0, none⟩), v].toArray ([(p, cl [w32 s.1, w32 s.2] 90)] :: L)
      (fun z L' => z = .tuple #[] ∧ L' = [(p, cl [w32 (adlN s t).1, w32 (adlN s t).2] 90)] :: L) := by
  refine Gv.of_body Tryd.func43 rfl rfl ?_
  obtain ⟨a, c, rfl, hmc⟩ := hv.room
  (repeat' first|refine kX ?_|refine kU fun bk=>?_|refine kV fun hc=>?_|refine kZ (fun hc=>?_) fun hc=>?_|fail)
  refine WC_drawAll [] mixed ?_
  (refine WR_w 0 ?_; refine WR_w 1 ?_; refine WR_w 2 ?_; refine WR_w 3 ?_; refine WR_w 4 ?_; refine WR_w 5 ?_; refine WR_w 6 ?_; refine WR_w 7 ?_; refine WR_w 8 ?_; refine WR_w 9 ?_)
  (refine WR_done (by kernel_rfl) ?_)
  (repeat' first|refine kX ?_|refine kU fun bk=>?_|refine kV fun hc=>?_|refine kZ (fun hc=>?_) fun hc=>?_|fail)
  refine WC_loop (X := Nat) (fun k => [(0, .pointer (some ⟨p, 0, none⟩)), (4, w32 (adlN s (t.take k)).1), (5, w32 (adlN s (t.take k)).2), (16, .slice a t.length c), (17, .int .i64 (t.length : Int)), (18, .int .i64 (k : Int))])
    (fun k => [(p, cl [w32 s.1, w32 s.2] 90)] :: L) (fun k => k ≤ t.length) (fun k => t.length - k) 0 (Nat.zero_le _) (by repeat (first | exact Sub.nil | refine Sub.cons rfl ?_ | refine Sub.cons (lk_int rfl (by first | omega | (dsimp only; omega))) ?_)) (fun w h => h) ?_
  intro k hk
  replace hk : k ≤ t.length := hk
  (repeat' first|refine kX ?_|refine kU fun bk=>?_|refine kV fun hc=>?_|refine kZ (fun hc=>?_) fun hc=>?_|fail)
  · have hlt : k < t.length := by omega
    obtain ⟨bb, off, cap, cc, bT, bfr, hve, hfn, hcell⟩ := sl_byte hv.sl hlt
    injection hve with e1 e2 e3
    subst e1 e3
    clear e2
    (repeat' first|refine kX ?_|refine kU fun bk=>?_|refine kV fun hc=>?_|refine kZ (fun hc=>?_) fun hc=>?_|fail)
    refine OW_W ?_ (he := EV_load rfl hfn.there hcell)
    (repeat' first|refine kX ?_|refine kU fun bk=>?_|refine kV fun hc=>?_|refine kZ (fun hc=>?_) fun hc=>?_|fail)
    refine WQ_round (X := Nat) (J := fun k => k ≤ t.length) (μ := fun k => t.length - k) (x := k) (k + 1) (by omega) (show k + 1 ≤ t.length by omega) ?_ (fun w h => h)
    rw [take_succ 0 hlt, adlN_snoc]
    exact (by repeat (first | exact Sub.nil | refine Sub.cons rfl ?_ | refine Sub.cons (lk_int rfl (by first | omega | (dsimp only; omega))) ?_))
  · have hk : k = t.length := by omega
    subst hk
    rw [List.take_length]
    (first | refine WQ_retI rfl rfl ?_ | refine WQ_endI rfl rfl ?_)
    exact ⟨_, iC, rfl, rfl⟩
theorem adlervalue_n (s : BitVec 32 × BitVec 32) (p : Nat) (L : List Chunk) (hf : Fnd L p (cl [w32 s.1, w32 s.2] 90)) : GvP Tryd.prog 44 [.pointer (some ⟨p, 0, none⟩)].toArray L (w32 (adlV s)) := by
  refine Gv.of_body Tryd.func44 rfl rfl ?_
  (repeat' first|refine kX ?_|refine kU fun bk=>?_|refine kV fun hc=>?_|refine kZ (fun hc=>?_) fun hc=>?_|fail)
  refine WC_drawAll [] mixed ?_
  (refine WR_w 0 ?_; refine WR_w 1 ?_; refine WR_w 2 ?_; refine WR_w 3 ?_; refine WR_w 4 ?_; refine WR_w 5 ?_; refine WR_w 6 ?_; refine WR_w 7 ?_; refine WR_w 8 ?_; refine WR_w 9 ?_; refine WR_w 10 ?_)
  (refine WR_done (by kernel_rfl) ?_)
  (repeat' first|refine kX ?_|refine kU fun bk=>?_|refine kV fun hc=>?_|refine kZ (fun hc=>?_) fun hc=>?_|fail)
  ((first | refine WQ_retI rfl rfl ?_ | refine WQ_endI rfl rfl ?_); exact ⟨_, iC, rfl, rfl⟩)
theorem adler_n (t : List UInt8) (v : Value) (L : List Chunk) (hlen : t.length < 576460752303423488) (hv : SlC L 1 v t.length (bsv t)) :
    GvP Tryd.prog 29 [v].toArray L (w32 (adlV (adlN (1#32, 0#32) t))) := by
  refine Gv.of_body Tryd.func29 rfl rfl ?_
  (repeat' first|refine kX ?_|refine kU fun bk=>?_|refine kV fun hc=>?_|refine kZ (fun hc=>?_) fun hc=>?_|fail)
  refine OW_call rfl rfl rfl (newAdler_n L) rfl (fun r L' hp => ?_)
  obtain ⟨p, rfl, rfl⟩ := hp
  (repeat' first|refine kX ?_|refine kU fun bk=>?_|refine kV fun hc=>?_|refine kZ (fun hc=>?_) fun hc=>?_|fail)
  refine OW_call rfl rfl rfl (adlerwrite_n (1#32, 0#32) t v p L hlen hv) rfl (fun r L' hp => ?_)
  obtain ⟨rfl, rfl⟩ := hp
  (repeat' first|refine kX ?_|refine kU fun bk=>?_|refine kV fun hc=>?_|refine kZ (fun hc=>?_) fun hc=>?_|fail)
  refine OW_callP rfl rfl rfl (adlervalue_n (adlN (1#32, 0#32) t) p _ Fnd.here) rfl ?_
  (repeat' first|refine kX ?_|refine kU fun bk=>?_|refine kV fun hc=>?_|refine kZ (fun hc=>?_) fun hc=>?_|fail)
  ((first | refine WQ_retI rfl rfl ?_ | refine WQ_endI rfl rfl ?_); exact ⟨_, iC, rfl, rfl⟩)
end Go.Proofs.YtdcehmhelfohfaaDoor
namespace Go.Vx
open Go
set_option linter.all false
variable [W0]
omit [W0] in
/-- No cell of the row is marked. -/
def FrOk (fr : Nat × Nat) (n : Nat) : Prop := ∀ j, j < n → ¬ (fr.1 ≤ j ∧ j < fr.2)
theorem FrOk.zero (n : Nat) : FrOk (0, 0) n := fun j _ h => by simp at h
theorem FrOk.behind (n : Nat) : FrOk (n, n + 1) n := fun j hj h => by simp at h; omega
end Go.Vx
namespace Go.Proofs.YtdcehmhelfohfaaDoor
open Go Go.Vx
variable [W0]
set_option maxRecDepth 4000
set_option linter.all false
omit [W0] in
/-- A text as the model has it. -/
def str (t : List UInt8) : ByteArray := ⟨t.toArray⟩
theorem str_size (t : List UInt8) : (str t).size = t.length := rfl
theorem str_get {t : List UInt8} {k : Nat} (h : k < t.length) : (str t)[k]? = some (t.getD k 0) := by
  show (str t).data[k]? = _
  simp [str, List.getD, h]
theorem refadler_n (t : List UInt8) (L : List Chunk) (hlen : t.length < 576460752303423488) :
    GvP Tryd.prog 31 [.string (str t)].toArray L (w32 (adlV (adlN (1#32, 0#32) t))) := by
  refine Gv.of_body Tryd.func31 rfl rfl ?_
  (repeat' first|refine kX ?_|refine kU fun bk=>?_|refine kV fun hc=>?_|refine kZ (fun hc=>?_) fun hc=>?_|fail)
  refine WC_loop (X := Nat) (fun k => [(0, .string (str t)), (3, w32 (adlN (1#32, 0#32) (t.take k)).1), (4, w32 (adlN (1#32, 0#32) (t.take k)).2), (5, .int .i64 (k : Int))])
    (fun k => L) (fun k => k ≤ t.length) (fun k => t.length - k) 0 (Nat.zero_le _) iS (fun w h => h) ?_
  intro k hk
  replace hk : k ≤ t.length := hk
  (repeat' first|refine kX ?_|refine kU fun bk=>?_|refine kV fun hc=>?_|refine kZ (fun hc=>?_) fun hc=>?_|fail)
  · rw [str_size] at hc
    have hlt : k < t.length := by omega
    refine OW_EV (EV_indexStr (s := str t) rfl rfl rfl (str_get hlt)) rfl ?_
    (repeat' first|refine kX ?_|refine kU fun bk=>?_|refine kV fun hc=>?_|refine kZ (fun hc=>?_) fun hc=>?_|fail)
    refine WQ_round (X := Nat) (J := fun k => k ≤ t.length) (μ := fun k => t.length - k) (x := k) (k + 1) (by omega) (show k + 1 ≤ t.length by omega) ?_ (fun w h => h)
    rw [take_succ 0 hlt, adlN_snoc]
    exact iS
  · rw [str_size] at hc
    have hk : k = t.length := by omega
    subst hk
    rw [List.take_length]
    refine kR ?_
    exact ⟨L, iC, rfl, rfl⟩
end Go.Proofs.YtdcehmhelfohfaaDoor
namespace Go.If
open Go.Vx Go.Hf
set_option linter.all false
def hdK (x y : Nat) : Bool := x % 16 == 8 && decide (x / 16 ≤ 7) && (x * 256 + y) % 31 == 0 && (y &&& 32) == 0
def wdN (b0 b1 b2 b3 : Nat) : Nat := ((b0 * 256 + b1) * 256 + b2) * 256 + b3
end Go.If
namespace Go.Proofs.YtdcehmhelfohfaaDoor
open Go Go.Vx Go.Hf Go.If
variable [W0]
set_option maxRecDepth 4000
set_option linter.all false
theorem bit_and8 {a b : Nat} (ha : a < 256) (hb : b < 256) : bitI .and .u8 (a : Int) (b : Int) = some ((a &&& b : Nat) : Int) := by
  have h1 : a &&& b ≤ a := Nat.and_le_left
  have e : ((BitVec.ofInt 8 (a : Int) &&& BitVec.ofInt 8 (b : Int)).toNat) = a &&& b := by
    rw [BitVec.toNat_and, BitVec.ofInt_natCast, BitVec.ofInt_natCast, BitVec.toNat_ofNat, BitVec.toNat_ofNat, Nat.mod_eq_of_lt (by omega), Nat.mod_eq_of_lt (by omega)]
  show some (IntKind.u8.wrap (((BitVec.ofInt 8 (a : Int) &&& BitVec.ofInt 8 (b : Int)).toNat : Nat) : Int)) = _
  rw [e]
  congr 1
  exact wrap_nat rfl (by simp [IntKind.bits]; omega)
theorem bit_or16 {a b : Nat} (ha : a < 256) (hb : b < 256) : bitI .or .i64 ((a * 256 : Nat) : Int) (b : Int) = some ((a * 256 + b : Nat) : Int) := by
  have e0 : a * 256 ||| b = a * 256 + b := by
    have := Nat.two_pow_add_eq_or_of_lt (i := 8) (b := b) (by omega) a
    rw [Nat.mul_comm a 256]
    exact this.symm
  have e : ((BitVec.ofInt 64 ((a * 256 : Nat) : Int) ||| BitVec.ofInt 64 (b : Int)).toNat) = a * 256 + b := by
    rw [BitVec.toNat_or, BitVec.ofInt_natCast, BitVec.ofInt_natCast, BitVec.toNat_ofNat, BitVec.toNat_ofNat, Nat.mod_eq_of_lt (by omega), Nat.mod_eq_of_lt (by omega), e0]
  show some (IntKind.i64.wrap (((BitVec.ofInt 64 ((a * 256 : Nat) : Int) ||| BitVec.ofInt 64 (b : Int)).toNat : Nat) : Int)) = _
  rw [e]
  congr 1
  exact wrap_i64s (by omega)
set_option maxHeartbeats 4000000 in
theorem isHead_n (x y : UInt8) (L : List Chunk) : GvP Tryd.prog 27 [.int .u8 (x.toNat : Int), .int .u8 (y.toNat : Int)].toArray L (.bool (hdK x.toNat y.toNat)) := by
  refine Gv.of_body Tryd.func27 rfl rfl ?_
  have hx := x.toNat_lt
  have hy := y.toNat_lt
  generalize x.toNat = a at hx ⊢
  generalize y.toNat = b at hy ⊢
  unfold hdK
  (repeat' first|refine kW ?_|refine kU fun bk=>?_|refine kV fun hc=>?_|refine kZ (fun hc=>?_) fun hc=>?_|fail)
  refine OW_EV (EV_nand (k := .u8) a 4 rfl rfl rfl rfl rfl (by simp only [IntKind.bits]; omega) (by decide)) rfl ?_
  have hno : ∀ (c1 : Bool), c1 = false → Value.bool false = .bool c1 := fun c1 h => by rw [h]
  have hno2 : ¬ (a % 16 = 8 ∧ a / 16 ≤ 7 ∧ (a * 256 + b) % 31 = 0) → (a % 16 == 8 && decide (a / 16 ≤ 7) && (a * 256 + b) % 31 == 0 && (b &&& 32) == 0) = false := by
    intro h
    cases hh : (a % 16 == 8 && decide (a / 16 ≤ 7) && (a * 256 + b) % 31 == 0 && (b &&& 32) == 0)
    · rfl
    · exfalso
      simp only [Bool.and_eq_true, beq_iff_eq, decide_eq_true_eq] at hh
      exact h ⟨hh.1.1.1, hh.1.1.2, hh.1.2⟩
  (repeat' first|refine kW ?_|refine kU fun bk=>?_|refine kV fun hc=>?_|refine kZ (fun hc=>?_) fun hc=>?_|fail)
  · refine OW_EV (EV_shl64 a 8 rfl rfl rfl rfl (by decide) (by omega)) rfl ?_
    rw [show a * 2 ^ 8 = a * 256 from rfl]
    (repeat' first|refine kW ?_|refine kU fun bk=>?_|refine kV fun hc=>?_|refine kZ (fun hc=>?_) fun hc=>?_|fail)
    refine OW_EV (EV_bit rfl rfl (bit_or16 (a := a) (b := b) hx hy)) rfl ?_
    (repeat' first|refine kW ?_|refine kU fun bk=>?_|refine kV fun hc=>?_|refine kZ (fun hc=>?_) fun hc=>?_|fail)
    refine OW_EV (EV_remN (a * 256 + b) 31 rfl rfl rfl rfl (by decide)) rfl ?_
    (repeat' first|refine kW ?_|refine kU fun bk=>?_|refine kV fun hc=>?_|refine kZ (fun hc=>?_) fun hc=>?_|fail)
    · refine OW_EV (EV_bit rfl rfl (bit_and8 (a := b) (b := 32) hy (by decide))) rfl ?_
      generalize hz : b &&& 32 = z
      (repeat' first|refine kW ?_|refine kU fun bk=>?_|refine kV fun hc=>?_|refine kZ (fun hc=>?_) fun hc=>?_|fail)
      refine kR ?_
      refine ⟨_, iC, ?_, rfl⟩
      refine congrArg Value.bool ?_
      rw [show (a % 16 == 8) = true from by simp; omega, show decide (a / 16 ≤ 7) = true from by simp; omega, show ((a * 256 + b) % 31 == 0) = true from by simp; omega]
      simp only [Bool.true_and]
      by_cases h0 : z = 0
      · subst h0; rfl
      · rw [show (z == 0) = false from by simpa using h0]; simp; omega
    · refine kR ?_
      exact ⟨_, iC, hno _ (hno2 (by omega)), rfl⟩
  · refine kR ?_
    exact ⟨_, iC, hno _ (hno2 (by omega)), rfl⟩
  · refine kR ?_
    exact ⟨_, iC, hno _ (hno2 (by omega)), rfl⟩
theorem sl_bytes {L : List Chunk} {v : Value} {m : Nat} {t : List UInt8} (h : Sl L 1 v m (bsv t)) (hm : 0 < m) :
    ∃ bb off cap c T fr, v = .slice (some ⟨bb, off, none⟩) m cap ∧ Fnd L bb (.cells c T fr) ∧ ∀ k, k < m → c[off + k * 1]? = some (.int .u8 ((t.getD k 0).toNat : Int)) := by
  rcases h with ⟨c, rfl, rfl, h0⟩ | ⟨a, cap, rfl, hr, hl⟩
  · omega
  · rw [bsv_length, Nat.mul_one] at hl
    rcases hr with h0 | ⟨b, off, c, T, fr, rfl, h1, h2⟩
    · have h9 : (bsv t).length = 0 := by rw [h0]; rfl
      rw [bsv_length] at h9
      omega
    · exact ⟨b, off, cap, c, T, fr, rfl, h1, fun k hk => by rw [Nat.mul_one]; exact h2 _ _ (bsv_get (by simp [List.getD, show k < t.length by omega]))⟩
set_option maxHeartbeats 4000000 in
theorem word_n (v : Value) (m : Nat) (t : List UInt8) (L : List Chunk) (h : Sl L 1 v m (bsv t)) (hm : 4 ≤ m) :
    GvP Tryd.prog 28 [v].toArray L (.int .u32 ((wdN (t.getD 0 0).toNat (t.getD 1 0).toNat (t.getD 2 0).toNat (t.getD 3 0).toNat : Nat) : Int)) := by
  refine Gv.of_body Tryd.func28 rfl rfl ?_
  obtain ⟨bb, off, cap, cc, T, fr, rfl, hfn, hcs⟩ := sl_bytes h (by omega)
  have hc0 := hcs 0 (by omega)
  have hc1 := hcs 1 (by omega)
  have hc2 := hcs 2 (by omega)
  have hc3 := hcs 3 (by omega)
  have h0 := (t.getD 0 0).toNat_lt
  have h1 := (t.getD 1 0).toNat_lt
  have h2 := (t.getD 2 0).toNat_lt
  have h3 := (t.getD 3 0).toNat_lt
  clear h hcs
  generalize (t.getD 0 0).toNat = b0 at *
  generalize (t.getD 1 0).toNat = b1 at *
  generalize (t.getD 2 0).toNat = b2 at *
  generalize (t.getD 3 0).toNat = b3 at *
  (repeat' first|refine kW ?_|refine kU fun bk=>?_|refine kV fun hc=>?_|refine kZ (fun hc=>?_) fun hc=>?_|fail)
  refine WC_drawAll [] mixed ?_
  (refine WR_t 0 ?_)
  (refine WR_take 1 rfl rfl (by kernel_rfl) iP iC (EV_indexAddr (j := 0) rfl rfl rfl (by omega)) (by rfl) ?_)
  (refine WR_take 2 rfl rfl (by kernel_rfl) iP iC (EV_load rfl hfn hc0) (by rfl) ?_)
  (refine WR_take 3 rfl rfl (by kernel_rfl) iP iC (EV_nconv b0 rfl rfl rfl (by simp only [IntKind.bits]; omega)) (by rfl) ?_)
  (refine WR_take 4 rfl rfl (by kernel_rfl) iP iC (EV_nshl b0 24 rfl rfl rfl rfl rfl (by simp only [IntKind.bits]; omega)) (by rfl) ?_)
  (refine WR_t 5 ?_)
  (refine WR_take 6 rfl rfl (by kernel_rfl) iP iC (EV_indexAddr (j := 1) rfl rfl rfl (by omega)) (by rfl) ?_)
  (refine WR_take 7 rfl rfl (by kernel_rfl) iP iC (EV_load rfl hfn hc1) (by rfl) ?_)
  (refine WR_take 8 rfl rfl (by kernel_rfl) iP iC (EV_nconv b1 rfl rfl rfl (by simp only [IntKind.bits]; omega)) (by rfl) ?_)
  (refine WR_take 9 rfl rfl (by kernel_rfl) iP iC (EV_nshl b1 16 rfl rfl rfl rfl rfl (by simp only [IntKind.bits]; omega)) (by rfl) ?_)
  (refine WR_take 10 rfl rfl (by kernel_rfl) iP iC (EV_nor' (k := .u32) (b1 * 2 ^ 16) b0 24 rfl rfl rfl rfl rfl (by omega) (by simp only [IntKind.bits]; omega)) (by rfl) ?_)
  rw [show b1 * 2 ^ 16 + b0 * 2 ^ 24 = (b1 + b0 * 256) * 2 ^ 16 from by omega]
  (refine WR_t 11 ?_)
  (refine WR_take 12 rfl rfl (by kernel_rfl) iP iC (EV_indexAddr (j := 2) rfl rfl rfl (by omega)) (by rfl) ?_)
  (refine WR_take 13 rfl rfl (by kernel_rfl) iP iC (EV_load rfl hfn hc2) (by rfl) ?_)
  (refine WR_take 14 rfl rfl (by kernel_rfl) iP iC (EV_nconv b2 rfl rfl rfl (by simp only [IntKind.bits]; omega)) (by rfl) ?_)
  (refine WR_take 15 rfl rfl (by kernel_rfl) iP iC (EV_nshl b2 8 rfl rfl rfl rfl rfl (by simp only [IntKind.bits]; omega)) (by rfl) ?_)
  (refine WR_take 16 rfl rfl (by kernel_rfl) iP iC (EV_nor' (k := .u32) (b2 * 2 ^ 8) (b1 + b0 * 256) 16 rfl rfl rfl rfl rfl (by omega) (by simp only [IntKind.bits]; omega)) (by rfl) ?_)
  rw [show b2 * 2 ^ 8 + (b1 + b0 * 256) * 2 ^ 16 = (b2 + (b1 + b0 * 256) * 256) * 2 ^ 8 from by omega]
  (refine WR_t 17 ?_)
  (refine WR_take 18 rfl rfl (by kernel_rfl) iP iC (EV_indexAddr (j := 3) rfl rfl rfl (by omega)) (by rfl) ?_)
  (refine WR_take 19 rfl rfl (by kernel_rfl) iP iC (EV_load rfl hfn hc3) (by rfl) ?_)
  (refine WR_take 20 rfl rfl (by kernel_rfl) iP iC (EV_nconv b3 rfl rfl rfl (by simp only [IntKind.bits]; omega)) (by rfl) ?_)
  (refine WR_take 21 rfl rfl (by kernel_rfl) iP iC (EV_nor' (k := .u32) b3 (b2 + (b1 + b0 * 256) * 256) 8 rfl rfl rfl rfl rfl (by omega) (by simp only [IntKind.bits]; omega)) (by rfl) ?_)
  rw [show b3 + (b2 + (b1 + b0 * 256) * 256) * 2 ^ 8 = wdN b0 b1 b2 b3 from by unfold wdN; omega]
  (refine WR_t 22 ?_)
  (refine WR_done (by kernel_rfl) ?_)
  (repeat' first|refine kW ?_|refine kU fun bk=>?_|refine kV fun hc=>?_|refine kZ (fun hc=>?_) fun hc=>?_|fail)
  exact kE
end Go.Proofs.YtdcehmhelfohfaaDoor
namespace Go.If
open Go.Vx Go.Hf
set_option linter.all false
def byt (d : List UInt8) (k : Nat) : Nat := (d.getD k 0).toNat
def usd [W0] (d : List UInt8) (m : Nat) : Nat := ((rawS (d.drop 2) m).t + 7) / 8
end Go.If
namespace Go.Proofs.YtdcehmhelfohfaaDoor
open Go Go.Vx Go.Hf Go.If
variable [W0]
set_option maxRecDepth 4000
set_option linter.all false
def adS (d : List UInt8) (m : Nat) : Nat := (adlV (adlN (1#32, 0#32) (rawS (d.drop 2) m).out)).toNat
def zlE (d : List UInt8) (m : Nat) : Nat :=
  if d.length < 2 then 4
  else if hdK (byt d 0) (byt d 1) = false then 3
  else if (rawS (d.drop 2) m).e ≠ 0 then (rawS (d.drop 2) m).e
  else if d.length < 2 + usd d m + 4 then 4
  else if wdN (byt d (2 + usd d m)) (byt d (2 + usd d m + 1)) (byt d (2 + usd d m + 2)) (byt d (2 + usd d m + 3)) ≠ adS d m then 6
  else 0
set_option maxHeartbeats 4000000 in
theorem pzlib_n (a : Option Addr) (c : Nat) (d : List UInt8) (most : Int) (m : Nat) (L : List Chunk) (hv : Sl L 1 (.slice a d.length c) d.length (bsv d)) (hl : d.length ≤ 140737488355328) (hcap : d.length ≤ c) (hm1 : max most 0 = (m : Int)) (hm : m ≤ 1000000) (hor : OrAt L) :
    Gv Tryd.prog 14 [.slice a d.length c, .int .i64 most].toArray L (fun r L' =>
      (zlE d m ≠ 0 ∧ r = .tuple #[.slice none 0 0, .int .i64 0, .int .i64 (zlE d m : Int)] ∧ L' = L) ∨
      (zlE d m = 0 ∧ ∃ v C, r = .tuple #[v, .int .i64 ((2 + usd d m + 4 : Nat) : Int), .int .i64 0] ∧ Ow 5 1 v (rawS (d.drop 2) m).out.length (bsv (rawS (d.drop 2) m).out) C ∧ (rawS (d.drop 2) m).out.length ≤ m ∧ L' = C :: L)) := by
  refine Gv.of_body Tryd.func14 rfl rfl ?_
  by_cases h2 : d.length < 2
  · have hz : zlE d m = 4 := by unfold zlE; rw [if_pos h2]
    rw [hz]
    (repeat' first|refine kW ?_|refine kU fun bk=>?_|refine kV fun hc=>?_|refine kZ (fun hc=>?_) fun hc=>?_|fail)
    refine WQ_retI (rs := [.tmp 4, .tmp 5, .tmp 6]) (vs := [.slice none 0 0, .int .i64 0, .int .i64 4]) rfl rfl ?_
    exact ⟨_, iC, .inl ⟨by decide, rfl, rfl⟩⟩
  have hz : zlE d m = if hdK (byt d 0) (byt d 1) = false then 3 else if (rawS (d.drop 2) m).e ≠ 0 then (rawS (d.drop 2) m).e else if d.length < 2 + usd d m + 4 then 4 else if wdN (byt d (2 + usd d m)) (byt d (2 + usd d m + 1)) (byt d (2 + usd d m + 2)) (byt d (2 + usd d m + 3)) ≠ adS d m then 6 else 0 := by
    unfold zlE; rw [if_neg h2]
  rw [hz]
  clear hz
  obtain ⟨bb, off, cap, cc, T, fr, hve, hfn, hcs⟩ := sl_bytes hv (by omega)
  injection hve with q1 q2 q3
  subst q1 q3
  clear q2
  have hhd := isHead_n (d.getD 0 0) (d.getD 1 0) L
  change GvP _ _ _ L (.bool (hdK (byt d 0) (byt d 1))) at hhd
  generalize hK : hdK (byt d 0) (byt d 1) = K at hhd ⊢
  (repeat' first|refine kW ?_|refine kU fun bk=>?_|refine kV fun hc=>?_|refine kZ (fun hc=>?_) fun hc=>?_|fail)
  refine WC_drawAll [] mixed ?_
  (refine WR_t 0 ?_)
  (refine WR_take 1 rfl rfl (by kernel_rfl) iP iC (EV_indexAddr (j := 0) rfl rfl rfl (by omega)) (by rfl) ?_)
  (refine WR_take 2 rfl rfl (by kernel_rfl) iP iC (EV_load rfl hfn (hcs 0 (by omega))) (by rfl) ?_)
  (refine WR_t 3 ?_)
  (refine WR_take 4 rfl rfl (by kernel_rfl) iP iC (EV_indexAddr (j := 1) rfl rfl rfl (by omega)) (by rfl) ?_)
  (refine WR_take 5 rfl rfl (by kernel_rfl) iP iC (EV_load rfl hfn (hcs 1 (by omega))) (by rfl) ?_)
  (refine WR_one 6 (by kernel_rfl) rfl rfl ?_)
  refine OW_callP rfl rfl rfl hhd rfl ?_
  refine ⟨iC, ?_⟩
  (refine WR_t 7 ?_)
  (refine WR_done (by kernel_rfl) ?_)
  cases K with
  | false =>
    rw [if_pos rfl]
    (repeat' first|refine kW ?_|refine kU fun bk=>?_|refine kV fun hc=>?_|refine kZ (fun hc=>?_) fun hc=>?_|fail)
    refine WQ_retI (rs := [.tmp 4, .tmp 5, .tmp 6]) (vs := [.slice none 0 0, .int .i64 0, .int .i64 3]) rfl rfl ?_
    exact ⟨_, iC, .inl ⟨by decide, rfl, rfl⟩⟩
  | true =>
    rw [if_neg (by decide)]
    have hsub : ∀ k, k ≤ d.length → Sl L 1 (.slice (some ⟨bb, if c = k then off else off + k * 1, none⟩) (d.length - k) (c - k)) (d.length - k) (bsv (d.drop k)) := by
      intro k hk
      refine .inr ⟨_, _, rfl, ?_, by rw [bsv_length, List.length_drop, Nat.mul_one]⟩
      by_cases h0 : d.length = k
      · refine .inl ?_
        rw [List.drop_of_length_le (by omega)]; rfl
      · rw [if_neg (by omega)]
        refine .inr ⟨bb, _, cc, T, fr, rfl, hfn, fun j u hj => ?_⟩
        have hjl : j < (d.drop k).length := by
          have := (List.getElem?_eq_some_iff.1 hj).1
          rwa [bsv_length] at this
        have hj2 : u = .int .u8 ((d.getD (k + j) 0).toNat : Int) := by
          have h3 := bsv_get (l := d.drop k) (i := j) (b := d.getD (k + j) 0) (by rw [List.length_drop] at hjl; simp [List.getD, show k + j < d.length by omega])
          rw [h3] at hj
          injection hj with hj
          exact hj.symm
        rw [hj2, show off + k * 1 + j = off + (k + j) * 1 from by omega]
        rw [List.length_drop] at hjl
        exact hcs (k + j) (by omega)
    have hra := praw_n (some ⟨bb, if c = 2 then off else off + 2 * 1, none⟩) (c - 2) (d.drop 2) most m L (by rw [List.length_drop]; exact hsub 2 (by omega)) (by rw [List.length_drop]; omega) hm1 hm hor
    rw [List.length_drop] at hra
    have hus : usd d m = ((rawS (d.drop 2) m).t + 7) / 8 := rfl
    have had : adS d m = (adlV (adlN (1#32, 0#32) (rawS (d.drop 2) m).out)).toNat := rfl
    generalize rawS (d.drop 2) m = R at hra hus had ⊢
    rw [← hus] at hra
    generalize usd d m = n at hra hus ⊢
    generalize adS d m = ad at had ⊢
    (repeat' first|refine kW ?_|refine kU fun bk=>?_|refine kV fun hc=>?_|refine kZ (fun hc=>?_) fun hc=>?_|fail)
    refine OW_EV (EV_sliceSl (l := 2) (h := d.length) rfl rfl rfl (by omega) hcap) rfl ?_
    (repeat' first|refine kW ?_|refine kU fun bk=>?_|refine kV fun hc=>?_|refine kZ (fun hc=>?_) fun hc=>?_|fail)
    refine OW_call rfl rfl rfl hra rfl (fun r L' hp => ?_)
    rcases hp with ⟨h3, rfl, rfl⟩ | ⟨h3, v1, C1, rfl, ho1, hl1, ht1, rfl⟩
    · rw [if_pos h3]
      (repeat' first|refine kW ?_|refine kU fun bk=>?_|refine kV fun hc=>?_|refine kZ (fun hc=>?_) fun hc=>?_|fail)
      refine WQ_retI (rs := [.tmp 4, .tmp 5, .tmp 6]) (vs := [.slice none 0 0, .int .i64 0, .int .i64 (R.e : Int)]) rfl rfl ?_
      exact ⟨_, iC, .inl ⟨h3, rfl, rfl⟩⟩
    rw [if_neg (show ¬ R.e ≠ 0 by omega)]
    have hn2 : 2 + n ≤ d.length := by omega
    (repeat' first|refine kW ?_|refine kU fun bk=>?_|refine kV fun hc=>?_|refine kZ (fun hc=>?_) fun hc=>?_|fail)
    rw [show (2 : Int) + (n : Int) = ((2 + n : Nat) : Int) from by omega]
    refine OW_EV (EV_sliceSl (l := 2 + n) (h := d.length) rfl rfl rfl hn2 hcap) rfl ?_
    (repeat' first|refine kW ?_|refine kU fun bk=>?_|refine kV fun hc=>?_|refine kZ (fun hc=>?_) fun hc=>?_|fail)
    · rw [if_pos (show d.length < 2 + n + 4 by omega)]
      refine WQ_retI (rs := [.tmp 4, .tmp 5, .tmp 6]) (vs := [.slice none 0 0, .int .i64 0, .int .i64 4]) rfl rfl ?_
      exact ⟨_, iC, .inl ⟨by decide, rfl, rfl⟩⟩
    rw [if_neg (show ¬ d.length < 2 + n + 4 by omega)]
    have hw := word_n _ _ (d.drop (2 + n)) (C1 :: L) (sl_there (hsub (2 + n) hn2)) (by omega)
    have hgd : ∀ j, ((d.drop (2 + n)).getD j 0).toNat = byt d (2 + n + j) := fun j => by simp [byt, List.getD]
    rw [hgd, hgd, hgd, hgd, Nat.add_zero] at hw
    refine OW_callP rfl rfl rfl hw rfl ?_
    generalize wdN (byt d (2 + n)) (byt d (2 + n + 1)) (byt d (2 + n + 2)) (byt d (2 + n + 3)) = wd
    (repeat' first|refine kW ?_|refine kU fun bk=>?_|refine kV fun hc=>?_|refine kZ (fun hc=>?_) fun hc=>?_|fail)
    have hadl : GvP Tryd.prog 29 [v1].toArray (C1 :: L) (.int .u32 (ad : Int)) := by rw [had]; exact adler_n R.out v1 (C1 :: L) (by omega) (SlC.ow ho1)
    refine OW_callP rfl rfl rfl hadl rfl ?_
    (repeat' first|refine kW ?_|refine kU fun bk=>?_|refine kV fun hc=>?_|refine kZ (fun hc=>?_) fun hc=>?_|fail)
    · rw [if_pos (show wd ≠ ad by omega)]
      refine WQ_retI (rs := [.tmp 4, .tmp 5, .tmp 6]) (vs := [.slice none 0 0, .int .i64 0, .int .i64 6]) rfl rfl ?_
      exact ⟨_, iC, .inl ⟨by decide, rfl, rfl⟩⟩
    · rw [if_neg (show ¬ wd ≠ ad by omega)]
      refine kR ?_
      exact ⟨_, iC, .inr ⟨rfl, v1, C1, by rw [show ((2 + n + 4 : Nat) : Int) = 2 + (n : Int) + 4 from by omega]; rfl, ho1, hl1, rfl⟩⟩
end Go.Proofs.YtdcehmhelfohfaaDoor
namespace Go.Proofs.YtdcehmhelfohfaaDoor
open Go Go.Vx Go.Hf Go.If
variable [W0]
set_option maxRecDepth 100000
set_option linter.all false
omit [W0] in
def awA : List UInt8 := [1, 2, 0, 253, 255, 97, 98]
omit [W0] in
def awZ : List UInt8 := [120, 1, 1, 0, 0, 255, 255, 0, 0, 0, 1]
theorem awA_eq : rawS awA 10 = ⟨56, [97, 98], 0⟩ := by kernel_rfl
theorem aw7_eq : (rawS [7] 10).e = 3 := by kernel_rfl
theorem awZ_eq : zlE awZ 10 = 0 := by kernel_rfl
theorem awZ_us : usd awZ 10 = 5 := by kernel_rfl
set_option maxHeartbeats 4000000 in
theorem iawake_n (L : List Chunk) (hor : OrAt L) : GvP Tryd.prog 9 [].toArray L (.bool true) := by
  refine Gv.of_body Tryd.func9 rfl rfl ?_
  (repeat' first|refine kW ?_|refine kU fun bk=>?_|refine kV fun hc=>?_|refine kZ (fun hc=>?_) fun hc=>?_|fail)
  refine OW_buildSlice (cs := bsv awA) rfl (by rfl) (by simp [fillL, patch, Value.cells, zeros]; rfl) (by omega) rfl rfl (fun b1 => ?_)
  (repeat' first|refine kW ?_|refine kU fun bk=>?_|refine kV fun hc=>?_|refine kZ (fun hc=>?_) fun hc=>?_|fail)
  have h1 := praw_n (some ⟨b1, 0, none⟩) 7 awA 10 10 ([(b1, cl (bsv awA) 5)] :: L) (sl_cells (c := (bsv awA).toArray) (xs := bsv awA) (m := 7) Fnd.here rfl (by simp)) (by decide) (by decide) (by decide) hor.there
  rw [awA_eq] at h1
  refine OW_call rfl rfl rfl h1 rfl (fun r L' hp => ?_)
  rcases hp with ⟨h, _⟩ | ⟨_, v1, C1, rfl, ho1, _, _, rfl⟩
  · exact absurd rfl h
  (repeat' first|refine kW ?_|refine kU fun bk=>?_|refine kV fun hc=>?_|refine kZ (fun hc=>?_) fun hc=>?_|fail)
  refine OW_buildSlice (cs := bsv [7]) rfl (by rfl) (by simp [fillL, patch, Value.cells, zeros]; rfl) (by omega) rfl rfl (fun b2 => ?_)
  (repeat' first|refine kW ?_|refine kU fun bk=>?_|refine kV fun hc=>?_|refine kZ (fun hc=>?_) fun hc=>?_|fail)
  have h2 := praw_n (some ⟨b2, 0, none⟩) 1 [7] 10 10 ([(b2, cl (bsv [7]) 5)] :: C1 :: [(b1, cl (bsv awA) 5)] :: L) (sl_cells (c := (bsv [7]).toArray) (xs := bsv [7]) (m := 1) Fnd.here rfl (by simp)) (by decide) (by decide) (by decide) hor.there.there.there
  rw [aw7_eq] at h2
  refine OW_call rfl rfl rfl h2 rfl (fun r L' hp => ?_)
  rcases hp with ⟨_, rfl, rfl⟩ | ⟨h, _⟩
  rotate_left
  · cases h
  (repeat' first|refine kW ?_|refine kU fun bk=>?_|refine kV fun hc=>?_|refine kZ (fun hc=>?_) fun hc=>?_|fail)
  refine OW_buildSlice (cs := bsv awZ) rfl (by rfl) (by simp [fillL, patch, Value.cells, zeros]; rfl) (by omega) rfl rfl (fun b3 => ?_)
  (repeat' first|refine kW ?_|refine kU fun bk=>?_|refine kV fun hc=>?_|refine kZ (fun hc=>?_) fun hc=>?_|fail)
  have h3 := pzlib_n (some ⟨b3, 0, none⟩) 11 awZ 10 10 ([(b3, cl (bsv awZ) 5)] :: [(b2, cl (bsv [7]) 5)] :: C1 :: [(b1, cl (bsv awA) 5)] :: L) (sl_cells (c := (bsv awZ).toArray) (xs := bsv awZ) (m := 11) Fnd.here rfl (by simp)) (by decide) (by decide) (by decide) (by decide) hor.there.there.there.there
  rw [awZ_eq, awZ_us] at h3
  refine OW_call rfl rfl rfl h3 rfl (fun r L' hp => ?_)
  rcases hp with ⟨h, _⟩ | ⟨_, v3, C3, rfl, _, _, rfl⟩
  · exact absurd rfl h
  (repeat' first|refine kW ?_|refine kU fun bk=>?_|refine kV fun hc=>?_|refine kZ (fun hc=>?_) fun hc=>?_|fail)
  refine OW_EV (EV_convStr (m := 2) (b := [97, 98]) rfl (by exact sl_there (sl_there (sl_there (ow_sl ho1))))) rfl ?_
  (repeat' first|refine kW ?_|refine kU fun bk=>?_|refine kV fun hc=>?_|refine kZ (fun hc=>?_) fun hc=>?_|fail)
  exact kE
end Go.Proofs.YtdcehmhelfohfaaDoor
namespace Go.If
open Go.Vx Go.Hf
set_option linter.all false
theorem pt_m {most : Nat} {s : S6} {c : UInt8} (h : s.out.length ≤ most) : (pt most s c).out.length ≤ most := by
  unfold pt
  split
  · rw [fl_out]; exact h
  · simp; omega
theorem cpL_m {most far : Nat} : ∀ {n : Nat} {s : S6}, s.out.length ≤ most → (cpL most far n s).out.length ≤ most
  | 0, s, h => h
  | n + 1, s, h => by
    rw [cpL]
    split
    · exact cpL_m (pt_m h)
    · exact h
theorem mtS_m [W0] {d : List UInt8} {most k : Nat} {dl : List Nat} {s : S6} (h : s.out.length ≤ most) : (mtS d most k dl s).out.length ≤ most := by
  unfold mtS mtD
  repeat' split
  all_goals first
    | (refine cpL_m ?_; simp only [fl_out, tk_out, sy_o]; exact h)
    | (simp only [fl_out, tk_out, sy_o]; exact h)
theorem cdC_m [W0] {d : List UInt8} {most : Nat} {l dl : List Nat} : ∀ {f : Nat} {s : S6}, s.out.length ≤ most → (cdC d most l dl f s).out.length ≤ most
  | 0, s, h => h
  | f + 1, s, h => by
    have hs : (sy d s l).out.length ≤ most := by rw [sy_o]; exact h
    rw [cdC]
    split
    · exact h
    · split
      · exact hs
      · split
        · exact cdC_m (pt_m hs)
        · split
          · exact hs
          · exact cdC_m (mtS_m hs)
theorem stL_m [W0] {d : List UInt8} {most : Nat} : ∀ {k : Nat} {s : S6}, s.out.length ≤ most → (stL d most k s).out.length ≤ most
  | 0, s, h => h
  | k + 1, s, h => by
    have hs : (tk d s 8).out.length ≤ most := by rw [tk_out]; exact h
    rw [stL]
    split
    · refine stL_m ?_
      split
      · exact pt_m hs
      · exact hs
    · exact h
theorem bkS_m [W0] {d : List UInt8} {most k : Nat} {s : S6} (h : s.out.length ≤ most) : (bkS d most k s).out.length ≤ most := by
  unfold bkS stS dbS
  split
  · refine stL_m ?_
    split <;> simp only [fl_out, tk_out] <;> exact h
  · split
    · exact cdC_m h
    · split
      · rw [dyS_out]; exact h
      · exact cdC_m (by rw [dyS_out]; exact h)
theorem rwS_m [W0] {d : List UInt8} {most : Nat} : ∀ {f : Nat} {s : S6}, s.out.length ≤ most → (rwS d most f s).out.length ≤ most
  | 0, s, h => h
  | f + 1, s, h => by
    have hs : (tk d s 3).out.length ≤ most := by rw [tk_out]; exact h
    have hb := bkS_m (d := d) (k := tv d s 3 / 2) hs
    rw [rwS]
    split
    · exact hs
    · split
      · rw [fl_out]; exact hs
      · split
        · exact hb
        · split
          · exact hb
          · exact rwS_m hb
theorem rawS_m [W0] (d : List UInt8) (most : Nat) : (rawS d most).out.length ≤ most := rwS_m (Nat.zero_le _)
end Go.If
namespace Go.Proofs.YtdcehmhelfohfaaDoor
open Go Go.Vx Go.Hf Go.If
variable [W0]
set_option maxRecDepth 4000
set_option linter.all false
omit [W0] in
/-- A number, the highest byte first. -/
def gtN (t : List UInt8) : Nat := t.foldl (fun n x => n * 256 + x.toNat) 0
theorem gtN_snoc (t : List UInt8) (x : UInt8) : gtN (t ++ [x]) = gtN t * 256 + x.toNat := by simp [gtN]
theorem gtN_four (t : List UInt8) (h : t.length = 4) : gtN t = wdN (t.getD 0 0).toNat (t.getD 1 0).toNat (t.getD 2 0).toNat (t.getD 3 0).toNat := by
  match t, h with
  | [a, b, c, d], _ => simp [gtN, wdN]
set_option maxHeartbeats 4000000 in
theorem refget_n (a : Option Addr) (c : Nat) (t : List UInt8) (L : List Chunk) (hv : Sl L 1 (.slice a t.length c) t.length (bsv t)) (hl : t.length ≤ 7) :
    GvP Tryd.prog 30 [.slice a t.length c].toArray L (.int .u64 ((gtN t : Nat) : Int)) := by
  refine Gv.of_body Tryd.func30 rfl rfl ?_
  ((repeat' first|refine kW ?_|refine kU fun bk=>?_|refine kV fun hc=>?_|refine kZ (fun hc=>?_) fun hc=>?_|fail) <;> try exact absurd trivial hc)
  refine WC_loop (X := Nat) (fun k => [(0, .slice a t.length c), (3, .int .u64 ((gtN (t.take k) : Nat) : Int)), (4, .int .i64 (k : Int))]) (fun _ => L)
    (fun k => k ≤ t.length ∧ gtN (t.take k) < 256 ^ k) (fun k => t.length - k) 0 ⟨Nat.zero_le _, by simp [gtN]⟩ iS (fun w h => h) ?_
  rintro k ⟨hk, hb⟩
  ((repeat' first|refine kW ?_|refine kU fun bk=>?_|refine kV fun hc=>?_|refine kZ (fun hc=>?_) fun hc=>?_|fail) <;> try exact absurd trivial hc)
  · have hlt : k < t.length := by omega
    obtain ⟨bb, off, cap, cc, bT, bfr, hve, hfn, hcell⟩ := sl_byte hv hlt
    injection hve with e1 e2 e3
    subst e1 e3
    clear e2
    have h8 := (t.getD k 0).toNat_lt
    have hs : gtN (t.take (k + 1)) = gtN (t.take k) * 256 + (t.getD k 0).toNat := by rw [take_succ 0 hlt, gtN_snoc]
    have hp : 256 ^ (k + 1) = 256 ^ k * 256 := Nat.pow_succ ..
    have hp7 : 256 ^ (k + 1) ≤ 256 ^ 7 := Nat.pow_le_pow_right (by decide) (by omega)
    generalize gtN (t.take k) = g at hb hs ⊢
    generalize (t.getD k 0).toNat = x at hcell h8 hs
    refine OW_EV (EV_ari (r := 256 * (g : Int)) rfl rfl rfl) rfl ?_
    rw [show 256 * (g : Int) = ((256 * g : Nat) : Int) from by omega, wrap_nat (k := .u64) rfl (by simp only [IntKind.bits]; omega)]
    ((repeat' first|refine kW ?_|refine kU fun bk=>?_|refine kV fun hc=>?_|refine kZ (fun hc=>?_) fun hc=>?_|fail) <;> try exact absurd trivial hc)
    refine OW_EV (EV_indexAddr (j := k) rfl rfl rfl hlt) rfl ?_
    ((repeat' first|refine kW ?_|refine kU fun bk=>?_|refine kV fun hc=>?_|refine kZ (fun hc=>?_) fun hc=>?_|fail) <;> try exact absurd trivial hc)
    refine OW_EV (EV_load rfl hfn hcell) rfl ?_
    ((repeat' first|refine kW ?_|refine kU fun bk=>?_|refine kV fun hc=>?_|refine kZ (fun hc=>?_) fun hc=>?_|fail) <;> try exact absurd trivial hc)
    refine OW_EV (EV_ari (r := ((256 * g : Nat) : Int) + (x : Int)) rfl rfl rfl) rfl ?_
    rw [show ((256 * g : Nat) : Int) + (x : Int) = ((256 * g + x : Nat) : Int) from by omega, wrap_nat (k := .u64) rfl (by simp only [IntKind.bits]; omega)]
    ((repeat' first|refine kW ?_|refine kU fun bk=>?_|refine kV fun hc=>?_|refine kZ (fun hc=>?_) fun hc=>?_|fail) <;> try exact absurd trivial hc)
    rw [show 256 * g + x = gtN (t.take (k + 1)) by omega]
    refine WQ_round (X := Nat) (μ := fun k => t.length - k) (x := k) (k + 1) (by omega) ⟨by omega, by omega⟩ iS (fun w h => h)
  · have hk : k = t.length := by omega
    subst hk
    rw [List.take_length]
    refine kR ?_
    exact ⟨L, iC, rfl, rfl⟩
set_option maxHeartbeats 16000000 in
theorem wzlib_n (a : Option Addr) (c : Nat) (d : List UInt8) (mo : Int) (m : Nat) (L : List Chunk) (hv : Sl L 1 (.slice a d.length c) d.length (bsv d)) (hl : d.length ≤ 1000000) (hcap : d.length ≤ c) (hm1 : max mo 0 = (m : Int)) (hm : m ≤ 1000000) :
    Gv Tryd.prog 15 [.slice a d.length c, .int .i64 mo].toArray L (fun r L' =>
      (zlE d m ≠ 0 ∧ r = .agg #[.slice none 0 0, .int .i64 0, .int .i64 (zlE d m : Int)] ∧ L' = L) ∨
      (zlE d m = 0 ∧ ∃ v C, r = .agg #[v, .int .i64 ((2 + usd d m + 4 : Nat) : Int), .int .i64 0] ∧ Ow 5 1 v (rawS (d.drop 2) m).out.length (bsv (rawS (d.drop 2) m).out) C ∧ L' = C :: L)) := by
  refine Gv.of_body Tryd.func15 rfl rfl ?_
  ((repeat' first|refine kW ?_|refine kU fun bk=>?_|refine kV fun hc=>?_|refine kZ (fun hc=>?_) fun hc=>?_|fail) <;> try exact absurd trivial hc)
  · have hz : zlE d m = 4 := by unfold zlE; rw [if_pos (show d.length < 2 by omega)]
    rw [hz]
    first
      | (refine WQ_retC (vs := [.agg #[.slice none 0 0, .int .i64 0, .int .i64 4]]) rfl (.agg ⟨by kernel_rfl, by kernel_rfl⟩ rfl (RdAt.cl' (vs := [.slice none 0 0, .int .i64 0, .int .i64 4]) (by repeat (first | assumption | exact Fnd.here | refine Fnd.there ?_)) rfl) rfl .nil) ?_
         exact ⟨L, fun w h => iH h, .inl ⟨by first | decide | assumption, rfl, rfl⟩⟩)
      | (refine WQ_endC (vs := [.agg #[.slice none 0 0, .int .i64 0, .int .i64 4]]) rfl (.agg ⟨by kernel_rfl, by kernel_rfl⟩ rfl (RdAt.cl' (vs := [.slice none 0 0, .int .i64 0, .int .i64 4]) (by repeat (first | assumption | exact Fnd.here | refine Fnd.there ?_)) rfl) rfl .nil) ?_
         exact ⟨L, fun w h => iH h, .inl ⟨by first | decide | assumption, rfl, rfl⟩⟩)
  have h2 : ¬ d.length < 2 := by omega
  have hz : zlE d m = if hdK (byt d 0) (byt d 1) = false then 3 else if (rawS (d.drop 2) m).e ≠ 0 then (rawS (d.drop 2) m).e else if d.length < 2 + usd d m + 4 then 4 else if wdN (byt d (2 + usd d m)) (byt d (2 + usd d m + 1)) (byt d (2 + usd d m + 2)) (byt d (2 + usd d m + 3)) ≠ adS d m then 6 else 0 := by
    unfold zlE; rw [if_neg h2]
  rw [hz]
  clear hz
  obtain ⟨bb, off, cap, cc, T, fr, hve, hfn, hcs⟩ := sl_bytes hv (by omega)
  injection hve with q1 q2 q3
  subst q1 q3
  clear q2
  have hx := (d.getD 0 0).toNat_lt
  have hy := (d.getD 1 0).toNat_lt
  have hc0 := hcs 0 (by omega)
  have hc1 := hcs 1 (by omega)
  generalize hKd : hdK (byt d 0) (byt d 1) = K
  have hdf : ¬ (byt d 0 % 16 = 8 ∧ byt d 0 / 16 ≤ 7 ∧ (byt d 0 * 256 + byt d 1) % 31 = 0 ∧ byt d 1 &&& 32 = 0) → hdK (byt d 0) (byt d 1) = false := by
    intro h
    cases hh : hdK (byt d 0) (byt d 1)
    · rfl
    · exfalso
      unfold hdK at hh
      simp only [Bool.and_eq_true, beq_iff_eq, decide_eq_true_eq] at hh
      exact h ⟨hh.1.1.1, hh.1.1.2, hh.1.2, hh.2⟩
  have hdt : byt d 0 % 16 = 8 ∧ byt d 0 / 16 ≤ 7 ∧ (byt d 0 * 256 + byt d 1) % 31 = 0 ∧ byt d 1 &&& 32 = 0 → hdK (byt d 0) (byt d 1) = true := by
    rintro ⟨h1, h2, h3, h4⟩
    unfold hdK
    rw [h1, h3, h4, decide_eq_true h2]
    rfl
  change byt d 0 < 256 at hx
  change byt d 1 < 256 at hy
  change cc[off + 0 * 1]? = some (Value.int .u8 (byt d 0 : Int)) at hc0
  change cc[off + 1 * 1]? = some (Value.int .u8 (byt d 1 : Int)) at hc1
  generalize byt d 0 = x at hx hc0 hdf hdt hKd
  generalize byt d 1 = y at hy hc1 hdf hdt hKd
  refine WC_drawAll [] mixed ?_
  (refine WR_t 0 ?_)
  (refine WR_take 1 rfl rfl (by kernel_rfl) iP iC (EV_indexAddr (j := 0) rfl rfl rfl (by omega)) (by rfl) ?_)
  (refine WR_take 2 rfl rfl (by kernel_rfl) iP iC (EV_load rfl hfn.there hc0) (by rfl) ?_)
  (refine WR_take 3 rfl rfl (by kernel_rfl) iP iC (EV_nand (k := .u8) x 4 rfl rfl rfl rfl rfl (by simp only [IntKind.bits]; omega) (by decide)) (by rfl) ?_)
  (refine WR_t 4 ?_; refine WR_t 5 ?_)
  by_cases c1 : x % 16 = 8
  rotate_left
  · rw [show (((x % 2 ^ 4 : Nat) : Int) != 8) = true from by simp; omega]
    (refine WR_v 6 ?_; refine WR_v 7 ?_; refine WR_v 8 ?_; refine WR_v 9 ?_; refine WR_v 10 ?_)
    (refine WR_t 11 ?_; refine WR_t 12 ?_)
    (refine WR_v 13 ?_; refine WR_v 14 ?_; refine WR_v 15 ?_; refine WR_v 16 ?_; refine WR_v 17 ?_; refine WR_v 18 ?_; refine WR_v 19 ?_; refine WR_v 20 ?_; refine WR_v 21 ?_; refine WR_v 22 ?_; refine WR_v 23 ?_; refine WR_v 24 ?_)
    (refine WR_t 25 ?_; refine WR_t 26 ?_)
    (refine WR_v 27 ?_; refine WR_v 28 ?_; refine WR_v 29 ?_; refine WR_v 30 ?_; refine WR_v 31 ?_)
    (refine WR_t 32 ?_)
    have hK : K = false := by rw [← hKd]; exact hdf (fun h => c1 h.1)
    rw [if_pos hK]
    (refine WR_done (by kernel_rfl) ?_)
    ((repeat' first|refine kW ?_|refine kU fun bk=>?_|refine kV fun hc=>?_|refine kZ (fun hc=>?_) fun hc=>?_|fail) <;> try exact absurd trivial hc)
    first
      | (refine WQ_retC (vs := [.agg #[.slice none 0 0, .int .i64 0, .int .i64 3]]) rfl (.agg ⟨by kernel_rfl, by kernel_rfl⟩ rfl (RdAt.cl' (vs := [.slice none 0 0, .int .i64 0, .int .i64 3]) (by repeat (first | assumption | exact Fnd.here | refine Fnd.there ?_)) rfl) rfl .nil) ?_
         exact ⟨L, fun w h => iH h, .inl ⟨by first | decide | assumption, rfl, rfl⟩⟩)
      | (refine WQ_endC (vs := [.agg #[.slice none 0 0, .int .i64 0, .int .i64 3]]) rfl (.agg ⟨by kernel_rfl, by kernel_rfl⟩ rfl (RdAt.cl' (vs := [.slice none 0 0, .int .i64 0, .int .i64 3]) (by repeat (first | assumption | exact Fnd.here | refine Fnd.there ?_)) rfl) rfl .nil) ?_
         exact ⟨L, fun w h => iH h, .inl ⟨by first | decide | assumption, rfl, rfl⟩⟩)
  rw [show (((x % 2 ^ 4 : Nat) : Int) != 8) = false from by simp; omega]
  (refine WR_u 6 ?_)
  (refine WR_takeOn 7 rfl rfl rfl (by kernel_rfl) iP iC (EV_indexAddr (j := 0) rfl rfl rfl (by omega)) (by rfl) ?_)
  (refine WR_takeOn 8 rfl rfl rfl (by kernel_rfl) iP iC (EV_load rfl hfn.there hc0) (by rfl) ?_)
  (refine WR_takeOn 9 rfl rfl rfl (by kernel_rfl) iP iC (EV_nshr (k := .u8) x 4 rfl rfl rfl rfl (by simp only [IntKind.bits]; omega)) (by rfl) ?_)
  (refine WR_u 10 ?_)
  (refine WR_t 11 ?_; refine WR_t 12 ?_)
  by_cases c2 : x / 16 ≤ 7
  rotate_left
  · rw [show decide (((x / 2 ^ 4 : Nat) : Int) > 7) = true from by simp; omega]
    (refine WR_v 13 ?_; refine WR_v 14 ?_; refine WR_v 15 ?_; refine WR_v 16 ?_; refine WR_v 17 ?_; refine WR_v 18 ?_; refine WR_v 19 ?_; refine WR_v 20 ?_; refine WR_v 21 ?_; refine WR_v 22 ?_; refine WR_v 23 ?_; refine WR_v 24 ?_)
    (refine WR_t 25 ?_; refine WR_t 26 ?_)
    (refine WR_v 27 ?_; refine WR_v 28 ?_; refine WR_v 29 ?_; refine WR_v 30 ?_; refine WR_v 31 ?_)
    (refine WR_t 32 ?_)
    have hK : K = false := by rw [← hKd]; exact hdf (fun h => c2 h.2.1)
    rw [if_pos hK]
    (refine WR_done (by kernel_rfl) ?_)
    ((repeat' first|refine kW ?_|refine kU fun bk=>?_|refine kV fun hc=>?_|refine kZ (fun hc=>?_) fun hc=>?_|fail) <;> try exact absurd trivial hc)
    first
      | (refine WQ_retC (vs := [.agg #[.slice none 0 0, .int .i64 0, .int .i64 3]]) rfl (.agg ⟨by kernel_rfl, by kernel_rfl⟩ rfl (RdAt.cl' (vs := [.slice none 0 0, .int .i64 0, .int .i64 3]) (by repeat (first | assumption | exact Fnd.here | refine Fnd.there ?_)) rfl) rfl .nil) ?_
         exact ⟨L, fun w h => iH h, .inl ⟨by first | decide | assumption, rfl, rfl⟩⟩)
      | (refine WQ_endC (vs := [.agg #[.slice none 0 0, .int .i64 0, .int .i64 3]]) rfl (.agg ⟨by kernel_rfl, by kernel_rfl⟩ rfl (RdAt.cl' (vs := [.slice none 0 0, .int .i64 0, .int .i64 3]) (by repeat (first | assumption | exact Fnd.here | refine Fnd.there ?_)) rfl) rfl .nil) ?_
         exact ⟨L, fun w h => iH h, .inl ⟨by first | decide | assumption, rfl, rfl⟩⟩)
  rw [show decide (((x / 2 ^ 4 : Nat) : Int) > 7) = false from by simp; omega]
  (refine WR_u 13 ?_)
  (refine WR_takeOn 14 rfl rfl rfl (by kernel_rfl) iP iC (EV_indexAddr (j := 0) rfl rfl rfl (by omega)) (by rfl) ?_)
  (refine WR_takeOn 15 rfl rfl rfl (by kernel_rfl) iP iC (EV_load rfl hfn.there hc0) (by rfl) ?_)
  (refine WR_u 16 ?_; refine WR_u 17 ?_; refine WR_u 18 ?_)
  (refine WR_takeOn 19 rfl rfl rfl (by kernel_rfl) iP iC (EV_indexAddr (j := 1) rfl rfl rfl (by omega)) (by rfl) ?_)
  (refine WR_takeOn 20 rfl rfl rfl (by kernel_rfl) iP iC (EV_load rfl hfn.there hc1) (by rfl) ?_)
  (refine WR_u 21 ?_; refine WR_u 22 ?_)
  (refine WR_takeOn 23 rfl rfl rfl (by kernel_rfl) iP iC (EV_remN (x * 256 + y) 31 rfl rfl (by omega) rfl (by decide)) (by rfl) ?_)
  (refine WR_u 24 ?_)
  (refine WR_t 25 ?_; refine WR_t 26 ?_)
  by_cases c3 : (x * 256 + y) % 31 = 0
  rotate_left
  · rw [show ((((x * 256 + y) % 31 : Nat) : Int) != 0) = true from by simp; omega]
    (refine WR_v 27 ?_; refine WR_v 28 ?_; refine WR_v 29 ?_; refine WR_v 30 ?_; refine WR_v 31 ?_)
    (refine WR_t 32 ?_)
    have hK : K = false := by rw [← hKd]; exact hdf (fun h => c3 h.2.2.1)
    rw [if_pos hK]
    (refine WR_done (by kernel_rfl) ?_)
    ((repeat' first|refine kW ?_|refine kU fun bk=>?_|refine kV fun hc=>?_|refine kZ (fun hc=>?_) fun hc=>?_|fail) <;> try exact absurd trivial hc)
    first
      | (refine WQ_retC (vs := [.agg #[.slice none 0 0, .int .i64 0, .int .i64 3]]) rfl (.agg ⟨by kernel_rfl, by kernel_rfl⟩ rfl (RdAt.cl' (vs := [.slice none 0 0, .int .i64 0, .int .i64 3]) (by repeat (first | assumption | exact Fnd.here | refine Fnd.there ?_)) rfl) rfl .nil) ?_
         exact ⟨L, fun w h => iH h, .inl ⟨by first | decide | assumption, rfl, rfl⟩⟩)
      | (refine WQ_endC (vs := [.agg #[.slice none 0 0, .int .i64 0, .int .i64 3]]) rfl (.agg ⟨by kernel_rfl, by kernel_rfl⟩ rfl (RdAt.cl' (vs := [.slice none 0 0, .int .i64 0, .int .i64 3]) (by repeat (first | assumption | exact Fnd.here | refine Fnd.there ?_)) rfl) rfl .nil) ?_
         exact ⟨L, fun w h => iH h, .inl ⟨by first | decide | assumption, rfl, rfl⟩⟩)
  rw [show ((((x * 256 + y) % 31 : Nat) : Int) != 0) = false from by simp; omega]
  (refine WR_u 27 ?_)
  (refine WR_takeOn 28 rfl rfl rfl (by kernel_rfl) iP iC (EV_indexAddr (j := 1) rfl rfl rfl (by omega)) (by rfl) ?_)
  (refine WR_takeOn 29 rfl rfl rfl (by kernel_rfl) iP iC (EV_load rfl hfn.there hc1) (by rfl) ?_)
  (refine WR_takeOn 30 rfl rfl rfl (by kernel_rfl) iP iC (EV_bit rfl rfl (bit_and8 (a := y) (b := 32) hy (by decide))) (by rfl) ?_)
  (refine WR_u 31 ?_)
  (refine WR_t 32 ?_)
  by_cases c4 : y &&& 32 = 0
  rotate_left
  · rw [show (((y &&& 32 : Nat) : Int) != 0) = true from by simp; omega]
    have hK : K = false := by rw [← hKd]; exact hdf (fun h => c4 h.2.2.2)
    rw [if_pos hK]
    (refine WR_done (by kernel_rfl) ?_)
    ((repeat' first|refine kW ?_|refine kU fun bk=>?_|refine kV fun hc=>?_|refine kZ (fun hc=>?_) fun hc=>?_|fail) <;> try exact absurd trivial hc)
    first
      | (refine WQ_retC (vs := [.agg #[.slice none 0 0, .int .i64 0, .int .i64 3]]) rfl (.agg ⟨by kernel_rfl, by kernel_rfl⟩ rfl (RdAt.cl' (vs := [.slice none 0 0, .int .i64 0, .int .i64 3]) (by repeat (first | assumption | exact Fnd.here | refine Fnd.there ?_)) rfl) rfl .nil) ?_
         exact ⟨L, fun w h => iH h, .inl ⟨by first | decide | assumption, rfl, rfl⟩⟩)
      | (refine WQ_endC (vs := [.agg #[.slice none 0 0, .int .i64 0, .int .i64 3]]) rfl (.agg ⟨by kernel_rfl, by kernel_rfl⟩ rfl (RdAt.cl' (vs := [.slice none 0 0, .int .i64 0, .int .i64 3]) (by repeat (first | assumption | exact Fnd.here | refine Fnd.there ?_)) rfl) rfl .nil) ?_
         exact ⟨L, fun w h => iH h, .inl ⟨by first | decide | assumption, rfl, rfl⟩⟩)
  rw [show (((y &&& 32 : Nat) : Int) != 0) = false from by simp; omega]
  have hK : K = true := by rw [← hKd]; exact hdt ⟨c1, c2, c3, c4⟩
  rw [if_neg (show ¬ K = false from by rw [hK]; decide)]
  (refine WR_done (by kernel_rfl) ?_)
  ((repeat' first|refine kW ?_|refine kU fun bk=>?_|refine kV fun hc=>?_|refine kZ (fun hc=>?_) fun hc=>?_|fail) <;> try exact absurd trivial hc)
  clear hKd hdf hdt hx hy hc0 hc1
  have hsub : ∀ k, k ≤ d.length → Sl L 1 (.slice (some ⟨bb, if c = k then off else off + k * 1, none⟩) (d.length - k) (c - k)) (d.length - k) (bsv (d.drop k)) := by
    intro k hk
    refine .inr ⟨_, _, rfl, ?_, by rw [bsv_length, List.length_drop, Nat.mul_one]⟩
    by_cases h0 : d.length = k
    · refine .inl ?_
      rw [List.drop_of_length_le (by omega)]; rfl
    · rw [if_neg (by omega)]
      refine .inr ⟨bb, _, cc, T, fr, rfl, hfn, fun j u hj => ?_⟩
      have hjl : j < (d.drop k).length := by
        have := (List.getElem?_eq_some_iff.1 hj).1
        rwa [bsv_length] at this
      have hj2 : u = .int .u8 ((d.getD (k + j) 0).toNat : Int) := by
        have h3 := bsv_get (l := d.drop k) (i := j) (b := d.getD (k + j) 0) (by rw [List.length_drop] at hjl; simp [List.getD, show k + j < d.length by omega])
        rw [h3] at hj
        injection hj with hj
        exact hj.symm
      rw [hj2, show off + k * 1 + j = off + (k + j) * 1 from by omega]
      rw [List.length_drop] at hjl
      exact hcs (k + j) (by omega)
  obtain ⟨gr, hgr⟩ : ∃ gr, gr = bk := ⟨_, rfl⟩
  rw [← hgr]
  clear hgr
  refine OW_holds (L' := [(gr, cl [.slice none 0 0, .int .i64 0, .int .i64 0] 38)] :: L) (fun w h => h) ?_
  have hra := wraw_n (some ⟨bb, if c = 2 then off else off + 2 * 1, none⟩) (c - 2) (d.drop 2) mo m ([(gr, cl [.slice none 0 0, .int .i64 0, .int .i64 0] 38)] :: L) (by rw [List.length_drop]; exact sl_there (hsub 2 (by omega))) (by rw [List.length_drop]; omega) hm1 hm
  rw [List.length_drop] at hra
  have hus : usd d m = ((rawS (d.drop 2) m).t + 7) / 8 := rfl
  have had : adS d m = (adlV (adlN (1#32, 0#32) (rawS (d.drop 2) m).out)).toNat := rfl
  have hrm := rawS_m (d.drop 2) m
  generalize rawS (d.drop 2) m = R at hra hus had hrm ⊢
  rw [← hus] at hra
  generalize usd d m = n at hra hus ⊢
  generalize adS d m = ad at had ⊢
  refine OW_EV (EV_sliceSl (l := 2) (h := d.length) rfl rfl rfl (by omega) hcap) rfl ?_
  ((repeat' first|refine kW ?_|refine kU fun bk=>?_|refine kV fun hc=>?_|refine kZ (fun hc=>?_) fun hc=>?_|fail) <;> try exact absurd trivial hc)
  refine OW_call rfl rfl rfl hra rfl (fun r L' hp => ?_)
  rcases hp with ⟨h3, rfl, rfl⟩ | ⟨h3, v1, C1, rfl, ho1, ht1, rfl⟩
  · rw [if_pos h3]
    ((repeat' first|refine kW ?_|refine kU fun bk=>?_|refine kV fun hc=>?_|refine kZ (fun hc=>?_) fun hc=>?_|fail) <;> try exact absurd trivial hc)
    first
      | (refine WQ_retC (vs := [.agg #[.slice none 0 0, .int .i64 0, .int .i64 (R.e : Int)]]) rfl (.agg ⟨by kernel_rfl, by kernel_rfl⟩ rfl (RdAt.cl' (vs := [.slice none 0 0, .int .i64 0, .int .i64 (R.e : Int)]) (by repeat (first | assumption | exact Fnd.here | refine Fnd.there ?_)) rfl) rfl .nil) ?_
         exact ⟨L, fun w h => iH h, .inl ⟨by first | decide | assumption, rfl, rfl⟩⟩)
      | (refine WQ_endC (vs := [.agg #[.slice none 0 0, .int .i64 0, .int .i64 (R.e : Int)]]) rfl (.agg ⟨by kernel_rfl, by kernel_rfl⟩ rfl (RdAt.cl' (vs := [.slice none 0 0, .int .i64 0, .int .i64 (R.e : Int)]) (by repeat (first | assumption | exact Fnd.here | refine Fnd.there ?_)) rfl) rfl .nil) ?_
         exact ⟨L, fun w h => iH h, .inl ⟨by first | decide | assumption, rfl, rfl⟩⟩)
  rw [if_neg (show ¬ R.e ≠ 0 by omega)]
  have hn2 : 2 + n ≤ d.length := by omega
  obtain ⟨v1a, v1c, rfl⟩ := ow_slc ho1
  ((repeat' first|refine kW ?_|refine kU fun bk=>?_|refine kV fun hc=>?_|refine kZ (fun hc=>?_) fun hc=>?_|fail) <;> try exact absurd trivial hc)
  · rw [if_pos (show d.length < 2 + n + 4 by omega)]
    first
      | (refine WQ_retC (vs := [.agg #[.slice none 0 0, .int .i64 0, .int .i64 4]]) rfl (.agg ⟨by kernel_rfl, by kernel_rfl⟩ rfl (RdAt.cl' (vs := [.slice none 0 0, .int .i64 0, .int .i64 4]) (by repeat (first | assumption | exact Fnd.here | refine Fnd.there ?_)) rfl) rfl .nil) ?_
         exact ⟨L, fun w h => iH h, .inl ⟨by first | decide | assumption, rfl, rfl⟩⟩)
      | (refine WQ_endC (vs := [.agg #[.slice none 0 0, .int .i64 0, .int .i64 4]]) rfl (.agg ⟨by kernel_rfl, by kernel_rfl⟩ rfl (RdAt.cl' (vs := [.slice none 0 0, .int .i64 0, .int .i64 4]) (by repeat (first | assumption | exact Fnd.here | refine Fnd.there ?_)) rfl) rfl .nil) ?_
         exact ⟨L, fun w h => iH h, .inl ⟨by first | decide | assumption, rfl, rfl⟩⟩)
  rw [if_neg (show ¬ d.length < 2 + n + 4 by omega)]
  have hS4 : Sl L 1 (.slice (some ⟨bb, off + (2 + n) * 1, none⟩) 4 (c - (2 + n))) 4 (bsv ((d.drop (2 + n)).take 4)) := by
    refine .inr ⟨_, _, rfl, .inr ⟨bb, _, cc, T, fr, rfl, hfn, fun j u hj => ?_⟩, by rw [bsv_length, List.length_take, List.length_drop]; omega⟩
    have hjl : j < ((d.drop (2 + n)).take 4).length := by
      have := (List.getElem?_eq_some_iff.1 hj).1
      rwa [bsv_length] at this
    rw [List.length_take, List.length_drop] at hjl
    have h3 := bsv_get (l := (d.drop (2 + n)).take 4) (i := j) (b := d.getD (2 + n + j) 0) (by rw [List.getElem?_take, if_pos (by omega), List.getElem?_drop]; simp [List.getD, show 2 + n + j < d.length by omega])
    rw [h3] at hj
    injection hj with hj
    rw [← hj, show off + (2 + n) * 1 + j = off + (2 + n + j) * 1 from by omega]
    exact hcs (2 + n + j) (by omega)
  have hl4 : ((d.drop (2 + n)).take 4).length = 4 := by rw [List.length_take, List.length_drop]; omega
  have hwd : gtN ((d.drop (2 + n)).take 4) = wdN (byt d (2 + n)) (byt d (2 + n + 1)) (byt d (2 + n + 2)) (byt d (2 + n + 3)) := by
    have hg : ∀ j, j < 4 → (((d.drop (2 + n)).take 4).getD j 0).toNat = byt d (2 + n + j) := fun j hj => by simp [byt, List.getD, List.getElem?_take, hj]
    rw [gtN_four _ hl4, hg 0 (by decide), hg 1 (by decide), hg 2 (by decide), hg 3 (by decide)]
    rfl
  have hgt := fun L (h : Sl L 1 (.slice (some ⟨bb, off + (2 + n) * 1, none⟩) 4 (c - (2 + n))) 4 (bsv ((d.drop (2 + n)).take 4))) => refget_n (some ⟨bb, off + (2 + n) * 1, none⟩) (c - (2 + n)) ((d.drop (2 + n)).take 4) L (by rw [hl4]; exact h) (by omega)
  rw [hwd, hl4] at hgt
  generalize wdN (byt d (2 + n)) (byt d (2 + n + 1)) (byt d (2 + n + 2)) (byt d (2 + n + 3)) = wd at hgt ⊢
  have hadl : ∀ L, GvP Tryd.prog 31 [.string (str R.out)].toArray L (.int .u32 (ad : Int)) := fun L => by rw [had]; exact refadler_n R.out L (by omega)
  have hadb : ad < 2 ^ 32 := by rw [had]; exact BitVec.isLt _
  rw [show (2 : Int) + (n : Int) = ((2 + n : Nat) : Int) from by omega]
  obtain ⟨go, hgo⟩ : ∃ go, go = bk := ⟨_, rfl⟩
  rw [← hgo]
  clear hgo
  refine WC_holds' (L' := [(go, cl [.slice v1a R.out.length v1c, .int .i64 (n : Int), .int .i64 0] 38)] :: C1 :: [(gr, cl [.slice none 0 0, .int .i64 0, .int .i64 0] 38)] :: L) (fun w h => h) ?_
  refine WC_draw [[(go, cl [.slice v1a R.out.length v1c, .int .i64 (n : Int), .int .i64 0] 38)], C1] [] mixed ?_
  (refine WR_t 0 ?_; refine WR_t 1 ?_; refine WR_t 2 ?_; refine WR_t 3 ?_)
  (refine WR_take 4 rfl rfl (by kernel_rfl) iP iC (EV_sliceSl (l := 2 + n) (h := 2 + n + 4) rfl rfl rfl (by omega) (by omega)) (by rfl) ?_)
  rw [if_neg (show ¬ c = 2 + n by omega), show 2 + n + 4 - (2 + n) = 4 from by omega]
  (refine WR_t 6 ?_; refine WR_t 7 ?_)
  (refine WR_take 8 rfl rfl (by kernel_rfl) iP iC (EV_convStr (m := R.out.length) (b := R.out) rfl (by exact sl_there (ow_sl ho1))) (by rfl) ?_)
  (refine WR_one 5 (by kernel_rfl) rfl rfl ?_)
  refine OW_callP rfl rfl rfl (hgt _ (by repeat (first | exact hS4 | apply sl_there))) rfl ?_
  refine ⟨iC, ?_⟩
  (refine WR_one 9 (by kernel_rfl) rfl rfl ?_)
  refine OW_callP rfl rfl rfl (hadl _) rfl ?_
  refine ⟨iC, ?_⟩
  (refine WR_take 10 rfl rfl (by kernel_rfl) iP iC (EV_nconv ad rfl rfl rfl (by simp only [IntKind.bits]; omega)) (by rfl) ?_)
  (refine WR_t 11 ?_)
  (refine WR_done (by kernel_rfl) ?_)
  ((repeat' first|refine kW ?_|refine kU fun bk=>?_|refine kV fun hc=>?_|refine kZ (fun hc=>?_) fun hc=>?_|fail) <;> try exact absurd trivial hc)
  · rw [if_pos (show wd ≠ ad by omega)]
    first
      | (refine WQ_retC (vs := [.agg #[.slice none 0 0, .int .i64 0, .int .i64 6]]) rfl (.agg ⟨by kernel_rfl, by kernel_rfl⟩ rfl (RdAt.cl' (vs := [.slice none 0 0, .int .i64 0, .int .i64 6]) (by repeat (first | assumption | exact Fnd.here | refine Fnd.there ?_)) rfl) rfl .nil) ?_
         exact ⟨L, fun w h => iH h, .inl ⟨by first | decide | assumption, rfl, rfl⟩⟩)
      | (refine WQ_endC (vs := [.agg #[.slice none 0 0, .int .i64 0, .int .i64 6]]) rfl (.agg ⟨by kernel_rfl, by kernel_rfl⟩ rfl (RdAt.cl' (vs := [.slice none 0 0, .int .i64 0, .int .i64 6]) (by repeat (first | assumption | exact Fnd.here | refine Fnd.there ?_)) rfl) rfl .nil) ?_
         exact ⟨L, fun w h => iH h, .inl ⟨by first | decide | assumption, rfl, rfl⟩⟩)
  · rw [if_neg (show ¬ wd ≠ ad by omega)]
    rw [show (2 : Int) + (n : Int) + 4 = ((2 + n + 4 : Nat) : Int) from by omega]
    first
      | (refine WQ_retC (vs := [.agg #[.slice v1a R.out.length v1c, .int .i64 ((2 + n + 4 : Nat) : Int), .int .i64 0]]) rfl (.agg ⟨by kernel_rfl, by kernel_rfl⟩ rfl (RdAt.cl' (vs := [.slice v1a R.out.length v1c, .int .i64 ((2 + n + 4 : Nat) : Int), .int .i64 0]) (by repeat (first | assumption | exact Fnd.here | refine Fnd.there ?_)) rfl) rfl .nil) ?_
         exact ⟨C1 :: L, fun w h => iH h, .inr ⟨rfl, _, C1, rfl, ho1, rfl⟩⟩)
      | (refine WQ_endC (vs := [.agg #[.slice v1a R.out.length v1c, .int .i64 ((2 + n + 4 : Nat) : Int), .int .i64 0]]) rfl (.agg ⟨by kernel_rfl, by kernel_rfl⟩ rfl (RdAt.cl' (vs := [.slice v1a R.out.length v1c, .int .i64 ((2 + n + 4 : Nat) : Int), .int .i64 0]) (by repeat (first | assumption | exact Fnd.here | refine Fnd.there ?_)) rfl) rfl .nil) ?_
         exact ⟨C1 :: L, fun w h => iH h, .inr ⟨rfl, _, C1, rfl, ho1, rfl⟩⟩)
set_option maxHeartbeats 16000000 in
theorem inflatezlib_n (a : Option Addr) (c : Nat) (b : List UInt8) (mo : Int) (L : List Chunk) (hv : Sl L 1 (.slice a b.length c) b.length (bsv b)) (hcap : b.length ≤ c) (hl : b.length ≤ 140737488351232) (hor : OrAt L) :
    GvP Tryd.prog 7 [.slice a b.length c, .int .i64 mo].toArray L (.bool true) := by
  refine Gv.of_body Tryd.func7 rfl rfl ?_
  ((repeat' first|refine kW ?_|refine kU fun bk=>?_|refine kV fun hc=>?_|refine kZ (fun hc=>?_) fun hc=>?_|fail) <;> try exact absurd trivial hc)
  · refine OW_callP rfl rfl rfl (iawake_n L hor) rfl ?_
    ((repeat' first|refine kW ?_|refine kU fun bk=>?_|refine kV fun hc=>?_|refine kZ (fun hc=>?_) fun hc=>?_|fail) <;> try exact absurd trivial hc)
    exact kE
  · refine OW_callP rfl rfl rfl (iawake_n L hor) rfl ?_
    ((repeat' first|refine kW ?_|refine kU fun bk=>?_|refine kV fun hc=>?_|refine kZ (fun hc=>?_) fun hc=>?_|fail) <;> try exact absurd trivial hc)
    exact kE
  obtain ⟨m, hm⟩ : ∃ m : Nat, max mo 0 = (m : Int) := ⟨(max mo 0).toNat, by omega⟩
  have hp1 := pzlib_n a c b mo m L hv (by omega) hcap hm (by omega) hor
  have hp2 := fun L hv => wzlib_n a c b mo m L hv (by omega) hcap hm (by omega)
  generalize rawS (b.drop 2) m = R at hp1 hp2
  generalize zlE b m = e at hp1 hp2
  generalize 2 + usd b m + 4 = n at hp1 hp2
  refine OW_call rfl rfl rfl hp1 rfl (fun r L' hp => ?_)
  rcases hp with ⟨h1, rfl, rfl⟩ | ⟨h1, v1, C1, rfl, ho1, hl1, rfl⟩
  · ((repeat' first|refine kW ?_|refine kU fun bk=>?_|refine kV fun hc=>?_|refine kZ (fun hc=>?_) fun hc=>?_|fail) <;> try exact absurd trivial hc)
    refine OW_call rfl rfl rfl (hp2 _ hv) rfl (fun r L' hp => ?_)
    rcases hp with ⟨h1, rfl, rfl⟩ | ⟨h0, _⟩
    rotate_left
    · exact absurd h0 h1
    ((repeat' first|refine kW ?_|refine kU fun bk=>?_|refine kV fun hc=>?_|refine kZ (fun hc=>?_) fun hc=>?_|fail) <;> try exact absurd trivial hc)
    refine OW_holds (L' := [(bk, cl [.slice none 0 0, .int .i64 0, .int .i64 (e : Int)] 38)] :: L') (fun w h => h) ?_
    refine OW_EV (EV_convStr (m := 0) (b := []) rfl (Or.inl ⟨0, rfl, rfl, rfl⟩)) rfl ?_
    ((repeat' first|refine kW ?_|refine kU fun bk=>?_|refine kV fun hc=>?_|refine kZ (fun hc=>?_) fun hc=>?_|fail) <;> try exact absurd trivial hc)
    refine OW_EV (EV_convStr (m := 0) (b := []) rfl (Or.inl ⟨0, rfl, rfl, rfl⟩)) rfl ?_
    ((repeat' first|refine kW ?_|refine kU fun bk=>?_|refine kV fun hc=>?_|refine kZ (fun hc=>?_) fun hc=>?_|fail) <;> try exact absurd trivial hc)
    refine OW_callP rfl rfl rfl (iawake_n _ (by repeat (first | exact hor | apply OrAt.there))) rfl ?_
    ((repeat' first|refine kW ?_|refine kU fun bk=>?_|refine kV fun hc=>?_|refine kZ (fun hc=>?_) fun hc=>?_|fail) <;> try exact absurd trivial hc)
    exact kE
  · obtain ⟨v1a, v1c, rfl⟩ := ow_slc ho1
    ((repeat' first|refine kW ?_|refine kU fun bk=>?_|refine kV fun hc=>?_|refine kZ (fun hc=>?_) fun hc=>?_|fail) <;> try exact absurd trivial hc)
    refine OW_call rfl rfl rfl (hp2 _ (sl_there hv)) rfl (fun r L' hp => ?_)
    rcases hp with ⟨h0, _⟩ | ⟨_, v2, C2, rfl, ho2, rfl⟩
    · exact absurd h1 h0
    obtain ⟨v2a, v2c, rfl⟩ := ow_slc ho2
    ((repeat' first|refine kW ?_|refine kU fun bk=>?_|refine kV fun hc=>?_|refine kZ (fun hc=>?_) fun hc=>?_|fail) <;> try exact absurd trivial hc)
    refine OW_holds (L' := [(bk, cl [.slice v2a R.out.length v2c, .int .i64 (n : Int), .int .i64 0] 38)] :: C2 :: C1 :: L) (fun w h => h) ?_
    refine OW_EV (EV_convStr (m := R.out.length) (b := R.out) rfl (by repeat (first | exact ow_sl ho1 | apply sl_there))) rfl ?_
    ((repeat' first|refine kW ?_|refine kU fun bk=>?_|refine kV fun hc=>?_|refine kZ (fun hc=>?_) fun hc=>?_|fail) <;> try exact absurd trivial hc)
    refine OW_EV (EV_convStr (m := R.out.length) (b := R.out) rfl (by repeat (first | exact ow_sl ho2 | apply sl_there))) rfl ?_
    ((repeat' first|refine kW ?_|refine kU fun bk=>?_|refine kV fun hc=>?_|refine kZ (fun hc=>?_) fun hc=>?_|fail) <;> try exact absurd trivial hc)
    refine OW_callP rfl rfl rfl (iawake_n _ (by repeat (first | exact hor | apply OrAt.there))) rfl ?_
    ((repeat' first|refine kW ?_|refine kU fun bk=>?_|refine kV fun hc=>?_|refine kZ (fun hc=>?_) fun hc=>?_|fail) <;> try exact absurd trivial hc)
    exact kE
end Go.Proofs.YtdcehmhelfohfaaDoor
namespace Go.Proofs.YtdcehmhelfohfaaDoor
open Go Go.Vx Go.ChangeShapes Go.WideShapes Go.ChangeAt Go.RowKit
set_option maxRecDepth 4000
set_option linter.all false
theorem open_bytes {H : Type} {enc : TypeId × Value → H} {P : Program} {W : World} {t e : TypeId} {a : Option Addr} {len cap : Nat} {d : DataW H} {ps : List MemPlace} (ht : P.underlying t = some (.slice e)) (he : P.underlying e = some (.int .u8)) (hc : P.cellsOf e = 1)
    (h : DataW.Trod enc P W 0 (fun _ => true) true t (.slice a len cap) d ps) :
    ∃ xs : List UInt8, xs.length = len ∧ SlC [blks W] 1 (.slice a len cap) len (bsv xs) ∧ len ≤ Rows.uptoBulk d ∧ (len = 0 ∨ ∃ el sp, d = .slice el sp ∧ el.length = len) := by
  have hx : len ≤ cap ∧ (len = 0 ∨ ∃ el sp, d = .slice el sp ∧ el.length = len) := by
    obtain ⟨fuel, hf⟩ := h
    rcases open_ints ht he hc hf with ⟨hcs, _⟩ | ⟨x, l, c, zs, hcs, _, hl, hm, hz, hx, hcell, hwz⟩
    · simp [Value.cells] at hcs
      obtain ⟨rfl, rfl, rfl⟩ := hcs
      exact ⟨Nat.le_refl _, .inl rfl⟩
    · simp [Value.cells] at hcs
      obtain ⟨rfl, rfl, rfl⟩ := hcs
      have hzl : zs.length = cap := by simpa using hz
      have hd : d = .slice (lits .u8 (zs.take len)) (lits .u8 (zs.drop len)) := by injection hx
      exact ⟨hl, .inr ⟨_, _, hd, by simp [lits]; omega⟩⟩
  obtain ⟨xs, h1, h2, h3, h4⟩ := open_row ht he hc h
  refine ⟨xs.map fun n => UInt8.ofNat n.toNat, by simpa using h1, ⟨?_, _, _, rfl, hx.1⟩, h4, hx.2⟩
  rw [bytes_of xs h2]
  exact h3
theorem reach_len {H : Type} {P : Program} {ts : List TypeId} {ds : List (DataW H)} (h : (DataW.weightsEach P ts ds).all (· ≤ reachBytes) = true) {j : Nat} {t e : TypeId} {d : DataW H} {len : Nat} (ht : ts[j]? = some t) (hd : ds[j]? = some d) (hu : P.underlying t = some (.slice e)) (hb : P.bytesOf e = 1)
    (hl : len = 0 ∨ ∃ el sp, d = .slice el sp ∧ el.length = len) : len ≤ 140737488351232 := by
  rcases hl with rfl | ⟨el, sp, rfl, rfl⟩
  · omega
  · have := sized_slice h ht hd hu
    rw [hb, Nat.mul_one] at this
    simp [reachBytes] at this
    omega
def tabZ : List Int := [16, 17, 18, 0, 8, 7, 9, 6, 10, 5, 11, 4, 12, 3, 13, 2, 14, 1, 15]
theorem tabZ_eq {i : Nat} (h : i < 19) : tabZ.getD i 0 = ((Go.If.ordL.getD i 0 : Nat) : Int) := by
  have : ∀ i : Fin 19, tabZ.getD i.val 0 = ((Go.If.ordL.getD i.val 0 : Nat) : Int) := by decide
  exact this ⟨i, h⟩
theorem tab_met {W : World} (h : laidMetH Tryd.prog [("stemma/symbols.order", Rows.laid_stemma_symbols_order)] W) : OrAt [blks W] := by
  letI : W0 := ⟨W.os, W.output⟩
  have ht : Lib.TabIs Tryd.prog W "stemma/symbols.order" .i64 tabZ :=
    Lib.tabIs_of_head (rest := []) (show Tryd.prog.globalNamed "stemma/symbols.order" = some 0 by kernel_rfl) (show (Tryd.prog.globals[0]?).map (·.type) = some 139 by kernel_rfl)
      Tryd.underlying139 Tryd.underlying3 (show Tryd.prog.cellsOf 3 = 1 by kernel_rfl) (show Tryd.prog.cellsOf 139 = 19 by kernel_rfl) h
  have hg : Tryd.prog.globalNamed "stemma/symbols.order" = some 0 := by kernel_rfl
  have hc0 := ht.cell hg 0 (by decide)
  have hblk : ∃ C T fr, W.heap[0]? = some (.cells C T fr) := by
    unfold World.cell? at hc0
    split at hc0
    · rename_i C T fr hb; exact ⟨C, T, fr, hb⟩
    · cases hc0
  obtain ⟨C, T, fr, hb⟩ := hblk
  refine ⟨C, T, fr, by simpa [Fnd] using blks_mem.2 hb, fun i hi => ?_⟩
  have := ht.cell hg i hi
  rw [cell_of hb] at this
  rw [this, tabZ_eq hi]
end Go.Proofs.YtdcehmhelfohfaaDoor
namespace Go.Proofs.YtdcehmhelfohfaaDoor
open Go Go.Vx Go.ChangeShapes Go.WideShapes Go.ChangeAt Go.RowKit
set_option linter.all false
set_option maxRecDepth 4000
theorem top_row (H : Type) (enc : TypeId × Value → H) (W : World) (base : Nat) (args : Array Value) (ds gs : List (DataW H)) (before : List MemPlace)
    (hval : ∀ (j : Nat) t v, Tryd.f7.params[j]? = some t → args[j]? = some v → Value.okWide Tryd.prog W .any base t v)
    (hW : DataW.Whole enc Tryd.prog Tryd.f7.params.toList Rows.inflateZlibSpec.vars false W args.toList ds gs before)
    (hz : (DataW.weightsEach Tryd.prog (Tryd.f7.params.toList ++ Rows.inflateZlibSpec.plain.varTypes Tryd.prog) (ds ++ gs)).all (· ≤ reachBytes) = true) (hL : laidMetH Tryd.prog [("stemma/symbols.order", Rows.laid_stemma_symbols_order)] W) :
    Calls Tryd.prog 7 args W fun e W' => ∃ v, e = .returned v ∧ Rows.inflateZlibSpec.post enc Tryd.prog Tryd.f7 false true false false W args v W' := by
  have hW' := hW
  obtain ⟨p, q, hA0, hV, rfl, hfz, hnd⟩ := hW
  have hA : DataW.TrodAll enc Tryd.prog W 0 (fun _ => true) true Tryd.f7.params.toList args.toList ds p := hA0
  rw [Tryd.params7] at hA hval hz
  obtain ⟨v0, vs0, d0, ds0, p0, q0, hargs, rfl, rfl, h0, r0⟩ := trodAll_cons hA
  obtain ⟨v1, vs1, d1, ds1, p1, q1, rfl, rfl, rfl, h1, r1⟩ := trodAll_cons r0
  obtain ⟨rfl, rfl, rfl⟩ := trodAll_nil r1
  obtain rfl : args = #[v0, v1] := by cases args; simp_all
  obtain ⟨rfl, rfl⟩ := trodVars_none hV
  obtain ⟨a0, l0, c0, rfl⟩ := okWide_slice Tryd.underlying22 (hval 0 _ v0 rfl rfl)
  obtain ⟨x0, e0, s0, b0, g0⟩ := open_bytes Tryd.underlying22 Tryd.underlying5 (by kernel_rfl) h0
  have r0 : l0 ≤ 140737488351232 := reach_len hz (j := 0) rfl rfl Tryd.underlying22 (by kernel_rfl) g0
  obtain ⟨n1, rfl, rfl, rfl, w1⟩ := open_int Tryd.underlying3 (hval 1 _ v1 rfl rfl) h1
  clear hA0
  have lt0 : ∀ x ∈ p0, x.block < W.heap.size := by obtain ⟨m, hm⟩ := h0; exact DataW.trod_lt m _ _ _ hm
  have hc : Calls Tryd.prog 7 #[.slice a0 l0 c0, .int .i64 n1] W fun e W' => e = .returned (.bool true) ∧ Kept W W' := by
    have ht := tab_met hL
    refine bridge (fun {i} => ?_)
    subst e0
    obtain ⟨sa0, sc0, hse0, hsm0⟩ := s0.room
    injection hse0 with _ _ hsc0
    subst hsc0
    exact inflatezlib_n a0 c0 x0 n1 [blks W] s0.sl hsm0 r0 ht
  refine hc.mono fun e W' ⟨he, bel⟩ => ?_
  subst he
  exact ⟨_, rfl, _, _, _, [], _, [], hW', trodAll_mk1 (shut_bool Tryd.underlying4 _), (trodAll_cons_mk (Kept.trod Tryd.laidOut (by kernel_rfl) (of_decide_eq_true (by kernel_rfl)) h0 bel lt0) (trodAll_cons_mk (shut_int Tryd.underlying3 w1) trodAll_mk0)), rfl, bel.frame _, fun h => by cases h⟩
noncomputable def laidWorld (os : Os) : World :=
  { World.holding Tryd.prog os ⟨#[], #[], []⟩ with heap := (World.holding Tryd.prog os ⟨#[], #[], []⟩).heap.modify 0 fun
      | .cells _ t frozen => .cells (tabZ.map (Value.int .i64)).toArray t frozen
      | o => o }
theorem laid_met (os : Os) : laidMet Tryd.prog Rows.inflateZlibRow.laid ((laidWorld os).forCall (fun _ _ => 0) ⟨#[], #[.slice none 0 0, .int .i64 0], []⟩).memory :=
  laidMet_of_run' 8 (by kernel_rfl) (by kernel_rfl)
theorem reads (os : Os) {H : Type} (enc : TypeId × Value → H) : ∃ places, DataW.whole enc Tryd.prog ((laidWorld os).forCall (fun _ _ => 0) ⟨#[], #[.slice none 0 0, .int .i64 0], []⟩).memory Tryd.f7.params.toList Rows.inflateZlibSpec.vars false #[.slice none 0 0, .int .i64 0].toList 8 = some ([.nil, .lit (.int .i64 0)], [], places) :=
  ⟨[], by kernel_rfl⟩
set_option maxRecDepth 100000 in
theorem top_lifted (os : Os) (started : os.Started) (H : Type) (enc : TypeId × Value → H) (F : Stop.Interp) :
    ReturnsInHanded {} Tryd.checked os 7 .any ((OpenSpec.ofChange Rows.inflateZlibSpec).preRow enc Tryd.prog Tryd.f7 Rows.inflateZlibRow.domain false Rows.inflateZlibRow.laid) (((OpenSpec.ofChange Rows.inflateZlibSpec).at F).post enc Tryd.prog Tryd.f7 false true false false) := by
  obtain ⟨places, hx⟩ := reads os enc
  refine returnsInHanded_of_row (C := Tryd.checked) (s := (OpenSpec.ofChange Rows.inflateZlibSpec)) Tryd.own started (by kernel_rfl) Tryd.func7
    (witness_row_at (enc := enc) (C := Tryd.checked) false (laidWorld os) #[.slice none 0 0, .int .i64 0] rfl (by kernel_rfl) (by kernel_rfl) (by kernel_rfl)
      (OpenSpec.preRow_of_cond 8 hx (by kernel_rfl) (fun k hk => by cases hk) (by kernel_rfl) (laid_met os))) ?_
  intro W base args ds gs before hval hW _ hcond hz hL _ _
  exact top_row H enc W base args ds gs before hval hW hz hL
theorem top_over : Rows.InflateZlibSaid :=
  OpenClaim.holds_of_cond 7 Tryd.f7 rfl rfl rfl rfl rfl rfl rfl ⟨rfl, rfl, rfl, rfl, rfl⟩ rfl rfl rfl rfl rfl (by kernel_rfl) Tryd.func7 (by kernel_rfl)
    (of_decide_eq_true (by kernel_rfl)) (by unfold Func.isWrapper; first | (rw [if_pos (by decide +kernel)]; kernel_rfl) | (rw [if_neg (by decide +kernel)]; exact ⟨rfl, rfl⟩))
    (fun os started H enc _ F => by rw [OpenClaim.pre_eq_preRow]; exact top_lifted os started H enc F)
theorem top_plain (f : FuncId) (fn : Func) (hf : Tryd.pinned.checked.prog.funcNamed "stemma/stemmalaw6.InflateZlib" = some f) (hfn : Tryd.pinned.checked.prog.funcs[f]? = some fn) :
    false = Tryd.pinned.checked.prog.looks [] ∧ ∀ (j : Nat) t, fn.params[j]? = some t → Tryd.pinned.checked.prog.wantsStandIn t = false := by
  obtain rfl : f = 7 := Option.some.inj ((show Tryd.prog.funcNamed "stemma/stemmalaw6.InflateZlib" = some 7 by kernel_rfl).symm.trans hf) |>.symm
  obtain rfl : fn = Tryd.f7 := (Option.some.inj (Tryd.func7.symm.trans hfn)).symm
  have all : (Tryd.f7.params.toList.all fun t => !Tryd.prog.wantsStandIn t) = true := by kernel_rfl
  refine ⟨by kernel_rfl, fun j t ht => ?_⟩
  have hm : t ∈ Tryd.f7.params.toList := by
    have := Array.mem_of_getElem? ht
    simpa using this
  have := List.all_eq_true.1 all t hm
  show Tryd.prog.wantsStandIn t = false
  simpa using this
theorem top_holds : Rows.InflateZlibCardSaid :=
  Claim7.holds_tied_plain_at .later [] _ _ _ _ top_over (fun _ h => by cases h) (by kernel_rfl) (fun _ h => by cases h) inflateZlib_row_tie rfl ⟨rfl, rfl⟩ (by kernel_rfl) rfl top_plain (by kernel_rfl)
end Go.Proofs.YtdcehmhelfohfaaDoor
