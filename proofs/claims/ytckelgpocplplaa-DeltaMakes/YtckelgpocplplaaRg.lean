/- Package delta: a delta's sizes read. It proves no statement by itself. No conditions. -/
import Derived.Test.YtckelgpocplplaaRf
namespace Go.Dl
set_option linter.all false
theorem p128 (i : Nat) : 2 ^ (7 * (i + 1)) = 128 * 2 ^ (7 * i) := by
  rw [Nat.mul_add, Nat.pow_add, Nat.mul_comm]
theorem vl_lt : ∀ l : List UInt8, vl l < 2 ^ (7 * l.length)
  | [] => by simp [vl]
  | c :: b => by
    have := vl_lt b
    rw [List.length_cons, p128, vl]
    omega
theorem vl_app (a : List UInt8) (x : UInt8) : vl (a ++ [x]) = vl a + (x.toNat % 128) * 2 ^ (7 * a.length) := by
  induction a with
  | nil => simp [vl]
  | cons b r ih =>
    simp only [List.cons_append, vl, ih, List.length_cons, p128]
    rw [Nat.mul_add, Nat.mul_left_comm]
    omega
theorem vl_take {l : List UInt8} {i : Nat} (h : i < l.length) : vl (l.take (i + 1)) = vl (l.take i) + ((l[i]).toNat % 128) * 2 ^ (7 * i) := by
  rw [List.take_add_one, List.getElem?_eq_getElem h]
  show vl (l.take i ++ [l[i]]) = _
  rw [vl_app, List.length_take, Nat.min_eq_left (by omega)]
end Go.Dl
namespace Go.Proofs.Ytckelgpocplplaa
open Go Go.Vx Go.Dl
variable [W0]
set_option maxRecDepth 4000
set_option linter.all false

set_option maxHeartbeats 4000000 in
theorem value_n (v : Value) (l : List UInt8) (L : List Chunk) (h : Sl L 1 v l.length (bsv l)) (hl : l.length ≤ 140737488355328) :
    GvP Try.prog 33 [v].toArray L (.tuple #[.int .i64 ((if nOk l then vl l else 0 : Nat) : Int), .bool (nOk l)]) := by
  refine Gv.of_body (args := [v]) Try.func33 rfl rfl ?_
  obtain ⟨va, vc, rfl⟩ := sl_slice h
  by_cases h5 : 5 < l.length
  · have h0 : nOk l = false := by unfold nOk; exact decide_eq_false (by omega)
    rw [h0]
    (repeat' first|refine kW ?_|refine kU fun bk=>?_|refine kV fun hc=>?_|refine kZ (fun hc=>?_) fun hc=>?_|fail)
    refine WQ_retI rfl rfl ?_
    exact ⟨_, iC, rfl, rfl⟩
  have hv5 : vl l < 2 ^ 35 := Nat.lt_of_lt_of_le (vl_lt l) (Nat.pow_le_pow_right (by decide) (by omega))
  (repeat' first|refine kW ?_|refine kU fun bk=>?_|refine kV fun hc=>?_|refine kZ (fun hc=>?_) fun hc=>?_|fail)
  refine WC_loop (X := Nat) (fun i => [(4, .int .u64 ((vl (l.take i) : Nat) : Int)), (10, .slice va l.length vc), (11, .int .i64 (l.length : Int)), (12, .int .i64 (i : Int))]) (fun _ => L)
    (fun i => i ≤ l.length) (fun i => l.length - i) 0 (Nat.zero_le _) iS (fun w h => h) ?_
  intro i hi
  (repeat' first|refine kW ?_|refine kU fun bk=>?_|refine kV fun hc=>?_|refine kZ (fun hc=>?_) fun hc=>?_|fail)
  · have hlt : i < l.length := by omega
    obtain ⟨b, off, cap, cc, T, fr, hve, hfn, hcell⟩ := sl_at h (bsv_get hlt)
    injection hve with q1 q2 q3
    subst q1 q3
    clear q2
    have hb1 : vl (l.take i) < 2 ^ (7 * i) := by
      have := vl_lt (l.take i)
      rwa [List.length_take, Nat.min_eq_left (by omega)] at this
    have hb2 : 2 ^ (7 * (i + 1)) ≤ 2 ^ 35 := Nat.pow_le_pow_right (by decide) (by omega)
    have hb3 := p128 i
    have ht := vl_take hlt
    have hb4 : vl (l.take (i + 1)) < 2 ^ (7 * (i + 1)) := by
      have := vl_lt (l.take (i + 1))
      rwa [List.length_take, Nat.min_eq_left (by omega)] at this
    have hb5 : (l[i]).toNat % 128 * 2 ^ (7 * i) < 2 ^ 64 := by omega
    refine OW_EV (EV_indexAddr (j := i) rfl rfl rfl hlt) rfl ?_
    (repeat' first|refine kW ?_|refine kU fun bk=>?_|refine kV fun hc=>?_|refine kZ (fun hc=>?_) fun hc=>?_|fail)
    refine OW_EV (EV_load rfl hfn hcell) rfl ?_
    (repeat' first|refine kW ?_|refine kU fun bk=>?_|refine kV fun hc=>?_|refine kZ (fun hc=>?_) fun hc=>?_|fail)
    refine OW_EV (EV_remN (k := .u8) (l[i]).toNat 128 rfl rfl rfl rfl (by decide)) rfl ?_
    (repeat' first|refine kW ?_|refine kU fun bk=>?_|refine kV fun hc=>?_|refine kZ (fun hc=>?_) fun hc=>?_|fail)
    refine OW_EV (EV_nshl (k := .u64) ((l[i]).toNat % 128) (7 * i) rfl rfl rfl (by omega) rfl (by simpa only [IntKind.bits] using hb5)) rfl ?_
    (repeat' first|refine kW ?_|refine kU fun bk=>?_|refine kV fun hc=>?_|refine kZ (fun hc=>?_) fun hc=>?_|fail)
    refine OW_EV (EV_nor (k := .u64) (vl (l.take i)) ((l[i]).toNat % 128) (7 * i) rfl rfl rfl rfl rfl hb1 (by simp only [IntKind.bits]; omega)) rfl ?_
    rw [← ht]
    (repeat' first|refine kW ?_|refine kU fun bk=>?_|refine kV fun hc=>?_|refine kZ (fun hc=>?_) fun hc=>?_|fail)
    refine WQ_round (X := Nat) (μ := fun i => l.length - i) (x := i) (i + 1) (by omega) (by omega) iS (fun w h => h)
  · obtain rfl : i = l.length := by omega
    rw [List.take_length] at hc
    have h0 : nOk l = false := by unfold nOk; exact decide_eq_false (by omega)
    rw [h0]
    refine WQ_retI rfl rfl ?_
    exact ⟨_, iC, rfl, rfl⟩
  · obtain rfl : i = l.length := by omega
    rw [List.take_length] at hc ⊢
    have h0 : nOk l = true := by unfold nOk; exact decide_eq_true (by omega)
    rw [h0]
    refine WQ_retI rfl rfl ?_
    exact ⟨_, iC, rfl, rfl⟩

set_option maxHeartbeats 4000000 in
theorem dsizes_n (v : Value) (d : List UInt8) (L : List Chunk) (h : Rs L 1 v d.length (bsv d)) (hl : d.length ≤ 140737488355328) :
    Gv Try.prog 18 [v].toArray L (fun r L' => ∃ v1, r = .tuple #[.int .i64 (szF d : Int), .int .i64 (szT d : Int), v1, .int .i64 (szE d : Int)] ∧ Rs L 1 v1 (szD d).length (bsv (szD d)) ∧ L' = L) := by
  refine Gv.of_body (args := [v]) Try.func18 rfl rfl ?_
  have hR := szR_len d
  have hA := szA_len d
  have hA2 := szA_len (szR d)
  have hl1 := ctN_le d
  have hl2 := ctN_le (szR d)
  (repeat' first|refine kW ?_|refine kU fun bk=>?_|refine kV fun hc=>?_|refine kZ (fun hc=>?_) fun hc=>?_|fail)
  refine OW_call rfl rfl rfl (dcut_n v d L h hl) rfl (fun r L' hp => ?_)
  obtain ⟨v1, v2, rfl, g1, g2, rfl⟩ := hp
  (repeat' first|refine kW ?_|refine kU fun bk=>?_|refine kV fun hc=>?_|refine kZ (fun hc=>?_) fun hc=>?_|fail)
  refine OW_call rfl rfl rfl (dcut_n v2 (szR d) L' g2 (by omega)) rfl (fun r L'' hp => ?_)
  obtain ⟨v3, v4, rfl, g3, g4, rfl⟩ := hp
  obtain ⟨a1, c1, rfl⟩ := rs_val g1
  obtain ⟨a3, c3, rfl⟩ := rs_val g3
  obtain ⟨a4, c4, rfl⟩ := rs_val g4
  have w1 := value_n _ (szA d) L'' g1.sl (by omega)
  have w2 := value_n _ (szA (szR d)) L'' g3.sl (by omega)
  by_cases h1 : ctN d = 0
  · have he : szE d = 4 := by unfold szE; rw [if_pos (.inl h1)]
    unfold szF szT szD
    rw [he]
    rw [hA, h1]
    (repeat' first|refine kW ?_|refine kU fun bk=>?_|refine kV fun hc=>?_|refine kZ (fun hc=>?_) fun hc=>?_|fail)
    refine kR ?_
    exact ⟨_, iC, _, rfl, Rs.nil, rfl⟩
  by_cases h2 : ctN (szR d) = 0
  · have he : szE d = 4 := by unfold szE; rw [if_pos (.inr h2)]
    unfold szF szT szD
    rw [he, hA2, h2]
    (repeat' first|refine kW ?_|refine kU fun bk=>?_|refine kV fun hc=>?_|refine kZ (fun hc=>?_) fun hc=>?_|fail)
    refine kR ?_
    exact ⟨_, iC, _, rfl, Rs.nil, rfl⟩
  have he : szE d = if nOk (szA d) = true ∧ nOk (szA (szR d)) = true then 0 else 3 := by unfold szE; rw [if_neg (by omega)]
  unfold szF szT szD
  (repeat' first|refine kW ?_|refine kU fun bk=>?_|refine kV fun hc=>?_|refine kZ (fun hc=>?_) fun hc=>?_|fail)
  refine OW_callP rfl rfl rfl w1 rfl ?_
  cases hn1 : nOk (szA d)
  · rw [hn1] at he
    rw [he]
    (repeat' first|refine kW ?_|refine kU fun bk=>?_|refine kV fun hc=>?_|refine kZ (fun hc=>?_) fun hc=>?_|fail)
    refine kR ?_
    exact ⟨_, iC, _, rfl, Rs.nil, rfl⟩
  (repeat' first|refine kW ?_|refine kU fun bk=>?_|refine kV fun hc=>?_|refine kZ (fun hc=>?_) fun hc=>?_|fail)
  refine OW_callP rfl rfl rfl w2 rfl ?_
  cases hn2 : nOk (szA (szR d))
  · rw [hn1, hn2] at he
    rw [he]
    (repeat' first|refine kW ?_|refine kU fun bk=>?_|refine kV fun hc=>?_|refine kZ (fun hc=>?_) fun hc=>?_|fail)
    refine kR ?_
    exact ⟨_, iC, _, rfl, Rs.nil, rfl⟩
  rw [hn1, hn2] at he
  rw [he]
  (repeat' first|refine kW ?_|refine kU fun bk=>?_|refine kV fun hc=>?_|refine kZ (fun hc=>?_) fun hc=>?_|fail)
  refine kR ?_
  exact ⟨_, iC, _, rfl, g4, rfl⟩
theorem Sizes_n (v : Value) (d : List UInt8) (L : List Chunk) (h : Rs L 1 v d.length (bsv d)) (hl : d.length ≤ 140737488355328) :
    GvP Try.prog 8 [v].toArray L (.tuple #[.int .i64 (szF d : Int), .int .i64 (szT d : Int), .int .i64 (szE d : Int)]) := by
  refine Gv.of_body (args := [v]) Try.func8 rfl rfl ?_
  (repeat' first|refine kW ?_|refine kU fun bk=>?_|refine kV fun hc=>?_|refine kZ (fun hc=>?_) fun hc=>?_|fail)
  refine OW_call rfl rfl rfl (dsizes_n v d L h hl) rfl (fun r L' hp => ?_)
  obtain ⟨v1, rfl, g1, rfl⟩ := hp
  (repeat' first|refine kW ?_|refine kU fun bk=>?_|refine kV fun hc=>?_|refine kZ (fun hc=>?_) fun hc=>?_|fail)
  exact kE
end Go.Proofs.Ytckelgpocplplaa
