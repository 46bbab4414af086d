/- Package delta: a block's number, what two texts share. It proves no statement by itself. No conditions. -/
import Derived.Test.YtckelgpocplplaaRy
namespace Go.Proofs.Ytckelgpocplplaa
open Go Go.Vx Go.Dl
variable [W0]
set_option maxRecDepth 4000
set_option linter.all false
set_option maxHeartbeats 4000000 in
theorem blocknum_n (v : Value) (t : List UInt8) (L0 L : List Chunk) (h : Rs L0 1 v t.length (bsv t)) (hi : ∀ x ∈ L0.flatten, x ∈ L.flatten) (h8 : 8 ≤ t.length) :
    GvP Try.prog 40 [v].toArray L (.int .u64 ((bnN (t.take 8) : Nat) : Int)) := by
  refine Gv.of_body (args := [v]) Try.func40 rfl rfl ?_
  obtain ⟨r, q1, e1⟩ := rs_cut (P := Try.prog) (T := 23) h (l := 0) (h := 8) (Nat.zero_le _) h8
  obtain ⟨xs, hxs⟩ : ∃ xs, xs = t.take 8 := ⟨_, rfl⟩
  rw [List.drop_zero, Nat.sub_zero, ← hxs] at q1
  have hxl : xs.length = 8 := by rw [hxs, List.length_take]; omega
  rw [← hxs]
  obtain ⟨va, vc, rfl⟩ := rs_val h
  obtain ⟨ra, rc, rfl⟩ := rs_val q1
  rw [hxl] at e1
  (repeat' first|refine kW ?_|refine kU fun bk=>?_|refine kV fun hc=>?_|refine kZ (fun hc=>?_) fun hc=>?_|fail)
  refine OW_EV (e1 rfl rfl rfl) rfl ?_
  (repeat' first|refine kW ?_|refine kU fun bk=>?_|refine kV fun hc=>?_|refine kZ (fun hc=>?_) fun hc=>?_|fail)
  refine WC_loop (X := Nat) (fun i => [(3, .int .u64 ((bnN (xs.take i) : Nat) : Int)), (7, .slice ra 8 rc), (8, .int .i64 8), (9, .int .i64 (i : Int))]) (fun _ => L)
    (fun i => i ≤ 8) (fun i => 8 - i) 0 (Nat.zero_le _) iS (fun w h => h) ?_
  intro i hi8
  (repeat' first|refine kW ?_|refine kU fun bk=>?_|refine kV fun hc=>?_|refine kZ (fun hc=>?_) fun hc=>?_|fail)
  · have hlt : i < xs.length := by omega
    obtain ⟨b, off, cap, cc, T, fr, hve, hfn, hcell⟩ := sl_at (sl_sub hi q1.sl) (bsv_get hlt)
    injection hve with q4 q5 q6
    subst q4 q6
    have hx := (xs[i]).toNat_lt
    have hb := bnN_lt (xs.take i)
    rw [List.length_take, Nat.min_eq_left (by omega)] at hb
    have hp : 2 ^ (8 * i) ≤ 2 ^ 56 := Nat.pow_le_pow_right (by decide) (by omega)
    have hs : bnN (xs.take (i + 1)) = bnN (xs.take i) * 2 ^ 8 + (xs[i]).toNat := by
      rw [List.take_add_one, List.getElem?_eq_getElem hlt]
      exact bnN_snoc _ _
    refine OW_EV (EV_indexAddr (j := i) rfl rfl rfl (by omega)) rfl ?_
    (repeat' first|refine kW ?_|refine kU fun bk=>?_|refine kV fun hc=>?_|refine kZ (fun hc=>?_) fun hc=>?_|fail)
    refine OW_EV (EV_load rfl hfn hcell) rfl ?_
    (repeat' first|refine kW ?_|refine kU fun bk=>?_|refine kV fun hc=>?_|refine kZ (fun hc=>?_) fun hc=>?_|fail)
    refine OW_EV (EV_nshl (k := .u64) (bnN (xs.take i)) 8 rfl rfl rfl rfl rfl (by simp only [IntKind.bits]; omega)) rfl ?_
    (repeat' first|refine kW ?_|refine kU fun bk=>?_|refine kV fun hc=>?_|refine kZ (fun hc=>?_) fun hc=>?_|fail)
    refine OW_EV (EV_nor' (k := .u64) (xs[i]).toNat (bnN (xs.take i)) 8 rfl rfl rfl rfl rfl (by omega) (by simp only [IntKind.bits]; omega)) rfl ?_
    rw [show (xs[i]).toNat + bnN (xs.take i) * 2 ^ 8 = bnN (xs.take (i + 1)) from by rw [hs, Nat.add_comm]]
    (repeat' first|refine kW ?_|refine kU fun bk=>?_|refine kV fun hc=>?_|refine kZ (fun hc=>?_) fun hc=>?_|fail)
    refine WQ_round (X := Nat) (μ := fun i => 8 - i) (x := i) (i + 1) (by omega) (by omega) iS (fun w h => h)
  · obtain rfl : i = 8 := by omega
    rw [List.take_of_length_le (by omega)]
    exact kE
theorem cm_step {a b : List UInt8} {n : Nat} (h1 : n < a.length) (h2 : n < b.length) : cm (a.drop n) (b.drop n) = if a[n] = b[n] then cm (a.drop (n + 1)) (b.drop (n + 1)) + 1 else 0 := by
  rw [List.drop_eq_getElem_cons h1, List.drop_eq_getElem_cons h2, cm]
theorem cm_end {a b : List UInt8} {n : Nat} (h : a.length ≤ n ∨ b.length ≤ n) : cm (a.drop n) (b.drop n) = 0 := by
  rcases h with h | h
  · rw [List.drop_of_length_le h, cm_nil]
  · rw [List.drop_of_length_le h, cm_nil']
set_option maxHeartbeats 4000000 in
theorem dcommon_n (va vb : Value) (a b : List UInt8) (L : List Chunk) (ha : Sl L 1 va a.length (bsv a)) (hb : Sl L 1 vb b.length (bsv b)) (hal : a.length ≤ 140737488355328) (hbl : b.length ≤ 140737488355328) :
    GvP Try.prog 15 [va, vb].toArray L (.int .i64 ((cm a b : Nat) : Int)) := by
  refine Gv.of_body (args := [va, vb]) Try.func15 rfl rfl ?_
  obtain ⟨aa, ac, rfl⟩ := sl_slice ha
  obtain ⟨ba, bc, rfl⟩ := sl_slice hb
  (repeat' first|refine kW ?_|refine kU fun bk=>?_|refine kV fun hc=>?_|refine kZ (fun hc=>?_) fun hc=>?_|fail)
  refine WC_loop (X := Nat) (fun n => [(0, .slice aa a.length ac), (1, .slice ba b.length bc), (5, .int .i64 (n : Int))]) (fun _ => L)
    (fun n => n ≤ a.length ∧ cm a b = n + cm (a.drop n) (b.drop n)) (fun n => a.length - n) 0 ⟨Nat.zero_le _, by simp⟩ iS (fun w h => h) ?_
  rintro n ⟨hn, hc0⟩
  (repeat' first|refine kW ?_|refine kU fun bk=>?_|refine kV fun hc=>?_|refine kZ (fun hc=>?_) fun hc=>?_|fail)
  by_cases hlt : n < a.length ∧ n < b.length
  · obtain ⟨h1, h2⟩ := hlt
    rw [cm_step h1 h2] at hc0
    obtain ⟨b1, off1, cap1, cc1, T1, fr1, hv1, hf1, hg1⟩ := sl_at ha (bsv_get h1)
    obtain ⟨b2, off2, cap2, cc2, T2, fr2, hv2, hf2, hg2⟩ := sl_at hb (bsv_get h2)
    injection hv1 with q1 q2 q3
    injection hv2 with q4 q5 q6
    subst q1 q3 q4 q6
    refine WC_drawAll [] mixed ?_
    (refine WR_t 0 ?_; refine WR_t 1 ?_; refine WR_t 2 ?_; refine WR_t 3 ?_; refine WR_t 4 ?_; refine WR_t 5 ?_; refine WR_t 6 ?_)
    rw [show decide ((n : Int) < min (a.length : Int) (b.length : Int)) = true from decide_eq_true (by omega)]
    (refine WR_t 7 ?_)
    (refine WR_u 8 ?_; refine WR_u 9 ?_)
    (refine WR_takeOn 10 rfl rfl rfl (by kernel_rfl) iP iC (EV_indexAddr (j := n) rfl rfl rfl h1) (by rfl) ?_)
    (refine WR_takeOn 11 rfl rfl rfl (by kernel_rfl) iP iC (EV_load rfl hf1 hg1) (by rfl) ?_)
    (refine WR_u 12 ?_; refine WR_u 13 ?_)
    (refine WR_takeOn 14 rfl rfl rfl (by kernel_rfl) iP iC (EV_indexAddr (j := n) rfl rfl rfl h2) (by rfl) ?_)
    (refine WR_takeOn 15 rfl rfl rfl (by kernel_rfl) iP iC (EV_load rfl hf2 hg2) (by rfl) ?_)
    (refine WR_u 16 ?_)
    by_cases hx : a[n] = b[n]
    · rw [show (((a[n]).toNat : Int) == ((b[n]).toNat : Int)) = true from by rw [hx]; simp]
      rw [if_pos hx] at hc0
      (refine WR_t 17 ?_)
      (refine WR_done (by kernel_rfl) ?_)
      (repeat' first|refine kW ?_|refine kU fun bk=>?_|refine kV fun hc=>?_|refine kZ (fun hc=>?_) fun hc=>?_|fail)
      refine WQ_round (X := Nat) (μ := fun n => a.length - n) (x := n) (n + 1) (by omega) ⟨by omega, by omega⟩ iS (fun w h => h)
    · have hx2 : ¬ (((a[n]).toNat : Int) = ((b[n]).toNat : Int)) := fun h => hx (UInt8.toNat_inj.1 (by omega))
      rw [show (((a[n]).toNat : Int) == ((b[n]).toNat : Int)) = false from by simpa using hx2]
      rw [if_neg hx] at hc0
      (refine WR_t 17 ?_)
      (refine WR_done (by kernel_rfl) ?_)
      (repeat' first|refine kW ?_|refine kU fun bk=>?_|refine kV fun hc=>?_|refine kZ (fun hc=>?_) fun hc=>?_|fail)
      rw [hc0]
      exact kE
  · rw [cm_end (by omega)] at hc0
    refine WC_drawAll [] mixed ?_
    (refine WR_t 0 ?_; refine WR_t 1 ?_; refine WR_t 2 ?_; refine WR_t 3 ?_; refine WR_t 4 ?_; refine WR_t 5 ?_; refine WR_t 6 ?_)
    rw [show decide ((n : Int) < min (a.length : Int) (b.length : Int)) = false from decide_eq_false (by omega)]
    (refine WR_t 7 ?_)
    (refine WR_v 8 ?_; refine WR_v 9 ?_; refine WR_v 10 ?_; refine WR_v 11 ?_; refine WR_v 12 ?_; refine WR_v 13 ?_; refine WR_v 14 ?_; refine WR_v 15 ?_; refine WR_v 16 ?_)
    (refine WR_t 17 ?_)
    (refine WR_done (by kernel_rfl) ?_)
    (repeat' first|refine kW ?_|refine kU fun bk=>?_|refine kV fun hc=>?_|refine kZ (fun hc=>?_) fun hc=>?_|fail)
    rw [hc0]
    exact kE
theorem rev_get {a : List UInt8} {n : Nat} (h : n < a.length) (h' : n < a.reverse.length) : a.reverse[n] = a[a.length - n - 1]'(by omega) := by
  rw [List.getElem_reverse]
  congr 1
  omega
set_option maxHeartbeats 4000000 in
theorem commonend_n (va vb : Value) (a b : List UInt8) (L : List Chunk) (ha : Sl L 1 va a.length (bsv a)) (hb : Sl L 1 vb b.length (bsv b)) (hal : a.length ≤ 140737488355328) (hbl : b.length ≤ 140737488355328) :
    GvP Try.prog 16 [va, vb].toArray L (.int .i64 ((cm a.reverse b.reverse : Nat) : Int)) := by
  refine Gv.of_body (args := [va, vb]) Try.func16 rfl rfl ?_
  obtain ⟨aa, ac, rfl⟩ := sl_slice ha
  obtain ⟨ba, bc, rfl⟩ := sl_slice hb
  (repeat' first|refine kW ?_|refine kU fun bk=>?_|refine kV fun hc=>?_|refine kZ (fun hc=>?_) fun hc=>?_|fail)
  refine WC_loop (X := Nat) (fun n => [(0, .slice aa a.length ac), (1, .slice ba b.length bc), (5, .int .i64 (n : Int))]) (fun _ => L)
    (fun n => n ≤ a.length ∧ cm a.reverse b.reverse = n + cm (a.reverse.drop n) (b.reverse.drop n)) (fun n => a.length - n) 0 ⟨Nat.zero_le _, by simp⟩ iS (fun w h => h) ?_
  rintro n ⟨hn, hc0⟩
  (repeat' first|refine kW ?_|refine kU fun bk=>?_|refine kV fun hc=>?_|refine kZ (fun hc=>?_) fun hc=>?_|fail)
  by_cases hlt : n < a.length ∧ n < b.length
  · obtain ⟨h1, h2⟩ := hlt
    rw [cm_step (by simpa using h1) (by simpa using h2), rev_get h1, rev_get h2] at hc0
    have h3 : a.length - n - 1 < a.length := by omega
    have h4 : b.length - n - 1 < b.length := by omega
    obtain ⟨b1, off1, cap1, cc1, T1, fr1, hv1, hf1, hg1⟩ := sl_at ha (bsv_get h3)
    obtain ⟨b2, off2, cap2, cc2, T2, fr2, hv2, hf2, hg2⟩ := sl_at hb (bsv_get h4)
    injection hv1 with q1 q2 q3
    injection hv2 with q4 q5 q6
    subst q1 q3 q4 q6
    refine WC_drawAll [] mixed ?_
    (refine WR_t 0 ?_; refine WR_t 1 ?_; refine WR_t 2 ?_; refine WR_t 3 ?_; refine WR_t 4 ?_; refine WR_t 5 ?_; refine WR_t 6 ?_)
    rw [show decide ((n : Int) < min (a.length : Int) (b.length : Int)) = true from decide_eq_true (by omega)]
    (refine WR_t 7 ?_)
    (refine WR_u 8 ?_; refine WR_u 9 ?_; refine WR_u 10 ?_; refine WR_u 11 ?_; refine WR_u 12 ?_; refine WR_u 13 ?_)
    (refine WR_takeOn 14 rfl rfl rfl (by kernel_rfl) iP iC (EV_indexAddr (j := a.length - n - 1) rfl rfl (by omega) h3) (by rfl) ?_)
    (refine WR_takeOn 15 rfl rfl rfl (by kernel_rfl) iP iC (EV_load rfl hf1 hg1) (by rfl) ?_)
    (refine WR_u 16 ?_; refine WR_u 17 ?_; refine WR_u 18 ?_; refine WR_u 19 ?_; refine WR_u 20 ?_; refine WR_u 21 ?_)
    (refine WR_takeOn 22 rfl rfl rfl (by kernel_rfl) iP iC (EV_indexAddr (j := b.length - n - 1) rfl rfl (by omega) h4) (by rfl) ?_)
    (refine WR_takeOn 23 rfl rfl rfl (by kernel_rfl) iP iC (EV_load rfl hf2 hg2) (by rfl) ?_)
    (refine WR_u 24 ?_)
    by_cases hx : a[a.length - n - 1] = b[b.length - n - 1]
    · rw [show (((a[a.length - n - 1]).toNat : Int) == ((b[b.length - n - 1]).toNat : Int)) = true from by rw [hx]; simp]
      rw [if_pos hx] at hc0
      (refine WR_t 25 ?_)
      (refine WR_done (by kernel_rfl) ?_)
      (repeat' first|refine kW ?_|refine kU fun bk=>?_|refine kV fun hc=>?_|refine kZ (fun hc=>?_) fun hc=>?_|fail)
      refine WQ_round (X := Nat) (μ := fun n => a.length - n) (x := n) (n + 1) (by omega) ⟨by omega, by omega⟩ iS (fun w h => h)
    · have hx2 : ¬ (((a[a.length - n - 1]).toNat : Int) = ((b[b.length - n - 1]).toNat : Int)) := fun h => hx (UInt8.toNat_inj.1 (by omega))
      rw [show (((a[a.length - n - 1]).toNat : Int) == ((b[b.length - n - 1]).toNat : Int)) = false from by simpa using hx2]
      rw [if_neg hx] at hc0
      (refine WR_t 25 ?_)
      (refine WR_done (by kernel_rfl) ?_)
      (repeat' first|refine kW ?_|refine kU fun bk=>?_|refine kV fun hc=>?_|refine kZ (fun hc=>?_) fun hc=>?_|fail)
      rw [hc0]
      exact kE
  · rw [cm_end (by simp; omega)] at hc0
    refine WC_drawAll [] mixed ?_
    (refine WR_t 0 ?_; refine WR_t 1 ?_; refine WR_t 2 ?_; refine WR_t 3 ?_; refine WR_t 4 ?_; refine WR_t 5 ?_; refine WR_t 6 ?_)
    rw [show decide ((n : Int) < min (a.length : Int) (b.length : Int)) = false from decide_eq_false (by omega)]
    (refine WR_t 7 ?_)
    (refine WR_v 8 ?_; refine WR_v 9 ?_; refine WR_v 10 ?_; refine WR_v 11 ?_; refine WR_v 12 ?_; refine WR_v 13 ?_; refine WR_v 14 ?_; refine WR_v 15 ?_; refine WR_v 16 ?_; refine WR_v 17 ?_; refine WR_v 18 ?_; refine WR_v 19 ?_; refine WR_v 20 ?_; refine WR_v 21 ?_; refine WR_v 22 ?_; refine WR_v 23 ?_; refine WR_v 24 ?_)
    (refine WR_t 25 ?_)
    (refine WR_done (by kernel_rfl) ?_)
    (repeat' first|refine kW ?_|refine kU fun bk=>?_|refine kV fun hc=>?_|refine kZ (fun hc=>?_) fun hc=>?_|fail)
    rw [hc0]
    exact kE
end Go.Proofs.Ytckelgpocplplaa
