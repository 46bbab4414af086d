/- HuffFlat returns true and leaves its arguments as they were, for every argument that the row takes. No conditions beyond the row's. -/
import Derived.Test.YtbdpjbmfhnbheaaPF2
namespace Go.Proofs.Ytbdpjbmfhnbheaa
open Go Go.Vx Go.So Go.Hf
variable [W0]
set_option maxRecDepth 4000
set_option linter.all false
theorem tm_range (x : Int) : ∃ n : Nat, n < 300 ∧ (x.tmod 300 + 300).tmod 300 = (n : Int) := by
  have h1 : -300 < x.tmod 300 ∧ x.tmod 300 < 300 := ⟨Int.lt_tmod_of_pos x (by decide), Int.tmod_lt_of_pos x (by decide)⟩
  have h2 : (x.tmod 300 + 300).tmod 300 = (x.tmod 300 + 300) % 300 := Int.tmod_eq_emod_of_nonneg (by omega)
  refine ⟨((x.tmod 300 + 300) % 300).toNat, by omega, by omega⟩
omit [W0] in
def blV (bs : List Bool) : List Value := bs.map Value.bool
theorem blV_get {bs : List Bool} {i : Nat} (h : i < bs.length) : (blV bs)[i]? = some (.bool (bs.getD i false)) := by simp [blV, List.getD, h]
set_option maxHeartbeats 16000000 in
theorem flatL_n (x y : Int) (a : Option Addr) (c : Nat) (bs : List Bool) (L : List Chunk) (h : Sl L 1 (.slice a bs.length c) bs.length (blV bs)) (hx : -9223372036854775808 ≤ x ∧ x ≤ 9223372036854775807) :
    GvP Try.prog 3 [.int .i64 x, .int .i64 y, .slice a bs.length c].toArray L (.bool true) := by
  refine Gv.of_body Try.func3 rfl rfl ?_
  have htm : -300 < x.tmod 300 ∧ x.tmod 300 < 300 := ⟨Int.lt_tmod_of_pos x (by decide), Int.tmod_lt_of_pos x (by decide)⟩
  obtain ⟨n, hn, hne⟩ := tm_range x
  (repeat' first|refine kW ?_|refine kU fun bk=>?_|refine kV fun hc=>?_|refine kZ (fun hc=>?_) fun hc=>?_|fail)
  refine OW_EV (EV_rem rfl rfl (by decide)) rfl ?_
  (repeat' first|refine kW ?_|refine kU fun bk=>?_|refine kV fun hc=>?_|refine kZ (fun hc=>?_) fun hc=>?_|fail)
  refine OW_EV (EV_rem rfl rfl (by decide)) rfl ?_
  (repeat' first|refine kW ?_|refine kU fun bk=>?_|refine kV fun hc=>?_|refine kZ (fun hc=>?_) fun hc=>?_|fail)
  refine OW_EV (EV_mask (p := 1048576) rfl rfl (by rfl)) rfl ?_
  have hym : 0 ≤ y % 1048576 ∧ y % 1048576 < 1048576 := by omega
  obtain ⟨k, hk, hke⟩ : ∃ k : Nat, (1 ≤ k ∧ k ≤ 1048576) ∧ y % 1048576 + 1 = (k : Int) := ⟨(y % 1048576 + 1).toNat, by omega, by omega⟩
  (repeat' first|refine kW ?_|refine kU fun bk=>?_|refine kV fun hc=>?_|refine kZ (fun hc=>?_) fun hc=>?_|fail)
  rw [hne, hke]
  refine WC_loop (X := Nat × Value × Chunk) (fun x => [(0, .int .i64 (n : Int)), (1, .int .i64 (k : Int)), (2, .slice a bs.length c), (7, x.2.1), (8, .int .i64 (sm (clF bs k x.1) : Int)), (9, .int .i64 (x.1 : Int))]) (fun x => x.2.2 :: L)
    (fun x => x.1 ≤ n ∧ Ow 3 1 x.2.1 x.1 (ivn (clF bs k x.1)) x.2.2) (fun x => n - x.1) (0, .slice none 0 0, []) ⟨Nat.zero_le _, .inl ⟨rfl, rfl, rfl, rfl⟩⟩ iS (fun w h => Holds.nil.2 h) ?_
  rintro ⟨i, v, C⟩ ⟨hi, ho⟩
  simp only at hi ho ⊢
  have hsl := sm_le (clF bs k i)
  rw [clF_length] at hsl
  have hst := clF_step bs k i
  have hon : bs.getD i false = false → ivn (clF bs k i) ++ [Value.int .i64 (k : Int)] = ivn (clF bs k (i + 1)) ∧ sm (clF bs k (i + 1)) = sm (clF bs k i) + 1 := by
    intro hb
    have e : cF bs k i = k := by unfold cF; rw [hb]; rfl
    rw [hst, e, sm_on _ hk.1]
    exact ⟨by simp [ivn], rfl⟩
  have hoff : bs.getD i false = true → ivn (clF bs k i) ++ [Value.int .i64 0] = ivn (clF bs k (i + 1)) ∧ sm (clF bs k (i + 1)) = sm (clF bs k i) := by
    intro hb
    have e : cF bs k i = 0 := by unfold cF; rw [hb]; rfl
    rw [hst, e, sm_off]
    exact ⟨by simp [ivn], rfl⟩
  (repeat' first|refine kW ?_|refine kU fun bk=>?_|refine kV fun hc=>?_|refine kZ (fun hc=>?_) fun hc=>?_|fail)
  · have hlt : i < bs.length := by omega
    obtain ⟨b, off, cap, cc, T, fr, hve, hfn, hcell⟩ := sl_at h (blV_get hlt)
    injection hve with q1 q2 q3
    subst q1 q3
    clear q2
    refine OW_EV (EV_indexAddr (j := i) rfl rfl rfl hlt) rfl ?_
    (repeat' first|refine kW ?_|refine kU fun bk=>?_|refine kV fun hc=>?_|refine kZ (fun hc=>?_) fun hc=>?_|fail)
    refine OW_EV (EV_load rfl hfn.there hcell) rfl ?_
    (repeat' first|refine kW ?_|refine kU fun bk=>?_|refine kV fun hc=>?_|refine kZ (fun hc=>?_) fun hc=>?_|fail)
    · have hb : bs.getD i false = true := hc
      refine OW_buildSlice (cs := [.int .i64 0]) rfl (by rfl) (by first | (simp [fillL, patch, Value.cells, zeros]; done) | (simp [fillL, patch, Value.cells, zeros]; rfl)) (by omega) rfl rfl (fun bn => ?_)
      (repeat' first|refine kW ?_|refine kU fun bk=>?_|refine kV fun hc=>?_|refine kZ (fun hc=>?_) fun hc=>?_|fail)
      refine OW_append rfl rfl ho (sl_cells (k := 1) (c := #[.int .i64 0]) (xs := [.int .i64 0]) (m := 1) Fnd.here rfl (by simp)) (by repeat (first | exact Zip.here _ | apply Zip.there)) rfl (by rfl) (by omega) (by simp [maxLen]; omega) rfl (fun v' C' ho' _ _ => ?_)
      (repeat' first|refine kW ?_|refine kU fun bk=>?_|refine kV fun hc=>?_|refine kZ (fun hc=>?_) fun hc=>?_|fail)
      refine WQ_round (X := Nat × Value × Chunk) (μ := fun x => n - x.1) (x := (i, v, C)) (i + 1, v', C') (by simp only; omega) ⟨by simp only; omega, by simp only; rw [← (hoff hb).1]; exact ho'⟩ ?_ (fun w h => h.drop)
      simp only [(hoff hb).2]
      exact iS
    · have hb : bs.getD i false = false := by simpa using hc
      refine OW_buildSlice (cs := [.int .i64 (k : Int)]) rfl (by rfl) (by first | (simp [fillL, patch, Value.cells, zeros]; done) | (simp [fillL, patch, Value.cells, zeros]; rfl)) (by omega) rfl rfl (fun bn => ?_)
      (repeat' first|refine kW ?_|refine kU fun bk=>?_|refine kV fun hc=>?_|refine kZ (fun hc=>?_) fun hc=>?_|fail)
      refine OW_append rfl rfl ho (sl_cells (k := 1) (c := #[.int .i64 (k : Int)]) (xs := [.int .i64 (k : Int)]) (m := 1) Fnd.here rfl (by simp)) (by repeat (first | exact Zip.here _ | apply Zip.there)) rfl (by rfl) (by omega) (by simp [maxLen]; omega) rfl (fun v' C' ho' _ _ => ?_)
      (repeat' first|refine kW ?_|refine kU fun bk=>?_|refine kV fun hc=>?_|refine kZ (fun hc=>?_) fun hc=>?_|fail)
      refine WQ_round (X := Nat × Value × Chunk) (μ := fun x => n - x.1) (x := (i, v, C)) (i + 1, v', C') (by simp only; omega) ⟨by simp only; omega, by simp only; rw [← (hon hb).1]; exact ho'⟩ ?_ (fun w h => h.drop)
      simp only [(hon hb).2]
      exact iS
  · have hb : bs.getD i false = false := by simp [List.getD, List.getElem?_eq_none (show bs.length ≤ i by omega)]
    refine OW_buildSlice (cs := [.int .i64 (k : Int)]) rfl (by rfl) (by first | (simp [fillL, patch, Value.cells, zeros]; done) | (simp [fillL, patch, Value.cells, zeros]; rfl)) (by omega) rfl rfl (fun bn => ?_)
    (repeat' first|refine kW ?_|refine kU fun bk=>?_|refine kV fun hc=>?_|refine kZ (fun hc=>?_) fun hc=>?_|fail)
    refine OW_append rfl rfl ho (sl_cells (k := 1) (c := #[.int .i64 (k : Int)]) (xs := [.int .i64 (k : Int)]) (m := 1) Fnd.here rfl (by simp)) (by repeat (first | exact Zip.here _ | apply Zip.there)) rfl (by rfl) (by omega) (by simp [maxLen]; omega) rfl (fun v' C' ho' _ _ => ?_)
    (repeat' first|refine kW ?_|refine kU fun bk=>?_|refine kV fun hc=>?_|refine kZ (fun hc=>?_) fun hc=>?_|fail)
    refine WQ_round (X := Nat × Value × Chunk) (μ := fun x => n - x.1) (x := (i, v, C)) (i + 1, v', C') (by simp only; omega) ⟨by simp only; omega, by simp only; rw [← (hon hb).1]; exact ho'⟩ ?_ (fun w h => h.drop)
    simp only [(hon hb).2]
    exact iS
  · have hie : i = n := by omega
    subst hie
    clear hi
    obtain ⟨va, vc, rfl⟩ := ow_slc ho
    obtain ⟨cs, hcs⟩ : ∃ cs, cs = clF bs k i := ⟨_, rfl⟩
    have hcl : cs.length = i := by rw [hcs, clF_length]
    have hil : (icn cs).length = i := by rw [icn_length, hcl]
    have hnl : nl (icn cs) = cs := by simp [nl, icn, Function.comp_def]
    have hcsv : ∀ j, cs.getD j 0 = 0 ∨ cs.getD j 0 = k := by
      intro j
      rcases Nat.lt_or_ge j i with h1 | h1
      · rw [hcs, clF_getD _ _ h1]
        unfold cF
        split
        · exact .inl rfl
        · exact .inr rfl
      · exact .inl (by simp [List.getD, List.getElem?_eq_none (show cs.length ≤ j by omega)])
    rw [← hcs] at ho hsl ⊢
    have hL := lengths_n va vc (icn cs) 15 (C :: L) (by
      rw [hil, show intsN (icn cs) = ivn cs from by simp [intsN, icn, ivn]]; exact ow_sl ho) (by omega)
    rw [hil] at hL
    refine OW_call rfl rfl rfl hL rfl (fun r L' hp => ?_)
    rcases hp with ⟨he, _⟩ | ⟨_, lens, v2, C2, rfl, rfl, ho2, hlo⟩
    · exfalso
      rcases he with h1 | h1 | h1 | h1 | h1
      · omega
      · omega
      · omega
      · rw [← Bool.not_eq_true, List.all_eq_true] at h1
        refine h1 fun x hx => ?_
        obtain ⟨y, hy, rfl⟩ := List.mem_map.1 hx
        obtain ⟨j, hj, rfl⟩ := List.getElem_of_mem hy
        have h3 := hcsv j
        have e3 : cs.getD j 0 = cs[j] := by simp [List.getD, hj]
        rw [okc_iff]
        omega
      · unfold nC at h1
        have := pos_le (nl (icn cs)) (icn cs).length
        rw [show (15 : Int).toNat = 15 from rfl] at h1
        omega
    rw [hnl] at hlo
    have hlo : LenOf cs 15 lens := hlo
    obtain ⟨v2a, v2c, rfl⟩ := ow_slc ho2
    obtain ⟨K, ha1, ha2, ha3, ha4⟩ := hlo.alike hk.1 hcsv
    have hsm : sm cs = (Go.Hf.pos cs cs.length).length := hlo.nC
    rw [← hsm] at ha2 ha3 ha4
    rw [hcl] at ha1 ha3 ha4
    have hpos := fun j (hj : j < i) => hlo.pos (i := j) (by omega)
    have hle := hlo.le
    obtain ⟨N, hN⟩ : ∃ N, N = sm cs := ⟨_, rfl⟩
    rw [← hN] at ha2 ha3 ha4 hsl hsm ⊢
    (repeat' first|refine kW ?_|refine kU fun bk=>?_|refine kV fun hc=>?_|refine kZ (fun hc=>?_) fun hc=>?_|fail)
    refine WC_loop (X := Nat × Nat × Nat) (fun x => [(0, .int .i64 (i : Int)), (7, .slice va i vc), (8, .int .i64 (N : Int)), (10, .slice v2a i v2c), (12, .int .i64 (x.2.1 : Int)), (13, .int .i64 (x.2.2 : Int)), (14, .int .i64 (x.1 : Int))]) (fun x => C2 :: C :: L)
      (fun x => x.1 ≤ i ∧ Lh lens x.1 x.2.1 x.2.2) (fun x => i - x.1) (0, 99, 0) ⟨Nat.zero_le _, ⟨fun j hj => by omega, .inl ⟨rfl, rfl⟩⟩⟩ iS (fun w h => h) ?_
    rintro ⟨j, lo, hi⟩ ⟨hj, hlh⟩
    simp only at hj hlh ⊢
    have hfin : j = i → 1 ≤ N → lo ≤ hi ∧ hi ≤ lo + 1 ∧ hi ≤ 15 ∧ (N = 1 → hi = 1) ∧ N ≤ 2 ^ hi := by
      intro e1 h1
      subst e1
      have hex : ∃ q, q < j ∧ 0 < lens.getD q 0 := by
        obtain ⟨z, hz⟩ : ∃ z, z ∈ Go.Hf.pos cs cs.length := ⟨(Go.Hf.pos cs cs.length)[0], List.getElem_mem _⟩
        have hz2 := (pos_mem cs _ z).1 hz
        exact ⟨z.1, by omega, (hpos z.1 (by omega)).2 hz2.2.1⟩
      obtain ⟨q, hq, hq0⟩ := hex
      have hq2 := hlh.all q hq hq0
      rcases hlh.at_ with ⟨g1, g2⟩ | ⟨⟨j1, g1, g2, g3⟩, j2, g4, g5, g6⟩
      · omega
      have k1 := ha1 j1 g1 ((hpos j1 g1).1 g2)
      have k2 := ha1 j2 g4 ((hpos j2 g4).1 g5)
      have k3 := hle j2
      refine ⟨by omega, by omega, by omega, fun h3 => ?_, ?_⟩
      · have := ha4 h3 j2 g4 ((hpos j2 g4).1 g5)
        omega
      · rcases k2 with k2 | k2
        · have e : hi = K := by omega
          rw [e]
          refine ha3 fun t ht ht0 => ?_
          have k4 := ha1 t ht ht0
          have k5 := hlh.all t ht ((hpos t ht).2 ht0)
          omega
        · have e : hi = K + 1 := by omega
          rw [e]
          omega
    (repeat' first|refine kW ?_|refine kU fun bk=>?_|refine kV fun hc=>?_|refine kZ (fun hc=>?_) fun hc=>?_|fail)
    · have hlt : j < i := by omega
      have hpos := hpos j hlt
      have hle := hle j
      have hsk := hlh.skip
      have hst := hlh.step
      obtain ⟨b1, c1, r1, hv1, hC1, hg1⟩ := ow_int ho hlt
      injection hv1 with e1 e2 e3
      subst e1 e3 hC1
      clear e2
      obtain ⟨b2, c2, r2, hv2, hC2, hg2⟩ := ow_int ho2 hlt
      injection hv2 with e1 e2 e3
      subst e1 e3 hC2
      clear e2
      obtain ⟨p, hp⟩ : ∃ p, p = lens.getD j 0 := ⟨_, rfl⟩
      obtain ⟨q, hq⟩ : ∃ q, q = cs.getD j 0 := ⟨_, rfl⟩
      rw [← hp] at hg2 hpos hle hsk hst
      rw [← hq] at hg1 hpos
      refine WC_drawAll [] mixed ?_
      (refine WR_t 0 ?_; refine WR_t 1 ?_)
      (refine WR_take 2 rfl rfl (by kernel_rfl) iP iC (EV_indexAddr0 (j := j) rfl rfl rfl hlt) (by rfl) ?_)
      (refine WR_take 3 rfl rfl (by kernel_rfl) iP iC (EV_load rfl (by exact Fnd.here) hg2) (by rfl) ?_)
      (refine WR_t 4 ?_; refine WR_t 5 ?_; refine WR_t 6 ?_)
      (refine WR_take 7 rfl rfl (by kernel_rfl) iP iC (EV_indexAddr0 (j := j) rfl rfl rfl hlt) (by rfl) ?_)
      (refine WR_take 8 rfl rfl (by kernel_rfl) iP iC (EV_load rfl (by exact Fnd.there Fnd.here) hg1) (by rfl) ?_)
      (refine WR_t 9 ?_)
      by_cases h0 : 0 < p
      · rw [show decide ((p : Int) > 0) = true from decide_eq_true (by omega), show decide ((q : Int) > 0) = true from decide_eq_true (by omega)]
        (refine WR_t 10 ?_)
        (refine WR_done (by kernel_rfl) ?_)
        (repeat' first|refine kW ?_|refine kU fun bk=>?_|refine kV fun hc=>?_|refine kZ (fun hc=>?_) fun hc=>?_|fail)
        refine OW_EV (EV_indexAddr0 (j := j) rfl rfl rfl hlt) rfl ?_
        (repeat' first|refine kW ?_|refine kU fun bk=>?_|refine kV fun hc=>?_|refine kZ (fun hc=>?_) fun hc=>?_|fail)
        refine OW_EV (EV_load rfl (by exact Fnd.here) hg2) rfl ?_
        (repeat' first|refine kW ?_|refine kU fun bk=>?_|refine kV fun hc=>?_|refine kZ (fun hc=>?_) fun hc=>?_|fail)
        refine WC_drawAll [] mixed ?_
        (refine WR_t 0 ?_; refine WR_t 1 ?_; refine WR_t 2 ?_)
        (refine WR_take 3 rfl rfl (by kernel_rfl) iP iC (EV_indexAddr0 (j := j) rfl rfl rfl hlt) (by rfl) ?_)
        (refine WR_take 4 rfl rfl (by kernel_rfl) iP iC (EV_load rfl (by exact Fnd.here) hg2) (by rfl) ?_)
        (refine WR_t 5 ?_; refine WR_t 6 ?_; refine WR_t 7 ?_; refine WR_t 8 ?_)
        (refine WR_take 9 rfl rfl (by kernel_rfl) iP iC (EV_indexAddr0 (j := j) rfl rfl rfl hlt) (by rfl) ?_)
        (refine WR_take 10 rfl rfl (by kernel_rfl) iP iC (EV_load rfl (by exact Fnd.here) hg2) (by rfl) ?_)
        (refine WR_t 11 ?_)
        rw [show min (lo : Int) (p : Int) = ((min lo p : Nat) : Int) from by omega, show max (hi : Int) (p : Int) = ((max hi p : Nat) : Int) from by omega]
        (refine WR_t 12 ?_; refine WR_t 13 ?_)
        (refine WR_done (by kernel_rfl) ?_)
        (repeat' first|refine kW ?_|refine kU fun bk=>?_|refine kV fun hc=>?_|refine kZ (fun hc=>?_) fun hc=>?_|fail)
        refine WQ_round (X := Nat × Nat × Nat) (μ := fun x => i - x.1) (x := (j, lo, hi)) (j + 1, min lo p, max hi p) (by simp only; omega) ⟨by simp only; omega, hst h0 hle⟩ iS (fun w h => h)
      · rw [show decide ((p : Int) > 0) = false from decide_eq_false (by omega), show decide ((q : Int) > 0) = false from decide_eq_false (by omega)]
        (refine WR_t 10 ?_)
        (refine WR_done (by kernel_rfl) ?_)
        (repeat' first|refine kW ?_|refine kU fun bk=>?_|refine kV fun hc=>?_|refine kZ (fun hc=>?_) fun hc=>?_|fail)
        refine OW_EV (EV_indexAddr0 (j := j) rfl rfl rfl hlt) rfl ?_
        (repeat' first|refine kW ?_|refine kU fun bk=>?_|refine kV fun hc=>?_|refine kZ (fun hc=>?_) fun hc=>?_|fail)
        refine OW_EV (EV_load rfl (by exact Fnd.here) hg2) rfl ?_
        (repeat' first|refine kW ?_|refine kU fun bk=>?_|refine kV fun hc=>?_|refine kZ (fun hc=>?_) fun hc=>?_|fail)
        refine WQ_round (X := Nat × Nat × Nat) (μ := fun x => i - x.1) (x := (j, lo, hi)) (j + 1, lo, hi) (by simp only; omega) ⟨by simp only; omega, hsk h0⟩ iS (fun w h => h)
    · refine OW_callP rfl rfl rfl (hawake_n _) rfl ?_
      (repeat' first|refine kW ?_|refine kU fun bk=>?_|refine kV fun hc=>?_|refine kZ (fun hc=>?_) fun hc=>?_|fail)
      refine kR ?_
      exact ⟨L, iC, rfl, rfl⟩
    · obtain ⟨f1, f2, f3, f4, f5⟩ := hfin (by omega) (by omega)
      have hp15 : 2 ^ hi ≤ 2 ^ 15 := Nat.pow_le_pow_right (by decide) f3
      clear hfin
      refine OW_EV (EV_shl64 1 hi rfl rfl rfl rfl (by omega) (by omega)) rfl ?_
      (repeat' first|refine kW ?_|refine kU fun bk=>?_|refine kV fun hc=>?_|refine kZ (fun hc=>?_) fun hc=>?_|fail)
      refine OW_callP rfl rfl rfl (hawake_n _) rfl ?_
      (repeat' first|refine kW ?_|refine kU fun bk=>?_|refine kV fun hc=>?_|refine kZ (fun hc=>?_) fun hc=>?_|fail)
      refine kR ?_
      exact ⟨L, iC, rfl, rfl⟩
    · obtain ⟨f1, f2, f3, f4, f5⟩ := hfin (by omega) (by omega)
      have hp15 : 2 ^ hi ≤ 2 ^ 15 := Nat.pow_le_pow_right (by decide) f3
      clear hfin
      refine OW_EV (EV_shl64 1 hi rfl rfl rfl rfl (by omega) (by omega)) rfl ?_
      (repeat' first|refine kW ?_|refine kU fun bk=>?_|refine kV fun hc=>?_|refine kZ (fun hc=>?_) fun hc=>?_|fail)
      refine OW_callP rfl rfl rfl (hawake_n _) rfl ?_
      (repeat' first|refine kW ?_|refine kU fun bk=>?_|refine kV fun hc=>?_|refine kZ (fun hc=>?_) fun hc=>?_|fail)
      refine kR ?_
      exact ⟨L, iC, rfl, rfl⟩
end Go.Proofs.Ytbdpjbmfhnbheaa
namespace Go.Proofs.Ytbdpjbmfhnbheaa
open Go Go.Vx Go.ChangeShapes Go.WideShapes Go.ChangeAt Go.RowKit
set_option maxRecDepth 4000
set_option linter.all false
theorem open_boolr {H : Type} {enc : TypeId × Value → H} {P : Program} {W : World} {t e : TypeId} {a : Option Addr} {len cap : Nat} {d : DataW H} {ps : List MemPlace} (ht : P.underlying t = some (.slice e)) (he : P.underlying e = some .bool) (hc : P.cellsOf e = 1)
    (h : DataW.Trod enc P W 0 (fun _ => true) true t (.slice a len cap) d ps) :
    ∃ xs : List Bool, xs.length = len ∧ Sl [blks W] 1 (.slice a len cap) len (blV xs) := by
  letI : W0 := ⟨W.os, W.output⟩
  obtain ⟨fuel, hf⟩ := h
  rcases Go.Deep.open_bools ht he hc hf with ⟨hcs, _⟩ | ⟨x, l, c, B, hcs, _, hl, hm, hx, hcell⟩
  · simp [Value.cells] at hcs
    obtain ⟨rfl, rfl, rfl⟩ := hcs
    exact ⟨[], rfl, .inl ⟨0, rfl, rfl, rfl⟩⟩
  · simp [Value.cells] at hcs
    obtain ⟨rfl, rfl, rfl⟩ := hcs
    refine ⟨(List.range len).map B, by simp, ?_⟩
    refine .inr ⟨x, cap, rfl, ?_, by simp [blV]⟩
    rcases Nat.eq_zero_or_pos len with h0 | h0
    · subst h0; exact .inl (by simp [blV])
    · have hc0 := hcell 0 (by omega)
      obtain ⟨b, off, spot⟩ := x
      have hspot : spot = none := by simpa [Addr.add] using World.cell?_spot hc0
      subst hspot
      have hblk : ∃ C T fr, W.heap[b]? = some (.cells C T fr) := by
        have : (⟨b, off, none⟩ : Addr).add 0 = ⟨b, off, none⟩ := by simp [Addr.add]
        rw [this] at hc0
        unfold World.cell? at hc0
        split at hc0
        · rename_i C T fr hb; exact ⟨C, T, fr, hb⟩
        · cases hc0
      obtain ⟨C, T, fr, hb⟩ := hblk
      refine .inr ⟨b, off, C, T, fr, rfl, by simpa [Fnd] using blks_mem.2 hb, fun j u hj => ?_⟩
      have hjl : j < len := by
        rcases Nat.lt_or_ge j len with h' | h'
        · exact h'
        · rw [List.getElem?_eq_none (by simp [blV]; omega)] at hj; simp at hj
      have hcj := hcell j (by omega)
      rw [addr_add, cell_of hb] at hcj
      rw [hcj, ← hj]
      simp [blV, List.getElem?_range hjl]
end Go.Proofs.Ytbdpjbmfhnbheaa
namespace Go.Proofs.Ytbdpjbmfhnbheaa
open Go Go.Vx Go.ChangeShapes Go.WideShapes Go.ChangeAt Go.RowKit
set_option linter.all false
set_option maxRecDepth 4000
theorem top_row (H : Type) (enc : TypeId × Value → H) (W : World) (base : Nat) (args : Array Value) (ds gs : List (DataW H)) (before : List MemPlace)
    (hval : ∀ (j : Nat) t v, Try.f3.params[j]? = some t → args[j]? = some v → Value.okWide Try.prog W .any base t v)
    (hW : DataW.Whole enc Try.prog Try.f3.params.toList Rows.huffFlatSpec.vars false W args.toList ds gs before)
    (hz : (DataW.weightsEach Try.prog (Try.f3.params.toList ++ Rows.huffFlatSpec.plain.varTypes Try.prog) (ds ++ gs)).all (· ≤ reachBytes) = true) (hL : laidMetH Try.prog [] W) :
    Calls Try.prog 3 args W fun e W' => ∃ v, e = .returned v ∧ Rows.huffFlatSpec.post enc Try.prog Try.f3 false true false false W args v W' := by
  have hW' := hW
  obtain ⟨p, q, hA0, hV, rfl, hfz, hnd⟩ := hW
  have hA : DataW.TrodAll enc Try.prog W 0 (fun _ => true) true Try.f3.params.toList args.toList ds p := hA0
  rw [Try.params3] at hA hval hz
  obtain ⟨v0, vs0, d0, ds0, p0, q0, hargs, rfl, rfl, h0, r0⟩ := trodAll_cons hA
  obtain ⟨v1, vs1, d1, ds1, p1, q1, rfl, rfl, rfl, h1, r1⟩ := trodAll_cons r0
  obtain ⟨v2, vs2, d2, ds2, p2, q2, rfl, rfl, rfl, h2, r2⟩ := trodAll_cons r1
  obtain ⟨rfl, rfl, rfl⟩ := trodAll_nil r2
  obtain rfl : args = #[v0, v1, v2] := by cases args; simp_all
  obtain ⟨rfl, rfl⟩ := trodVars_none hV
  obtain ⟨n0, rfl, rfl, rfl, w0⟩ := open_int Try.underlying3 (hval 0 _ v0 rfl rfl) h0
  obtain ⟨n1, rfl, rfl, rfl, w1⟩ := open_int Try.underlying3 (hval 1 _ v1 rfl rfl) h1
  obtain ⟨a2, l2, c2, rfl⟩ := okWide_slice Try.underlying22 (hval 2 _ v2 rfl rfl)
  obtain ⟨x2, e2, s2⟩ := open_boolr Try.underlying22 Try.underlying4 (by kernel_rfl) h2
  clear hA0
  have lt2 : ∀ x ∈ p2, x.block < W.heap.size := by obtain ⟨m, hm⟩ := h2; exact DataW.trod_lt m _ _ _ hm
  have hc : Calls Try.prog 3 #[.int .i64 n0, .int .i64 n1, .slice a2 l2 c2] W fun e W' => e = .returned (.bool true) ∧ Kept W W' := by
    refine bridge (fun {i} => ?_)
    subst e2
    exact flatL_n n0 n1 a2 c2 x2 _ s2 (i64_of_wf w0)
  refine hc.mono fun e W' ⟨he, bel⟩ => ?_
  subst he
  exact ⟨_, rfl, _, _, _, [], _, [], hW', trodAll_mk1 (shut_bool Try.underlying4 _), (trodAll_cons_mk (shut_int Try.underlying3 w0) (trodAll_cons_mk (shut_int Try.underlying3 w1) (trodAll_cons_mk (Kept.trod Try.laidOut (by kernel_rfl) (of_decide_eq_true (by kernel_rfl)) h2 bel lt2) trodAll_mk0))), rfl, bel.frame _, fun h => by cases h⟩
theorem reads (os : Os) {H : Type} (enc : TypeId × Value → H) : ∃ places, DataW.whole enc Try.prog ((World.holding Try.prog os ⟨#[], #[], []⟩).forCall (fun _ _ => 0) ⟨#[], #[.int .i64 0, .int .i64 0, .slice none 0 0], []⟩).memory Try.f3.params.toList Rows.huffFlatSpec.vars false #[.int .i64 0, .int .i64 0, .slice none 0 0].toList 8 = some ([.lit (.int .i64 0), .lit (.int .i64 0), .nil], [], places) :=
  ⟨[], by kernel_rfl⟩
set_option maxRecDepth 100000 in
theorem top_lifted (os : Os) (started : os.Started) (H : Type) (enc : TypeId × Value → H) (F : Stop.Interp) :
    ReturnsInHanded {} Try.checked os 3 .any ((OpenSpec.ofChange Rows.huffFlatSpec).preRow enc Try.prog Try.f3 Rows.huffFlatRow.domain false Rows.huffFlatRow.laid) (((OpenSpec.ofChange Rows.huffFlatSpec).at F).post enc Try.prog Try.f3 false true false false) := by
  obtain ⟨places, hx⟩ := reads os enc
  refine returnsInHanded_of_row (C := Try.checked) (s := (OpenSpec.ofChange Rows.huffFlatSpec)) Try.own started (by kernel_rfl) Try.func3
    (witness_row_at (enc := enc) (C := Try.checked) false (World.holding Try.prog os ⟨#[], #[], []⟩) #[.int .i64 0, .int .i64 0, .slice none 0 0] rfl (by kernel_rfl) (by kernel_rfl) (by kernel_rfl)
      (OpenSpec.preRow_of_cond 8 hx (by kernel_rfl) (fun k hk => by cases hk) (by kernel_rfl) (laidMet_of_run' 8 (by kernel_rfl) (by kernel_rfl)))) ?_
  intro W base args ds gs before hval hW _ hcond hz hL _ _
  exact top_row H enc W base args ds gs before hval hW hz hL
theorem top_over : Rows.HuffFlatSaid :=
  OpenClaim.holds_of_cond 3 Try.f3 rfl rfl rfl rfl rfl rfl rfl ⟨rfl, rfl, rfl, rfl, rfl⟩ rfl rfl rfl rfl rfl (by kernel_rfl) Try.func3 (by kernel_rfl)
    (of_decide_eq_true (by kernel_rfl)) (by unfold Func.isWrapper; first | (rw [if_pos (by decide +kernel)]; kernel_rfl) | (rw [if_neg (by decide +kernel)]; exact ⟨rfl, rfl⟩))
    (fun os started H enc _ F => by rw [OpenClaim.pre_eq_preRow]; exact top_lifted os started H enc F)
theorem top_holds : Rows.HuffFlatSaid := top_over
end Go.Proofs.Ytbdpjbmfhnbheaa
