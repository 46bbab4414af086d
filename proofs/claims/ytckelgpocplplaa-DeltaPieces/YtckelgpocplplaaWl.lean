/- DeltaPieces' body. It proves no statement by itself. No conditions. -/
import Derived.Test.YtckelgpocplplaaPg
import Derived.Test.YtckelgpocplplaaRo
namespace Go.Proofs.Ytckelgpocplplaa
open Go Go.Vx Go.Dl
variable [W0]
set_option maxRecDepth 4000
set_option linter.all false
theorem tmod_rng (a : Int) {m : Int} (h : 0 < m) : -m < a.tmod m ∧ a.tmod m < m := by
  have h1 := Int.natAbs_tmod a m
  have h2 : a.natAbs % m.natAbs < m.natAbs := Nat.mod_lt _ (by omega)
  omega
theorem tmod_pos {a m : Int} (ha : 0 ≤ a) (h : 0 < m) : 0 ≤ a.tmod m ∧ a.tmod m < m := ⟨Int.tmod_nonneg m ha, (tmod_rng a h).2⟩
set_option maxHeartbeats 16000000 in
theorem deltapieces_n (a0 : Option Addr) (c0 : Nat) (base : List UInt8) (from_ n times : Int) (L : List Chunk) (hb : Rs L 1 (.slice a0 base.length c0) base.length (bsv base)) (hbl : base.length ≤ 140737488351232) (hm : MxAt L)
    (hf1 : -9223372036854775808 ≤ from_ ∧ from_ ≤ 9223372036854775807) (hn1 : -9223372036854775808 ≤ n ∧ n ≤ 9223372036854775807) :
    GvP Try.prog 5 [.slice a0 base.length c0, .int .i64 from_, .int .i64 n, .int .i64 times].toArray L (.bool true) := by
  refine Gv.of_body (args := [.slice a0 base.length c0, .int .i64 from_, .int .i64 n, .int .i64 times]) Try.func5 rfl rfl ?_
  obtain ⟨N, hN⟩ : ∃ N : Nat, N = 70000 := ⟨_, rfl⟩
  have hN2 : (70000 : Int) = (N : Int) := by omega
  obtain ⟨K, hK, hK1⟩ : ∃ K : Nat, times % 8 = (K : Int) ∧ K < 8 := ⟨(times % 8).toNat, by omega, by omega⟩
  (repeat' first|refine kW ?_|refine kU fun bk=>?_|refine kV fun hc=>?_|refine kZ (fun hc=>?_) fun hc=>?_|fail)
  rw [hN2]
  apply OW_buildSlice (parts := []) rfl (by rfl) (by simp [fillL]; rfl) (by omega) rfl rfl (fun b0 => ?_)
  (repeat' first|refine kW ?_|refine kU fun bk=>?_|refine kV fun hc=>?_|refine kZ (fun hc=>?_) fun hc=>?_|fail)
  refine OW_append (m := 0) (c := base.length) (xs := []) (ys := bsv base) (C := [(b0, cl [] 5)]) rfl rfl (.inr ⟨b0, 0, [], rfl, rfl, rfl, rfl, Nat.le_refl _, by simp [maxLen]⟩) (sl_there hb.sl) (by repeat (first | exact Zip.here _ | apply Zip.there)) rfl bsv_ones (by omega) (by unfold maxLen; omega) rfl (fun v1 C1 h1 _ _ => ?_)
  rw [Nat.zero_add, List.nil_append] at h1
  (repeat' first|refine kW ?_|refine kU fun bk=>?_|refine kV fun hc=>?_|refine kZ (fun hc=>?_) fun hc=>?_|fail)
  refine OW_EV (EV_mask (p := 8) rfl rfl (by rfl)) rfl ?_
  rw [hK]
  (repeat' first|refine kW ?_|refine kU fun bk=>?_|refine kV fun hc=>?_|refine kZ (fun hc=>?_) fun hc=>?_|fail)
  refine WC_loop (X := Nat × List UInt8 × Value × Chunk) (fun x => [(1, .int .i64 from_), (2, .int .i64 n), (9, x.2.2.1), (10, .int .i64 (x.1 : Int))]) (fun x => x.2.2.2 :: L)
    (fun x => x.1 < 8 ∧ x.2.1.length ≤ 140737488351232 ∧ Ow 5 1 x.2.2.1 x.2.1.length (bsv x.2.1) x.2.2.2) (fun x => x.1) (K, base, v1, C1) ⟨hK1, hbl, h1⟩ iS (fun w h => h) ?_
  rintro ⟨k, s, v, C⟩ ⟨hk, hsl, ho⟩
  simp only at hk hsl ho ⊢
  obtain ⟨va, vc, rfl⟩ := ow_slc ho
  by_cases hgo : 0 < k ∧ s.length < N
  · ((repeat' first|refine kW ?_|refine kU fun bk=>?_|refine kV fun hc=>?_|refine kZ (fun hc=>?_) fun hc=>?_|fail) <;> try exact absurd trivial hc)
    refine OW_append rfl rfl ho (ow_sl ho) (by repeat (first | exact Zip.here _ | apply Zip.there)) rfl bsv_ones (by omega) (by unfold maxLen; omega) rfl (fun v2 C2 h2 _ _ => ?_)
    rw [← bsv_append, ← List.length_append] at h2
    ((repeat' first|refine kW ?_|refine kU fun bk=>?_|refine kV fun hc=>?_|refine kZ (fun hc=>?_) fun hc=>?_|fail) <;> try exact absurd trivial hc)
    refine WQ_round (X := Nat × List UInt8 × Value × Chunk) (μ := fun x => x.1) (x := (k, s, .slice va s.length vc, C)) (k - 1, s ++ s, v2, C2) (by simp only; omega) ⟨by simp only; omega, by simp only [List.length_append]; omega, h2⟩ iS (fun w h => h)
  by_cases hbig : s.length < 64 ∨ 150000 < s.length
  · ((repeat' first|refine kW ?_|refine kU fun bk=>?_|refine kV fun hc=>?_|refine kZ (fun hc=>?_) fun hc=>?_|fail) <;> try exact absurd trivial hc)
    all_goals
      refine OW_callP rfl rfl rfl (awake10_n _) rfl ?_
      ((repeat' first|refine kW ?_|refine kU fun bk=>?_|refine kV fun hc=>?_|refine kZ (fun hc=>?_) fun hc=>?_|fail) <;> try exact absurd trivial hc)
      exact kE
  obtain ⟨M1, hM1⟩ : ∃ M1 : Int, M1 = (s.length : Int) - 63 := ⟨_, rfl⟩
  have hr1 := tmod_rng n (m := M1) (by omega)
  have hr2 := tmod_pos (a := n.tmod M1 + (s.length : Int) - 63) (m := M1) (by omega) (by omega)
  obtain ⟨nn, hnn⟩ : ∃ nn : Nat, 64 + (n.tmod M1 + (s.length : Int) - 63).tmod M1 = (nn : Int) := ⟨(64 + (n.tmod M1 + (s.length : Int) - 63).tmod M1).toNat, by omega⟩
  have hnr : 64 ≤ nn ∧ nn ≤ s.length := by omega
  obtain ⟨M2, hM2⟩ : ∃ M2 : Int, M2 = (s.length : Int) - (nn : Int) + 1 := ⟨_, rfl⟩
  have hr3 := tmod_rng from_ (m := M2) (by omega)
  have hr4 := tmod_pos (a := from_.tmod M2 + (s.length : Int) - (nn : Int) + 1) (m := M2) (by omega) (by omega)
  obtain ⟨f, hf⟩ : ∃ f : Nat, (from_.tmod M2 + (s.length : Int) - (nn : Int) + 1).tmod M2 = (f : Int) := ⟨((from_.tmod M2 + (s.length : Int) - (nn : Int) + 1).tmod M2).toNat, by omega⟩
  have hfr : f + nn ≤ s.length := by omega
  have hsz : s.length ≤ 150000 := by omega
  have hrC : Rs (C :: L) 1 (.slice va s.length vc) s.length (bsv s) := Rs.ow ho
  have hzC : Rz (C :: L) (.slice va s.length vc) s := Rz.ow ho
  obtain ⟨r3, q3, e3⟩ := rs_cut (P := Try.prog) (T := 23) hrC (l := f) (h := f + nn) (by omega) hfr
  rw [show f + nn - f = nn from by omega] at q3
  obtain ⟨t, ht⟩ : ∃ t, t = (s.drop f).take nn := ⟨_, rfl⟩
  have htl : t.length = nn := by rw [ht, List.length_take, List.length_drop]; omega
  rw [← ht] at q3
  obtain ⟨ra, rc, rfl⟩ := rs_val q3
  have l1 : (num s.length).length ≤ 3 := num_le 2 _ (by omega)
  have l2 : (num t.length).length ≤ 3 := num_le 2 _ (by omega)
  have hmake := dmake_n (.slice va s.length vc) (.slice ra t.length rc) s t (C :: L) hzC q3 hm.there (by omega) (by omega)
  ((repeat' first|refine kW ?_|refine kU fun bk=>?_|refine kV fun hc=>?_|refine kZ (fun hc=>?_) fun hc=>?_|fail) <;> try exact absurd trivial hc)
  all_goals
    rw [← hM1]
    refine OW_EV (EV_rem rfl rfl (by omega)) rfl ?_
    ((repeat' first|refine kW ?_|refine kU fun bk=>?_|refine kV fun hc=>?_|refine kZ (fun hc=>?_) fun hc=>?_|fail) <;> try exact absurd trivial hc)
    rw [← hM1]
    refine OW_EV (EV_rem rfl rfl (by omega)) rfl ?_
    ((repeat' first|refine kW ?_|refine kU fun bk=>?_|refine kV fun hc=>?_|refine kZ (fun hc=>?_) fun hc=>?_|fail) <;> try exact absurd trivial hc)
    rw [hnn]
    ((repeat' first|refine kW ?_|refine kU fun bk=>?_|refine kV fun hc=>?_|refine kZ (fun hc=>?_) fun hc=>?_|fail) <;> try exact absurd trivial hc)
    rw [← hM2]
    refine OW_EV (EV_rem rfl rfl (by omega)) rfl ?_
    ((repeat' first|refine kW ?_|refine kU fun bk=>?_|refine kV fun hc=>?_|refine kZ (fun hc=>?_) fun hc=>?_|fail) <;> try exact absurd trivial hc)
    rw [← hM2]
    refine OW_EV (EV_rem rfl rfl (by omega)) rfl ?_
    rw [hf]
    ((repeat' first|refine kW ?_|refine kU fun bk=>?_|refine kV fun hc=>?_|refine kZ (fun hc=>?_) fun hc=>?_|fail) <;> try exact absurd trivial hc)
    refine OW_EV (e3 rfl rfl (bnd_int rfl (by omega))) rfl ?_
    ((repeat' first|refine kW ?_|refine kU fun bk=>?_|refine kV fun hc=>?_|refine kZ (fun hc=>?_) fun hc=>?_|fail) <;> try exact absurd trivial hc)
    refine OW_call rfl rfl rfl hmake rfl (fun r L' hp => ?_)
    obtain ⟨D, C4, ⟨hmk, _, hpc⟩, o4, rfl⟩ := hp
    have hdl := hpc ⟨f, by omega, by rw [htl]; exact ht.symm⟩ (by omega)
    have e1 : apP s (num s.length ++ (num t.length ++ D)) (nn : Int).toNat = (t, 0) := apP_mk (by omega) (by omega) hmk (by omega)
    obtain ⟨d, hd⟩ : ∃ d, d = num s.length ++ (num t.length ++ D) := ⟨_, rfl⟩
    have hdlen : d.length ≤ 24 + 8 * (nn / 65536) := by rw [hd, List.length_append, List.length_append]; omega
    rw [← hd] at o4 e1
    obtain ⟨da, dc, rfl⟩ := ow_slc o4
    have hA := fun L h1 h2 => dapply_n (.slice va s.length vc) (.slice da d.length dc) s d (nn : Int) L h1 h2 (by omega) (by omega)
    rw [e1] at hA
    ((repeat' first|refine kW ?_|refine kU fun bk=>?_|refine kV fun hc=>?_|refine kZ (fun hc=>?_) fun hc=>?_|fail) <;> try exact absurd trivial hc)
    refine OW_call rfl rfl rfl (hA _ hrC.there (Rs.ow o4)) rfl (fun r L' hp => ?_)
    obtain ⟨v6, C6, rfl, o6, rfl⟩ := hp
    ((repeat' first|refine kW ?_|refine kU fun bk=>?_|refine kV fun hc=>?_|refine kZ (fun hc=>?_) fun hc=>?_|fail) <;> try exact absurd trivial hc)
    refine OW_EV (EV_convStr (b := t) rfl (by exact ow_sl o6)) rfl ?_
    ((repeat' first|refine kW ?_|refine kU fun bk=>?_|refine kV fun hc=>?_|refine kZ (fun hc=>?_) fun hc=>?_|fail) <;> try exact absurd trivial hc)
    refine OW_EV (EV_convStr (b := t) rfl (by exact q3.there.there.sl)) rfl ?_
    ((repeat' first|refine kW ?_|refine kU fun bk=>?_|refine kV fun hc=>?_|refine kZ (fun hc=>?_) fun hc=>?_|fail) <;> try exact absurd trivial hc)
    refine OW_EV (EV_quoN nn 65536 rfl rfl rfl rfl (by decide) (by omega)) rfl ?_
    ((repeat' first|refine kW ?_|refine kU fun bk=>?_|refine kV fun hc=>?_|refine kZ (fun hc=>?_) fun hc=>?_|fail) <;> try exact absurd trivial hc)
    refine OW_callP rfl rfl rfl (awake10_n _) rfl ?_
    ((repeat' first|refine kW ?_|refine kU fun bk=>?_|refine kV fun hc=>?_|refine kZ (fun hc=>?_) fun hc=>?_|fail) <;> try exact absurd trivial hc)
    exact kE
end Go.Proofs.Ytckelgpocplplaa
