/- IdxFan returns true and leaves its arguments as they were, for every argument that the row takes. No conditions beyond the row's. -/
import Derived.Test.YtmhlmlkndabgmaaPD2
namespace Go.Proofs.Ytmhlmlkndabgmaa
open Go Go.Vx Go.Pk Go.Ix
open Go.Ob (hshB)
set_option linter.all false
set_option maxRecDepth 40000
section
variable [W0]
set_option maxHeartbeats 8000000 in
/-- sort.Find with the closure of Find. -/
theorem sfind_n (N : Nat) (cm : Nat → Int) (cp : List Value) (L : List Chunk) (hN : N ≤ 1000000)
    (hc : ∀ j, j < N → GvP Try.prog 33 (Value.int .i64 (j : Int) :: cp).toArray L (.int .i64 (cm j)))
    (m1 : ∀ i j, i ≤ j → j < N → cm j > 0 → cm i > 0) (m2 : ∀ i j, i ≤ j → j < N → cm i < 0 → cm j < 0) :
    Gv Try.prog 32 [.int .i64 (N : Int), .func (.func 33) #[] cp.toArray].toArray L (fun r L' => L' = L ∧ ((∃ k, k < N ∧ cm k = 0 ∧ r = .tuple #[.int .i64 (k : Int), .bool true]) ∨ ((∀ k, k < N → cm k ≠ 0) ∧ ∃ k : Nat, r = .tuple #[.int .i64 (k : Int), .bool false]))) := by
  refine Gv.of_body (args := [.int .i64 (N : Int), .func (.func 33) #[] cp.toArray]) Try.func32 rfl rfl ?_
  (repeat' first|refine kW ?_|refine kU fun bk=>?_|refine kV fun hc=>?_|refine kZ (fun hc=>?_) fun hc=>?_|fail)
  refine WC_loop (X := Nat × Nat) (fun z => [(0, .int .i64 (N : Int)), (1, .func (.func 33) #[] cp.toArray), (4, .int .i64 (z.1 : Int)), (6, .int .i64 (z.2 : Int))]) (fun _ => L)
    (fun z => z.1 ≤ z.2 ∧ z.2 ≤ N ∧ (∀ k, k < z.1 → cm k > 0) ∧ ∀ k, z.2 ≤ k → k < N → cm k ≤ 0) (fun z => z.2 - z.1) (0, N) ⟨Nat.zero_le _, Nat.le_refl _, fun k hk => by omega, fun k h1 h2 => by omega⟩ iS (fun w h => h) ?_
  rintro ⟨i, j⟩ ⟨q1, q2, q3, q4⟩
  simp only at q1 q2 q3 q4 ⊢
  by_cases hlt : i < j
  · obtain ⟨h, hh⟩ : ∃ h, h = (i + j) / 2 := ⟨_, rfl⟩
    have hhN : h < N := by omega
    have hch := hc h hhN
    obtain ⟨c, hcm⟩ : ∃ c, c = cm h := ⟨_, rfl⟩
    rw [← hcm] at hch
    (repeat' first|refine kW ?_|refine kU fun bk=>?_|refine kV fun hc=>?_|refine kZ (fun hc=>?_) fun hc=>?_|fail)
    rw [show ((i : Int) + (j : Int)) / 2 = ((h : Nat) : Int) from by omega]
    refine OW_callP rfl rfl (by simp) hch rfl ?_
    (repeat' first|refine kW ?_|refine kU fun bk=>?_|refine kV fun hc=>?_|refine kZ (fun hc=>?_) fun hc=>?_|fail)
    · refine WQ_round (X := Nat × Nat) (μ := fun z => z.2 - z.1) (x := (i, j)) (h + 1, j) (by simp only; omega) ⟨by simp only; omega, q2, fun k hk => ?_, q4⟩ iS (fun w h => h)
      exact m1 k h (by simp only at hk; omega) hhN (by omega)
    · refine WQ_round (X := Nat × Nat) (μ := fun z => z.2 - z.1) (x := (i, j)) (i, h) (by simp only; omega) ⟨by simp only; omega, by simp only; omega, q3, fun k hk hkN => ?_⟩ iS (fun w h => h)
      simp only at hk
      rcases Int.lt_or_le 0 (cm k) with w | w
      · have := m1 h k hk hkN w; omega
      · exact w
  · obtain rfl : i = j := by omega
    by_cases hiN : i < N
    · have hch := hc i hiN
      obtain ⟨c, hcm⟩ : ∃ c, c = cm i := ⟨_, rfl⟩
      rw [← hcm] at hch
      have h4 := q4 i (Nat.le_refl _) hiN
      (repeat' first|refine kW ?_|refine kU fun bk=>?_|refine kV fun hc=>?_|refine kZ (fun hc=>?_) fun hc=>?_|fail)
      refine OW_callP rfl rfl (by simp) hch rfl ?_
      by_cases c0 : c = 0
      · have hb : (c == 0) = true := by simpa using c0
        (repeat' first|refine kW ?_|refine kU fun bk=>?_|refine kV fun hc=>?_|refine kZ (fun hc=>?_) fun hc=>?_|fail)
        rw [hb]
        refine kR ?_
        exact ⟨L, iC, rfl, .inl ⟨i, hiN, by omega, rfl⟩⟩
      · have hb : (c == 0) = false := by simpa using c0
        (repeat' first|refine kW ?_|refine kU fun bk=>?_|refine kV fun hc=>?_|refine kZ (fun hc=>?_) fun hc=>?_|fail)
        rw [hb]
        refine kR ?_
        refine ⟨L, iC, rfl, .inr ⟨fun k hk => ?_, i, rfl⟩⟩
        rcases Nat.lt_or_ge k i with w | w
        · have := q3 k w; omega
        · have := m2 i k w hk (by omega); omega
    · (repeat' first|refine kW ?_|refine kU fun bk=>?_|refine kV fun hc=>?_|refine kZ (fun hc=>?_) fun hc=>?_|fail)
      refine kR ?_
      exact ⟨L, iC, rfl, .inr ⟨fun k hk => by have := q3 k (by omega); omega, i, rfl⟩⟩
set_option maxHeartbeats 8000000 in
/-- The closure of Find. -/
theorem ifind1_n (p6 p8 p10 lo j : Nat) (ca ia ra oa fa pa ha : Option Addr) (cn cc i_n ic rn rc on oc fn fc pn pc hcp : Nat) (hs b : List UInt8) (Ch : Chunk) (L : List Chunk)
    (hx : IxV L b ⟨⟨ca, cn, cc⟩, ⟨ia, i_n, ic⟩, ⟨ra, rn, rc⟩, ⟨oa, on, oc⟩, ⟨fa, fn, fc⟩, ⟨pa, pn, pc⟩⟩) (hh : Sl (Ch :: L) 1 (.slice ha hs.length hcp) hs.length (bsv hs)) (hb : b.length ≤ 1000000) (hj : lo + j < pxN b) :
    GvP Try.prog 33 [.int .i64 (j : Int), .pointer (some ⟨p8, 0, none⟩), .pointer (some ⟨p6, 0, none⟩), .pointer (some ⟨p10, 0, none⟩)].toArray ([(p10, cl [.int .i64 (lo : Int)] 3)] :: [(p8, cl [.slice ha hs.length hcp] 24)] :: Ch :: [(p6, cl [.slice ca cn cc, .slice ia i_n ic, .slice ra rn rc, .slice oa on oc, .slice fa fn fc, .slice pa pn pc] 61)] :: L)
      (.int .i64 (Lib.compareBytes hs (pxId b (lo + j)))) := by
  have hmo := hx.most
  refine Gv.of_body (args := [.int .i64 (j : Int), .pointer (some ⟨p8, 0, none⟩), .pointer (some ⟨p6, 0, none⟩), .pointer (some ⟨p10, 0, none⟩)]) Try.func33 rfl rfl ?_
  have hid := iid_p _ b (lo + j) ([(p10, cl [.int .i64 (lo : Int)] 3)] :: [(p8, cl [.slice ha hs.length hcp] 24)] :: Ch :: [(p6, cl [.slice ca cn cc, .slice ia i_n ic, .slice ra rn rc, .slice oa on oc, .slice fa fn fc, .slice pa pn pc] 61)] :: L) hx.up.up.up.up hj hb
  simp only [IxC.vs, Sc.v] at hid
  have hhs : Sl ([(p10, cl [.int .i64 (lo : Int)] 3)] :: [(p8, cl [.slice ha hs.length hcp] 24)] :: Ch :: [(p6, cl [.slice ca cn cc, .slice ia i_n ic, .slice ra rn rc, .slice oa on oc, .slice fa fn fc, .slice pa pn pc] 61)] :: L) 1 (.slice ha hs.length hcp) hs.length (bsv hs) := sl_sub iM hh
  (repeat' first|refine kW ?_|refine kU fun bk=>?_|refine kV fun hc=>?_|refine kZ (fun hc=>?_) fun hc=>?_|fail)
  refine WC_drawAll [] mixed ?_
  (refine WR_t 0 ?_; refine WR_t 1 ?_; refine WR_t 2 ?_; refine WR_t 3 ?_; refine WR_t 4 ?_)
  rw [show (lo : Int) + (j : Int) = ((lo + j : Nat) : Int) from rfl]
  (refine WR_one 5 (by kernel_rfl) rfl rfl ?_)
  refine OW_call rfl rfl rfl hid rfl (fun r L' hp => ?_)
  obtain ⟨qi, rfl⟩ := hp
  refine ⟨iC, ?_⟩
  (refine WR_one 6 (by kernel_rfl) rfl rfl ?_)
  refine OW_callP rfl rfl rfl (bcompare_n _ _ hs (pxId b (lo + j)) _ hhs qi.sl) rfl ?_
  refine ⟨iC, ?_⟩
  (refine WR_t 7 ?_)
  (refine WR_done (by kernel_rfl) ?_)
  (repeat' first|refine kW ?_|refine kU fun bk=>?_|refine kV fun hc=>?_|refine kZ (fun hc=>?_) fun hc=>?_|fail)
  exact kE
theorem cmpB_gt (a b : List UInt8) : 0 < Lib.compareBytes a b ↔ Op.bytesLess b a = true := by
  have h1 := cmpB_lt a b
  have h2 := cmpB_eq a b
  constructor
  · intro h
    rcases bl_tot a b (fun w => by have := h2.2 w; omega) with w | w
    · have := h1.2 w; omega
    · exact w
  · intro h
    rcases Int.lt_trichotomy (Lib.compareBytes a b) 0 with w | w | w
    · have := bl_trans _ _ _ (h1.1 w) h
      rw [bl_irr] at this
      cases this
    · have := h2.1 w
      subst this
      rw [bl_irr] at h
      cases h
    · exact w
def FdR (b id : List UInt8) (r : Value) : Prop :=
  (∃ i, i < pxN b ∧ pxE b = 0 ∧ hshB id = true ∧ pxId b i = unL id ∧ r = .tuple #[.int .i64 (pxAt b i : Int), .bool true]) ∨
  (¬ (pxE b = 0 ∧ hshB id = true ∧ ∃ i, i < pxN b ∧ pxId b i = unL id) ∧ r = .tuple #[.int .i64 0, .bool false])
theorem pxId_lt {b : List UInt8} (h : PxOk b) : ∀ {i j : Nat}, i < j → j < pxN b → Op.bytesLess (pxId b i) (pxId b j) = true := by
  intro i j
  induction j with
  | zero => intro h1; omega
  | succ j ih =>
    intro h1 h2
    have h3 := (h.rows (j + 1) h2).1 (by omega)
    rw [Nat.add_sub_cancel] at h3
    by_cases hij : i = j
    · rw [hij]; exact h3
    · exact bl_trans _ _ _ (ih (by omega) (by omega)) h3
theorem fnB_mono {b : List UInt8} (h : PxOk b) : ∀ {c k : Nat}, c + k < 256 → fnB b c ≤ fnB b (c + k) := by
  intro c k
  induction k with
  | zero => intro _; exact Nat.le_refl _
  | succ k ih => intro hc; exact Nat.le_trans (ih (by omega)) (h.fan (c + k) (by omega))
set_option maxHeartbeats 16000000 in
theorem ifind_n (v : Value) (b id : List UInt8) (L : List Chunk) (h : Rs L 1 v b.length (bsv b)) (hb : b.length ≤ 1000000) (hl : id.length ≤ 140737488355328) :
    Gv Try.prog 10 [v, .string (str id)].toArray L (fun r L' => L' = L ∧ FdR b id r) := by
  obtain ⟨va, vc, rfl⟩ := rs_val h
  refine Gv.of_body (args := [.slice va b.length vc, .string (str id)]) Try.func10 rfl rfl ?_
  (repeat' first|refine kW ?_|refine kU fun bk=>?_|refine kV fun hc=>?_|refine kZ (fun hc=>?_) fun hc=>?_|fail)
  refine OW_callP rfl rfl rfl (hash_n id _ (by omega)) rfl ?_
  by_cases hq : hshB id = true
  rotate_left
  · rw [show hshB id = false from by simpa using hq]
    (repeat' first|refine kW ?_|refine kU fun bk=>?_|refine kV fun hc=>?_|refine kZ (fun hc=>?_) fun hc=>?_|fail)
    refine kR ?_
    exact ⟨L, iC, rfl, .inr ⟨fun w => hq w.2.1, rfl⟩⟩
  rw [hq]
  (repeat' first|refine kW ?_|refine kU fun bk=>?_|refine kV fun hc=>?_|refine kZ (fun hc=>?_) fun hc=>?_|fail)
  refine OW_call rfl rfl rfl (iopen_n _ b L h hb) rfl (fun r L' hp => ?_)
  obtain ⟨hL, hp⟩ := hp
  have hL := hL.symm
  subst hL
  rcases hp with ⟨he, hok, x, hx, rfl⟩ | ⟨he, rfl⟩
  rotate_left
  · obtain ⟨e, hee⟩ : ∃ e, e = pxE b := ⟨_, rfl⟩
    rw [← hee] at he ⊢
    (repeat' first|refine kW ?_|refine kU fun bk=>?_|refine kV fun hc=>?_|refine kZ (fun hc=>?_) fun hc=>?_|fail)
    refine kR ?_
    exact ⟨L, iC, rfl, .inr ⟨fun w => he (by rw [hee]; exact w.1), rfl⟩⟩
  obtain ⟨⟨ca, cn, cc⟩, ⟨ia, i_n, ic⟩, ⟨ra, rn, rc⟩, ⟨oa, on, oc⟩, ⟨fa, fn, fc⟩, ⟨pa, pn, pc⟩⟩ := x
  simp only [IxC.vs, Sc.v]
  (repeat' first|refine kW ?_|refine kU fun bk=>?_|refine kV fun hc=>?_|refine kZ (fun hc=>?_) fun hc=>?_|fail)
  revert bk; intro p6
  refine OW_call rfl rfl rfl (unhex_n id _ (by have h40 := hq; unfold Go.Ob.hshB at h40; rw [Bool.and_eq_true, decide_eq_true_iff] at h40; omega)) rfl (fun r L' hp => ?_)
  obtain ⟨hv, Ch, rfl, rfl, hoh⟩ := hp
  obtain ⟨ha, hcp, rfl⟩ := ow_slc hoh
  have hul := un_len hq
  (repeat' first|refine kY ?_|refine kU fun bk=>?_|refine kV fun hc=>?_|refine kZ (fun hc=>?_) fun hc=>?_|((fail_if_success (show WC _ _ (Code.seq (Code.region _ _ true) _) _ _ _)); refine WC_seq ?_)|fail)
  refine OW_holds (L' := [(bk, cl [.slice none 0 0] 24)] :: Ch :: [(p6, cl [.slice ca cn cc, .slice ia i_n ic, .slice ra rn rc, .slice oa on oc, .slice fa fn fc, .slice pa pn pc] 61)] :: L) (fun w h => h) ?_
  revert bk; intro p8
  (repeat' first|refine kY ?_|refine kU fun bk=>?_|refine kV fun hc=>?_|refine kZ (fun hc=>?_) fun hc=>?_|((fail_if_success (show WC _ _ (Code.seq (Code.region _ _ true) _) _ _ _)); refine WC_seq ?_)|fail)
  have hmo := hok.most
  have hlen := hok.len
  obtain ⟨hs, hhs⟩ : ∃ hs, hs = unL id := ⟨_, rfl⟩
  rw [← hhs] at hul hoh ⊢
  obtain ⟨y, hy⟩ : ∃ y, hs[0]? = some y := ⟨hs[0], by simp [hul]⟩
  have hy8 := y.toNat_lt
  have hbt := fun L hx => ibetween_n ⟨⟨ca, cn, cc⟩, ⟨ia, i_n, ic⟩, ⟨ra, rn, rc⟩, ⟨oa, on, oc⟩, ⟨fa, fn, fc⟩, ⟨pa, pn, pc⟩⟩ b y.toNat L hx (by omega) hb
  simp only [IxC.vs, Sc.v] at hbt
  obtain ⟨lo, hlo⟩ : ∃ lo, lo = if y.toNat = 0 then 0 else fnB b (y.toNat - 1) := ⟨_, rfl⟩
  obtain ⟨hi, hhi⟩ : ∃ hi, hi = fnB b y.toNat := ⟨_, rfl⟩
  have hlh : lo ≤ hi := by
    rw [hlo, hhi]
    split
    · exact Nat.zero_le _
    · have := fnB_mono hok (c := y.toNat - 1) (k := 1) (by omega)
      rwa [show y.toNat - 1 + 1 = y.toNat from by omega] at this
  have hhn : hi ≤ pxN b := by
    have := fnB_mono hok (c := y.toNat) (k := 255 - y.toNat) (by omega)
    rw [show y.toNat + (255 - y.toNat) = 255 from by omega] at this
    rw [hhi]; exact this
  rw [← hlo, ← hhi] at hbt
  refine WC_cut (X := Nat) (fun p => [(6, .pointer (some ⟨p6, 0, none⟩)), (8, .pointer (some ⟨p8, 0, none⟩)), (10, .pointer (some ⟨p, 0, none⟩)), (11, .int .i64 (hi : Int))]) (fun p => [(p, cl [.int .i64 (lo : Int)] 3)] :: [(p8, cl [.slice ha hs.length hcp] 24)] :: Ch :: [(p6, cl [.slice ca cn cc, .slice ia i_n ic, .slice ra rn rc, .slice oa on oc, .slice fa fn fc, .slice pa pn pc] 61)] :: L) (fun _ => True) ?_ ?_
  · refine WC_holds' (L' := [(p8, cl [.slice ha hs.length hcp] 24)] :: Ch :: [(p6, cl [.slice ca cn cc, .slice ia i_n ic, .slice ra rn rc, .slice oa on oc, .slice fa fn fc, .slice pa pn pc] 61)] :: L) (fun w h => h) ?_
    obtain ⟨eb, eo, ec, ecc, eT, ef, w1, w2, w3⟩ := sl_at (ow_sl (L := [(p6, cl [.slice ca cn cc, .slice ia i_n ic, .slice ra rn rc, .slice oa on oc, .slice fa fn fc, .slice pa pn pc] 61)] :: L) hoh) (Go.Vx.bsv_get hy)
    injection w1 with w4 w5 w6
    subst w4 w6
    refine WC_drawAll [] mixed ?_
    (refine WR_t 0 ?_; refine WR_t 1 ?_)
    (refine WR_take 2 rfl rfl (by kernel_rfl) iP iC (EV_indexAddr (j := 0) rfl rfl rfl (by omega)) (by rfl) ?_)
    (refine WR_take 3 rfl rfl (by kernel_rfl) iP iC (EV_load rfl (.there w2) w3) (by rfl) ?_)
    refine WR_any (js := [4, 8]) (by kernel_rfl) (by simp) (fun j hj => ?_)
    simp only [List.mem_cons, List.not_mem_nil, or_false] at hj
    rcases hj with rfl | rfl
    · refine ⟨_, rfl, rfl, ?_⟩
      refine OW_callP rfl rfl rfl (hbt _ (by repeat (first | exact hx | apply IxV.up))) rfl ?_
      refine ⟨iC, ?_⟩
      (refine WR_t 5 ?_; refine WR_t 6 ?_; refine WR_t 7 ?_)
      (refine WR_one 8 (by kernel_rfl) rfl rfl ?_)
      refine OW_alloc rfl (fun p => ?_)
      refine ⟨iC, ?_⟩
      (refine WR_one 9 (by kernel_rfl) rfl rfl ?_)
      refine OW_storeTo (l := [.int .i64 0]) [.int .i64 (lo : Int)] rfl rfl rfl rfl iU (by simp) ?_
      refine ⟨iC, ?_⟩
      (refine WR_t 10 ?_)
      (refine WR_done (by kernel_rfl) ?_)
      (repeat' first|refine kW ?_|refine kU fun bk=>?_|refine kV fun hc=>?_|refine kZ (fun hc=>?_) fun hc=>?_|fail)
      exact WQ_cut p trivial iS (fun w h => (iC : Inc ([(p, cl [.int .i64 (lo : Int)] 3)] :: [(p8, cl [.slice (some ⟨eb, eo, none⟩) hs.length hcp] 24)] :: Ch :: [(p6, cl [.slice ca cn cc, .slice ia i_n ic, .slice ra rn rc, .slice oa on oc, .slice fa fn fc, .slice pa pn pc] 61)] :: L) _).holds h)
    · refine ⟨_, rfl, rfl, ?_⟩
      refine OW_alloc rfl (fun p => ?_)
      refine ⟨iC, ?_⟩
      (refine WR_one 4 (by kernel_rfl) rfl rfl ?_)
      refine OW_callP rfl rfl rfl (hbt _ (by repeat (first | exact hx | apply IxV.up))) rfl ?_
      refine ⟨iC, ?_⟩
      (refine WR_t 5 ?_; refine WR_t 6 ?_; refine WR_t 7 ?_)
      (refine WR_one 9 (by kernel_rfl) rfl rfl ?_)
      refine OW_storeTo (l := [.int .i64 0]) [.int .i64 (lo : Int)] rfl rfl rfl rfl iU (by simp) ?_
      refine ⟨iC, ?_⟩
      (refine WR_t 10 ?_)
      (refine WR_done (by kernel_rfl) ?_)
      (repeat' first|refine kW ?_|refine kU fun bk=>?_|refine kV fun hc=>?_|refine kZ (fun hc=>?_) fun hc=>?_|fail)
      exact WQ_cut p trivial iS (fun w h => (iC : Inc ([(p, cl [.int .i64 (lo : Int)] 3)] :: [(p8, cl [.slice (some ⟨eb, eo, none⟩) hs.length hcp] 24)] :: Ch :: [(p6, cl [.slice ca cn cc, .slice ia i_n ic, .slice ra rn rc, .slice oa on oc, .slice fa fn fc, .slice pa pn pc] 61)] :: L) _).holds h)
  rintro p10 -
  (repeat' first|refine kW ?_|refine kU fun bk=>?_|refine kV fun hc=>?_|refine kZ (fun hc=>?_) fun hc=>?_|fail)
  obtain ⟨N, hN⟩ : ∃ N, N = hi - lo := ⟨_, rfl⟩
  rw [show (hi : Int) - (lo : Int) = ((N : Nat) : Int) from by omega]
  have hlt : ∀ {i j : Nat}, i < j → lo + j < pxN b → Op.bytesLess (pxId b (lo + i)) (pxId b (lo + j)) = true := fun h1 h2 => pxId_lt hok (by omega) h2
  refine OW_call rfl rfl rfl (sfind_n N (fun j => Lib.compareBytes hs (pxId b (lo + j))) [.pointer (some ⟨p8, 0, none⟩), .pointer (some ⟨p6, 0, none⟩), .pointer (some ⟨p10, 0, none⟩)] _ (by omega) (fun j hj => ifind1_n p6 p8 p10 lo j ca ia ra oa fa pa ha cn cc i_n ic rn rc on oc fn fc pn pc hcp hs b Ch L hx (ow_sl hoh) hb (by omega)) (fun i j h1 h2 h3 => ?_) (fun i j h1 h2 h3 => ?_)) rfl (fun r L' hp => ?_)
  · by_cases hij : i = j
    · rw [hij]; exact h3
    · have h4 := (cmpB_gt _ _).1 h3
      exact (cmpB_gt _ _).2 (bl_trans _ _ _ (hlt (by omega) (by omega)) h4)
  · by_cases hij : i = j
    · rw [← hij]; exact h3
    · have h4 := (cmpB_lt _ _).1 h3
      exact (cmpB_lt _ _).2 (bl_trans _ _ _ h4 (hlt (by omega) (by omega)))
  obtain ⟨rfl, hp⟩ := hp
  rcases hp with ⟨k, hk, hk0, rfl⟩ | ⟨hno, k, rfl⟩
  · have hki : lo + k < pxN b := by omega
    have hke := (cmpB_eq _ _).1 hk0
    have hat := fun L hx => iat_n ⟨⟨ca, cn, cc⟩, ⟨ia, i_n, ic⟩, ⟨ra, rn, rc⟩, ⟨oa, on, oc⟩, ⟨fa, fn, fc⟩, ⟨pa, pn, pc⟩⟩ b (lo + k) L hx hok hki hb
    simp only [IxC.vs, Sc.v] at hat
    (repeat' first|refine kW ?_|refine kU fun bk=>?_|refine kV fun hc=>?_|refine kZ (fun hc=>?_) fun hc=>?_|fail)
    rw [show (lo : Int) + (k : Int) = ((lo + k : Nat) : Int) from rfl]
    refine OW_callP rfl rfl rfl (hat _ (by repeat (first | exact hx | apply IxV.up))) rfl ?_
    obtain ⟨z, hz⟩ : ∃ z, z = pxAt b (lo + k) := ⟨_, rfl⟩
    rw [← hz]
    (repeat' first|refine kW ?_|refine kU fun bk=>?_|refine kV fun hc=>?_|refine kZ (fun hc=>?_) fun hc=>?_|fail)
    refine kR ?_
    exact ⟨L, iC, rfl, .inl ⟨lo + k, hki, he, hq, by rw [← hke, hhs], by rw [← hz]; rfl⟩⟩
  · (repeat' first|refine kW ?_|refine kU fun bk=>?_|refine kV fun hc=>?_|refine kZ (fun hc=>?_) fun hc=>?_|fail)
    refine kR ?_
    refine ⟨L, iC, rfl, .inr ⟨fun w => ?_, rfl⟩⟩
    obtain ⟨_, _, i, hi1, hi2⟩ := w
    rw [← hhs] at hi2
    have hrow := hok.rows i hi1
    have hH : pxH b i = y.toNat := by unfold pxH; rw [hi2, List.getD_eq_getElem?_getD, hy]; rfl
    have h1 := hrow.2.1
    have h2 := hrow.2.2.1
    unfold pxLo at h1
    rw [hH, ← hlo] at h1
    rw [hH, ← hhi] at h2
    exact hno (i - lo) (by omega) (by show Lib.compareBytes hs (pxId b (lo + (i - lo))) = 0; rw [show lo + (i - lo) = i from by omega, hi2]; exact (cmpB_eq _ _).2 rfl)
end
end Go.Proofs.Ytmhlmlkndabgmaa
namespace Go.Proofs.Ytmhlmlkndabgmaa
open Go Go.Shelf Go.Sort Go.RowKit Go.Lib Go.Proofs Go.Pk Go.Vx
set_option linter.all false
set_option maxRecDepth 4000
set_option maxHeartbeats 1000000 in
theorem bcs_c (a b : ByteArray) (w : World) : Calls Try.prog 53 #[.string a, .string b] w fun e w' => e = .returned (.int .i64 (Lib.compareBytes a.data.toList b.data.toList)) ∧ w' = w := by
  go_enter Try.func53, Try.ntmps53
  go_wp2
  rw [run_callFunc_extern Try.func77 (by kernel_rfl) (by kernel_rfl) (by kernel_rfl) (e := Extern.BytealgCompare.compare) (by kernel_rfl), Lib.run_compareString]
  simp only [Result.andThen]
  rw [Oper.upon_value]
  go_wp2
  go_ret
  exact ⟨rfl, rfl⟩
set_option maxHeartbeats 1000000 in
theorem scs_c (a b : ByteArray) (w : World) : Calls Try.prog 26 #[.string a, .string b] w fun e w' => e = .returned (.int .i64 (Lib.compareBytes a.data.toList b.data.toList)) ∧ w' = w := by
  go_enter Try.func26, Try.ntmps26
  go_wp2_with (go_at_call 53; refine (bcs_c _ _ _).mono ?_; rintro e w' ⟨rfl, rfl⟩)
  go_ret
  exact ⟨rfl, rfl⟩
set_option maxHeartbeats 4000000 in
theorem iclo_c (k1 : Int) (b1 : Value) (i1 : ByteArray) (a1 c1 k2 : Int) (b2 : Value) (i2 : ByteArray) (a2 c2 : Int) (hx : b1.oneCell' = true) (hy : b2.oneCell' = true) (W : World) :
    Calls Try.prog 25 #[.agg [.int .i64 k1, b1, .string i1, .int .i64 a1, .int .u32 c1].toArray, .agg [.int .i64 k2, b2, .string i2, .int .i64 a2, .int .u32 c2].toArray] W fun e w' => e = .returned (.int .i64 (Lib.compareBytes i1.data.toList i2.data.toList)) ∧ ∃ q os', w' = grow (W.drewN q) os' := by
  go_enter Try.func25, Try.ntmps25
  go_wp2_with (go_at_call 26; refine (scs_c _ _ _).mono ?_; rintro e w' ⟨rfl, rfl⟩)
  go_ret
  refine ⟨rfl, ?_⟩
  exact ⟨0, _, by rw [alloc_eq_grow, alloc_eq_grow, grow_grow]; rfl⟩
def cfI (x y : Obv) : Int := Lib.compareBytes x.1.1.id y.1.1.id
theorem cfI_lt (x y : Obv) : ltOf cfI x y = Op.bytesLess x.1.1.id y.1.1.id := by
  unfold ltOf cfI
  rw [Bool.eq_iff_iff, decide_eq_true_iff]
  exact cmpB_lt _ _
theorem swo_I : SWO (ltOf cfI) where
  irrefl x := by rw [cfI_lt]; exact bl_irr _
  trans x y z h1 h2 := by rw [cfI_lt] at *; exact bl_trans _ _ _ h1 h2
  ntrans x y z h1 h2 := by rw [cfI_lt] at *; exact bl_ntrans h1 h2
theorem icmp_lays (b n : Nat) (w : World) : CmpLays Try.prog 25 #[] enO 5 cfI b 0 n w := fun m os dk _ x y =>
  iclo_c x.1.1.kind x.1.2 (str x.1.1.id) x.1.1.at_ (x.1.1.crc.toNat : Int) y.1.1.kind y.1.2 (str y.1.1.id) y.1.1.at_ (y.1.1.crc.toNat : Int) x.one y.one _
section
variable [W0]
theorem isort_n (b cap : Nat) (l : List Obv) (rest : List Value) (T : TypeId) (L : List Chunk) (hl : l.length ≤ 1000000) :
    Gv Try.prog 24 [.slice (some ⟨b, 0, none⟩) l.length cap, .func (.func 25) #[] #[]].toArray ([(b, cl (l.flatMap enO ++ rest) T)] :: L)
      (fun r L' => r = .tuple #[] ∧ ∃ l' : List Obv, l'.Perm l ∧ SrtI l' ∧ L' = [(b, cl (l'.flatMap enO ++ rest) T)] :: L) := ⟨fun w hw => by
  have hf : w.heap[b]? = some (cl (l.flatMap enO ++ rest) T) := (Fnd.here : Fnd ([(b, _)] :: L) b _).get hw
  have hbs : b < w.heap.size := (Array.getElem?_eq_some_iff.1 hf).1
  have hfl : (l.flatMap enO).length = l.length * 5 := flat_len enO 5 enO_len l
  have hH : HoldsK enO 5 w b 0 l.toArray := by
    intro j hj
    have hj' : j < l.length * 5 := by simpa using hj
    have e1 := flatK_list enO 5 (by decide) enO_len l.toArray
    have e2 : (flatK enO 5 l.toArray)[j]! = (l.flatMap enO)[j]'(by omega) := by
      rw [getElem!_pos (flatK enO 5 l.toArray) j hj, ← Array.getElem_toList]
      congr 1
    constructor
    · rw [Nat.zero_add, cell_of hf, e2, List.getElem?_toArray, List.getElem?_append_left (by omega), List.getElem?_eq_getElem (by omega)]
      rfl
    · simp [World.frozen?, hf, cl]
  have hc := AnyQ.slices_SortFunc sh_o 5 (fun w => isAgg_true (by kernel_rfl) w) (fun w => sizeOf_run (by kernel_rfl) w) enO enO_len enO_one cfI swo_I 25 #[] b 0 cap l.toArray w
    (fun args w => rfl) (icmp_lays b _ w) hH hbs (by simp; omega)
  refine Calls.mono hc ?_
  rintro e w' ⟨rfl, d', n, os, hp, hs, rfl⟩
  have hsz : d'.size = l.length := by simpa using hp.1
  have hperm : d'.toList.Perm l := by
    have := hp.2.2
    rwa [List.size_toArray, Array.extract_eq_self_of_le (by omega), show l.toArray.extract 0 l.length = l.toArray from Array.extract_eq_self_of_le (by simp)] at this
  have hfd : (d'.toList.flatMap enO).length = l.length * 5 := by rw [flat_len enO 5 enO_len, Array.length_toList, hsz]
  have h1 : Holds (putRowK enO 5 (Sort.ahead w n) b 0 d') ([(b, cl (d'.toList.flatMap enO ++ rest) T)] :: L) := by
    refine hw.upd .here ?_ ?_ rfl rfl
    · show (w.heap.modify b _)[b]? = _
      rw [Array.getElem?_modify, if_pos rfl, hf]
      show some (Obj.cells (putCells id 0 _ _) _ _) = _
      rw [putCells_all (d'.toList.flatMap enO) (l.flatMap enO) rest _ (flatK_list enO 5 (by decide) enO_len d') (by omega)]
      rfl
    · intro c hc
      show (w.heap.modify b _)[c]? = _
      rw [Array.getElem?_modify, if_neg (Ne.symm hc)]
  refine ⟨.tuple #[], _, rfl, ⟨rfl, d'.toList, hperm, ?_, rfl⟩, h1.1, fun x hx => ?_, h1.2.2.1, h1.2.2.2⟩
  · show d'.toList.Pairwise _
    rw [List.pairwise_iff_getElem]
    intro i j hi hj hij
    have := hs i j (Nat.zero_le _) hij (by simpa [hsz] using hj)
    rw [cfI_lt, getElem!_pos _ _ (by simpa using hj), getElem!_pos _ _ (by simpa using hi)] at this
    exact this
  · have := h1.2.1 x hx
    show (_ ++ os)[x.1]? = _
    rw [Array.getElem?_append_left (Array.getElem?_eq_some_iff.1 this).1]
    exact this⟩
end
end Go.Proofs.Ytmhlmlkndabgmaa
namespace Go.Hf
set_option linter.all false
def hv (w t : Nat) : Nat → Nat
  | 0 => 0
  | n + 1 => 2 * hv w t n + w / 2 ^ (t + n) % 2
end Go.Hf
namespace Go.Hf
set_option linter.all false
def smb (l : List Nat) (i n : Nat) : List Nat := (List.range i).filter fun j => l.getD j 0 == n && decide (0 < n)
theorem smb_succ (l : List Nat) (i n : Nat) : smb l (i + 1) n = smb l i n ++ (if l.getD i 0 = n ∧ 0 < n then [i] else []) := by
  unfold smb
  rw [List.range_succ, List.filter_append]
  congr 1
  by_cases h : l.getD i 0 = n ∧ 0 < n
  · rw [if_pos h, List.filter_cons, if_pos (by simp only [Bool.and_eq_true, beq_iff_eq, decide_eq_true_eq]; exact h)]; rfl
  · rw [if_neg h, List.filter_cons, if_neg (by simp only [Bool.and_eq_true, beq_iff_eq, decide_eq_true_eq]; exact h)]; rfl
end Go.Hf
namespace Go.Proofs.Ytmhlmlkndabgmaa
open Go Go.Vx Go.Hf
variable [W0]
set_option maxRecDepth 4000
set_option linter.all false
omit [W0] in
/-- The lists of symbols, one a length. -/
structure SyR (l : List Nat) (i : Nat) (vs : List Value) (Cs : List Chunk) : Prop where
  lv : vs.length = 16
  lc : Cs.length = 16
  at_ : ∀ n, n < 16 → ∃ v C, vs[n]? = some v ∧ Cs[n]? = some C ∧ Ow 3 1 v (smb l i n).length (ivn (smb l i n)) C
theorem SyR.new (l : List Nat) : SyR l 0 (List.replicate 16 (.slice none 0 0)) (List.replicate 16 []) := by
  refine ⟨by simp, by simp, fun n hn => ⟨_, _, ?_, ?_, .inl ⟨rfl, rfl, rfl, rfl⟩⟩⟩
  · rw [List.getElem?_replicate, if_pos hn]
  · rw [List.getElem?_replicate, if_pos hn]
theorem SyR.step {l : List Nat} {i : Nat} {vs : List Value} {Cs : List Chunk} (h : SyR l i vs Cs) {v' : Value} {C' : Chunk} (h0 : 0 < l.getD i 0) (h15 : l.getD i 0 < 16)
    (ho : Ow 3 1 v' ((smb l i (l.getD i 0)).length + 1) (ivn (smb l i (l.getD i 0)) ++ ivn [i]) C') : SyR l (i + 1) (vs.set (l.getD i 0) v') (Cs.set (l.getD i 0) C') := by
  refine ⟨by rw [List.length_set]; exact h.lv, by rw [List.length_set]; exact h.lc, fun n hn => ?_⟩
  by_cases he : l.getD i 0 = n
  · subst he
    refine ⟨v', C', List.getElem?_set_self (by rw [h.lv]; exact hn), List.getElem?_set_self (by rw [h.lc]; exact hn), ?_⟩
    rw [smb_succ, if_pos ⟨rfl, h0⟩, List.length_append]
    have e : ivn (smb l i (l.getD i 0) ++ [i]) = ivn (smb l i (l.getD i 0)) ++ ivn [i] := by simp [ivn]
    rw [e]
    exact ho
  · obtain ⟨v, C, h1, h2, h3⟩ := h.at_ n hn
    refine ⟨v, C, by rw [List.getElem?_set_ne he]; exact h1, by rw [List.getElem?_set_ne he]; exact h2, ?_⟩
    rw [smb_succ, if_neg (fun hh => he hh.1), List.append_nil]
    exact h3
theorem SyR.skip {l : List Nat} {i : Nat} {vs : List Value} {Cs : List Chunk} (h : SyR l i vs Cs) (h0 : l.getD i 0 = 0) : SyR l (i + 1) vs Cs := by
  refine ⟨h.lv, h.lc, fun n hn => ?_⟩
  obtain ⟨v, C, h1, h2, h3⟩ := h.at_ n hn
  refine ⟨v, C, h1, h2, ?_⟩
  rw [smb_succ, if_neg (fun hh => by omega), List.append_nil]
  exact h3
end Go.Proofs.Ytmhlmlkndabgmaa
namespace Go.Df
open Go.Vx Go.If
set_option linter.all false
def lenB (v : Nat) : Nat := if v = 0 then 0 else Nat.log2 v + 1
theorem lenB_b {v k : Nat} (h1 : 2 ^ k ≤ v) (h2 : v < 2 ^ (k + 1)) : lenB v = k + 1 := by
  have h0 : v ≠ 0 := by have : 0 < 2 ^ k := Nat.pow_pos (by decide); omega
  unfold lenB
  rw [if_neg h0, show Nat.log2 v = k from (Nat.log2_eq_iff h0).2 ⟨h1, h2⟩]
end Go.Df
namespace Go.Df
open Go.Vx Go.If
set_option linter.all false
theorem tabQ (s : ByteArray) (h : (List.range 256).all (fun i => s[i]? == some (UInt8.ofNat (lenB i))) = true) {w : Nat} (hw : w < 256) : s[w]? = some (UInt8.ofNat (lenB w)) := by
  rw [List.all_eq_true] at h
  have := h w (by simpa using hw)
  simpa using this
theorem lenB_le : ∀ w, w < 256 → lenB w ≤ 8 := by decide +kernel
theorem lenB_256 {v : Nat} (h1 : 256 ≤ v) (h2 : v < 65536) : lenB v = 8 + lenB (v / 256) := by
  have h0 : v / 256 ≠ 0 := by omega
  have h3 := (Nat.log2_eq_iff h0).1 rfl
  obtain ⟨k, hk⟩ : ∃ k, k = Nat.log2 (v / 256) := ⟨_, rfl⟩
  rw [← hk] at h3
  have e1 : lenB (v / 256) = k + 1 := lenB_b h3.1 h3.2
  have a1 : 2 ^ k * 256 ≤ v := (Nat.le_div_iff_mul_le (by decide)).1 h3.1
  have a2 : v < 2 ^ (k + 1) * 256 := (Nat.div_lt_iff_lt_mul (by decide)).1 h3.2
  have e2 : lenB v = k + 8 + 1 := lenB_b (by rw [Nat.pow_add]; exact a1) (by rw [show k + 8 + 1 = (k + 1) + 8 from by omega, Nat.pow_add]; exact a2)
  omega
end Go.Df
namespace Go.Proofs.Ytmhlmlkndabgmaa
open Go Go.Vx Go.Hf Go.If Go.Df
variable [W0]
set_option maxRecDepth 4000
set_option linter.all false
set_option maxHeartbeats 2000000 in
theorem len64_n (v : Nat) (L : List Chunk) (h : v < 65536) : GvP Try.prog 76 [.int .u64 (v : Int)].toArray L (.int .i64 ((lenB v : Nat) : Int)) := by
  refine Gv.of_body Try.func76 rfl rfl ?_
  (repeat' first|refine kW ?_|refine kU fun bk=>?_|refine kV fun hc=>?_|refine kZ (fun hc=>?_) fun hc=>?_|fail)
  · rw [lenB_256 (by omega) h]
    obtain ⟨w, hw9⟩ : ∃ w, w = v / 256 := ⟨_, rfl⟩
    have hw : w < 256 := by omega
    rw [← hw9]
    have hle := lenB_le w hw
    refine OW_EV (EV_indexStr (j := w) (u := UInt8.ofNat (lenB w)) rfl rfl (by rw [wrap_u8]; omega) (tabQ _ (by kernel_rfl) hw)) rfl ?_
    rw [show ((UInt8.ofNat (lenB w)).toNat : Int) = ((lenB w : Nat) : Int) from by rw [UInt8.toNat_ofNat', Nat.mod_eq_of_lt (by omega)]]
    generalize lenB w = z at hle ⊢
    refine jA ?_
    refine OW_EV (EV_convII (r := (z : Int)) rfl (wrap_i64 (by omega) (by omega))) rfl ?_
    (repeat' first|refine kW ?_|refine kU fun bk=>?_|refine kV fun hc=>?_|refine kZ (fun hc=>?_) fun hc=>?_|fail)
    refine kR ?_
    exact ⟨_, iC, by rw [Int.natCast_add]; rfl, rfl⟩
  · have hw : v < 256 := by omega
    have hle := lenB_le v hw
    refine OW_EV (EV_indexStr (j := v) (u := UInt8.ofNat (lenB v)) rfl rfl (by rw [wrap_u8]; omega) (tabQ _ (by kernel_rfl) hw)) rfl ?_
    rw [show ((UInt8.ofNat (lenB v)).toNat : Int) = ((lenB v : Nat) : Int) from by rw [UInt8.toNat_ofNat', Nat.mod_eq_of_lt (by omega)]]
    generalize lenB v = z at hle ⊢
    refine jA ?_
    refine OW_EV (EV_convII (r := (z : Int)) rfl (wrap_i64 (by omega) (by omega))) rfl ?_
    (repeat' first|refine kW ?_|refine kU fun bk=>?_|refine kV fun hc=>?_|refine kZ (fun hc=>?_) fun hc=>?_|fail)
    refine kR ?_
    exact ⟨_, iC, by simp [tupled], rfl⟩
theorem len_n (v : Nat) (L : List Chunk) (h : v < 65536) : GvP Try.prog 52 [.int .u64 (v : Int)].toArray L (.int .i64 ((lenB v : Nat) : Int)) := by
  refine Gv.of_body Try.func52 rfl rfl ?_
  have h6 := len64_n v L h
  (repeat' first|refine kW ?_|refine kU fun bk=>?_|refine kV fun hc=>?_|refine kZ (fun hc=>?_) fun hc=>?_|fail)
  refine OW_callP rfl rfl rfl h6 rfl ?_
  (repeat' first|refine kW ?_|refine kU fun bk=>?_|refine kV fun hc=>?_|refine kZ (fun hc=>?_) fun hc=>?_|fail)
  refine kR ?_
  exact ⟨_, iC, rfl, rfl⟩
end Go.Proofs.Ytmhlmlkndabgmaa
namespace Go.Proofs.Ytmhlmlkndabgmaa
open Go Go.Vx
variable [W0]
set_option maxRecDepth 4000
set_option linter.all false
theorem inssort_nil (f : Value) (hf : f.oneCell' = true) (L : List Chunk) : GvP Try.prog 67 [.slice none 0 0, .int .i64 0, .int .i64 0, f].toArray L (.tuple #[]) := by
  refine Gv.of_body (args := [.slice none 0 0, .int .i64 0, .int .i64 0, f]) Try.func67 rfl rfl ?_
  (repeat' first|refine kW ?_|refine kU fun bk=>?_|refine kV fun hc=>?_|refine kZ (fun hc=>?_) fun hc=>?_|fail)
  refine WC_loop (X := Unit) (fun _ => [(2, .int .i64 0), (8, .int .i64 1)]) (fun _ => L) (fun _ => True) (fun _ => 0) () trivial iS (fun w h => h) ?_
  intro _ _
  ((repeat' first|refine kW ?_|refine kU fun bk=>?_|refine kV fun hc=>?_|refine kZ (fun hc=>?_) fun hc=>?_|fail) <;> try exact absurd trivial hc)
  exact kE
theorem pdq_nil (f : Value) (hf : f.oneCell' = true) (l : Int) (L : List Chunk) : GvP Try.prog 51 [.slice none 0 0, .int .i64 0, .int .i64 0, .int .i64 l, f].toArray L (.tuple #[]) := by
  refine Gv.of_body (args := [.slice none 0 0, .int .i64 0, .int .i64 0, .int .i64 l, f]) Try.func51 rfl rfl ?_
  (repeat' first|refine kW ?_|refine kU fun bk=>?_|refine kV fun hc=>?_|refine kZ (fun hc=>?_) fun hc=>?_|fail)
  refine WC_loop (X := Unit) (fun _ => [(0, .slice none 0 0), (1, .int .i64 0), (2, .int .i64 0), (3, .int .i64 l), (4, f)]) (fun _ => L) (fun _ => True) (fun _ => 0) () trivial iS (fun w h => h) ?_
  intro _ _
  ((repeat' first|refine kW ?_|refine kU fun bk=>?_|refine kV fun hc=>?_|refine kZ (fun hc=>?_) fun hc=>?_|fail) <;> try exact absurd trivial hc)
  refine OW_callP rfl rfl rfl (inssort_nil f hf L) rfl ?_
  ((repeat' first|refine kW ?_|refine kU fun bk=>?_|refine kV fun hc=>?_|refine kZ (fun hc=>?_) fun hc=>?_|fail) <;> try exact absurd trivial hc)
  exact kE
theorem sort_nil (f : Value) (hf : f.oneCell' = true) (L : List Chunk) : GvP Try.prog 24 [.slice none 0 0, f].toArray L (.tuple #[]) := by
  refine Gv.of_body (args := [.slice none 0 0, f]) Try.func24 rfl rfl ?_
  (repeat' first|refine kW ?_|refine kU fun bk=>?_|refine kV fun hc=>?_|refine kZ (fun hc=>?_) fun hc=>?_|fail)
  refine OW_callP rfl rfl rfl (len_n 0 L (by decide)) rfl ?_
  (repeat' first|refine kW ?_|refine kU fun bk=>?_|refine kV fun hc=>?_|refine kZ (fun hc=>?_) fun hc=>?_|fail)
  refine OW_callP rfl rfl rfl (pdq_nil f hf _ L) rfl ?_
  (repeat' first|refine kW ?_|refine kU fun bk=>?_|refine kV fun hc=>?_|refine kZ (fun hc=>?_) fun hc=>?_|fail)
  exact kE
end Go.Proofs.Ytmhlmlkndabgmaa
namespace Go.Proofs.Ytmhlmlkndabgmaa
open Go Go.Vx Go.Pk Go.Ix
open Go.Ob (hshB)
set_option linter.all false
set_option maxRecDepth 40000
section
variable [W0]
theorem sl_col {L : List Chunk} {s : List Obv} {p : List UInt8} {x : IxC} {C1 C2 C3 C4 C5 C6 : Chunk} (h1 : Ow 5 1 x.c.v (ixF s 256).length (bsv (ixF s 256)) C1) (h2 : Ow 5 1 x.i.v (ixR s).length (bsv (ixR s)) C2)
    (h3 : Ow 5 1 x.r.v (ixC s).length (bsv (ixC s)) C3) (h4 : Ow 5 1 x.o.v (ixO 0 s).length (bsv (ixO 0 s)) C4) (h5 : Ow 5 1 x.f.v (ixL s).length (bsv (ixL s)) C5) (h6 : Ow 5 1 x.p.v (unL p).length (bsv (unL p)) C6) :
    ColW (C1 :: C2 :: C3 :: C4 :: C5 :: C6 :: L) s p x :=
  ⟨ow_sl h1, sl_there (ow_sl h2), sl_there (sl_there (ow_sl h3)), sl_there (sl_there (sl_there (ow_sl h4))), sl_there (sl_there (sl_there (sl_there (ow_sl h5)))), sl_there (sl_there (sl_there (sl_there (sl_there (ow_sl h6)))))⟩
def BdR (l : List Obv) (p : List UInt8) (L : List Chunk) (r : Value) (L' : List Chunk) : Prop :=
  (¬ IxOk l p ∧ r = .tuple #[.slice none 0 0, .int .i64 1] ∧ L' = L) ∨
  (IxOk l p ∧ ∃ (s : List Obv) (bv : Value) (C : Chunk), s.Perm l ∧ SrtI s ∧ r = .tuple #[bv, .int .i64 0] ∧ Ow 5 1 bv (ixW s p).length (bsv (ixW s p)) C ∧ L' = C :: L)
theorem isorted_n (v : Value) (l : List Obv) (C : Chunk) (L : List Chunk) (h : Ow 30 5 v l.length (l.flatMap enO) C) (hl : l.length ≤ 1000000) :
    Gv Try.prog 24 [v, .func (.func 25) #[] #[]].toArray (C :: L) (fun r L' => r = .tuple #[] ∧ ∃ (s : List Obv) (C' : Chunk), s.Perm l ∧ SrtI s ∧ Ow 30 5 v s.length (s.flatMap enO) C' ∧ L' = C' :: L) := by
  rcases h with ⟨rfl, e2, _, rfl⟩ | ⟨q, cap, rest, rfl, rfl, e3, e4, e5, e6⟩
  · obtain rfl : l = [] := List.length_eq_zero_iff.1 e2
    refine (sort_nil _ rfl ([] :: L)).mono fun r L' hp => ?_
    obtain ⟨rfl, rfl⟩ := hp
    exact ⟨rfl, [], [], List.Perm.nil, List.Pairwise.nil, .inl ⟨rfl, rfl, rfl, rfl⟩, rfl⟩
  · refine (isort_n q cap l rest 30 L hl).mono fun r L' hp => ?_
    obtain ⟨rfl, s, hp, hs, rfl⟩ := hp
    have hsl := hp.length_eq
    refine ⟨rfl, s, _, hp, hs, .inr ⟨q, cap, rest, by rw [hsl], rfl, flat_len enO 5 enO_len s, by rw [hsl]; exact e4, by omega, e6⟩, rfl⟩
set_option maxHeartbeats 16000000 in
theorem ibuild_n (v : Value) (l : List Obv) (p : List UInt8) (L : List Chunk) (hv : Sl L 5 v l.length (l.flatMap enO)) (hl : l.length ≤ 9223372036854775807) (hp : p.length ≤ 140737488355328) (hi : ∀ x ∈ l, x.1.1.id.length ≤ 140737488355328) :
    Gv Try.prog 9 [v, .string (str p)].toArray L (BdR l p L) := by
  obtain ⟨va, vc, rfl⟩ := sl_slice hv
  refine Gv.of_body (args := [.slice va l.length vc, .string (str p)]) Try.func9 rfl rfl ?_
  by_cases h96 : 4096 < l.length
  · have hno : ¬ IxOk l p := fun h => by have := h.len; omega
    (repeat' first|refine kW ?_|refine kU fun bk=>?_|refine kV fun hc=>?_|refine kZ (fun hc=>?_) fun hc=>?_|fail)
    refine kR ?_
    exact ⟨L, iC, .inl ⟨hno, rfl, rfl⟩⟩
  by_cases hall : l.all okIB = true
  rotate_left
  · have hno : ¬ IxOk l p := fun h => hall (List.all_eq_true.2 fun x hx => okIB_t.2 (h.ok x hx))
    have hcn := icontains_n _ l L hv (by omega) hi
    rw [Bool.eq_false_iff.2 hall] at hcn
    (repeat' first|refine kW ?_|refine kU fun bk=>?_|refine kV fun hc=>?_|refine kZ (fun hc=>?_) fun hc=>?_|fail)
    refine OW_callP rfl rfl rfl hcn rfl ?_
    (repeat' first|refine kW ?_|refine kU fun bk=>?_|refine kV fun hc=>?_|refine kZ (fun hc=>?_) fun hc=>?_|fail)
    refine kR ?_
    exact ⟨L, iC, .inl ⟨hno, rfl, rfl⟩⟩
  have hcn := icontains_n _ l L hv (by omega) hi
  rw [hall] at hcn
  by_cases hpk : hshB p = true
  rotate_left
  · have hno : ¬ IxOk l p := fun h => hpk h.pk
    have hpn := hash_n p L (by omega)
    rw [Bool.eq_false_iff.2 hpk] at hpn
    (repeat' first|refine kW ?_|refine kU fun bk=>?_|refine kV fun hc=>?_|refine kZ (fun hc=>?_) fun hc=>?_|fail)
    refine OW_callP rfl rfl rfl hcn rfl ?_
    (repeat' first|refine kW ?_|refine kU fun bk=>?_|refine kV fun hc=>?_|refine kZ (fun hc=>?_) fun hc=>?_|fail)
    refine OW_callP rfl rfl rfl hpn rfl ?_
    (repeat' first|refine kW ?_|refine kU fun bk=>?_|refine kV fun hc=>?_|refine kZ (fun hc=>?_) fun hc=>?_|fail)
    refine kR ?_
    exact ⟨L, iC, .inl ⟨hno, rfl, rfl⟩⟩
  have hpn := hash_n p L (by omega)
  rw [hpk] at hpn
  (repeat' first|refine kW ?_|refine kU fun bk=>?_|refine kV fun hc=>?_|refine kZ (fun hc=>?_) fun hc=>?_|fail)
  refine OW_callP rfl rfl rfl hcn rfl ?_
  (repeat' first|refine kW ?_|refine kU fun bk=>?_|refine kV fun hc=>?_|refine kZ (fun hc=>?_) fun hc=>?_|fail)
  refine OW_callP rfl rfl rfl hpn rfl ?_
  (repeat' first|refine kW ?_|refine kU fun bk=>?_|refine kV fun hc=>?_|refine kZ (fun hc=>?_) fun hc=>?_|fail)
  refine OW_call rfl rfl rfl (oclone_n _ l _ hv (by omega)) rfl (fun r L' hp => ?_)
  obtain ⟨C0, ho0, rfl⟩ := hp
  have hone0 := ow_one ho0
  obtain ⟨sa, sc, rfl⟩ := ow_slc ho0
  (repeat' first|refine kW ?_|refine kU fun bk=>?_|refine kV fun hc=>?_|refine kZ (fun hc=>?_) fun hc=>?_|fail)
  refine OW_call rfl rfl rfl (isorted_n (.slice sa l.length sc) l C0 L ho0 (by omega)) rfl (fun r L' hp => ?_)
  obtain ⟨rfl, s, C1, hsp, hss, ho1, rfl⟩ := hp
  have hsl := hsp.length_eq
  rw [← hsl] at h96 ⊢
  rw [← hsl] at ho1
  have hpk40 : p.length = 40 := by unfold Go.Ob.hshB at hpk; rw [Bool.and_eq_true, decide_eq_true_iff] at hpk; exact hpk.1
  have hok : ∀ x ∈ s, okI x := fun x hx => okIB_t.1 (List.all_eq_true.1 hall x (hsp.mem_iff.1 hx))
  have hrow : ∀ (i : Nat) (x : Obv), s[i]? = some x → ∃ b off, sa = some ⟨b, off, none⟩ ∧ RdAt (C1 :: L) ⟨b, off + i * 5, none⟩ (enO x) := fun i x hx => by
    obtain ⟨b1, o1, c1, hvv, hr⟩ := row_at enO_len (ow_sl (L := L) ho1) hx (by decide)
    injection hvv with w1 w2 w3
    exact ⟨b1, o1, w1, hr⟩
  (repeat' first|refine kY ?_|refine kU fun bk=>?_|refine kV fun hc=>?_|refine kZ (fun hc=>?_) fun hc=>?_|fail)
  refine WC_cut (X := Unit) (fun _ => [(0, .slice sa s.length sc), (1, .string (str p))]) (fun _ => C1 :: L) (fun _ => IxOk l p) ?_ ?_
  · (repeat' first|refine kW ?_|refine kU fun bk=>?_|refine kV fun hc=>?_|refine kZ (fun hc=>?_) fun hc=>?_|fail)
    refine WC_loop (X := Nat) (fun i => [(0, .slice sa s.length sc), (1, .string (str p)), (6, .int .i64 (i : Int))]) (fun _ => C1 :: L) (fun i => 1 ≤ i ∧ (i ≤ s.length ∨ i = 1) ∧ ∀ (j : Nat) (a b : Obv), j + 1 < i → s[j]? = some a → s[j + 1]? = some b → b.1.1.id ≠ a.1.1.id) (fun i => s.length - i) 1 ⟨Nat.le_refl _, .inr rfl, fun j a b hj => by omega⟩ iS (fun w h => h) ?_
    rintro i ⟨h1, h2, h3⟩
    by_cases hlt : i < s.length
    · obtain ⟨x, hx⟩ : ∃ x, s[i]? = some x := ⟨s[i], by simp [hlt]⟩
      obtain ⟨y, hy⟩ : ∃ y, s[i - 1]? = some y := ⟨s[i - 1]'(by omega), by rw [List.getElem?_eq_getElem]⟩
      obtain ⟨b1, o1, hsa, hrx⟩ := hrow i x hx
      obtain ⟨b2, o2, hsa2, hry⟩ := hrow (i - 1) y hy
      rw [hsa] at hsa2
      injection hsa2 with f0
      injection f0 with f1 f2
      subst f1 f2
      obtain ⟨bp, bn, bc, hbs, hcs⟩ := enO_lit x
      obtain ⟨yp, yn, yc, hys, hcy⟩ := enO_lit y
      rw [hcs] at hrx
      rw [hcy] at hry
      obtain ⟨cb, Tb, fb, gb1, gb2⟩ := RdAt.cellAt hrx (j := 2) (u := .string (str x.1.1.id)) rfl
      obtain ⟨ca, Ta, fa, ga1, ga2⟩ := RdAt.cellAt hry (j := 2) (u := .string (str y.1.1.id)) rfl
      obtain ⟨k, hk⟩ : ∃ k, k = decide (str y.1.1.id = str x.1.1.id) := ⟨_, rfl⟩
      subst hsa
      ((repeat' first|refine kW ?_|refine kU fun bk=>?_|refine kV fun hc=>?_|refine kZ (fun hc=>?_) fun hc=>?_|fail) <;> try exact absurd trivial hc)
      refine WC_drawAll [] mixed ?_
      (refine WR_t 0 ?_; refine WR_t 1 ?_; refine WR_t 2 ?_)
      (refine WR_take 3 rfl rfl (by kernel_rfl) iP iC (EV_indexAddr (j := i - 1) rfl rfl (by omega) (by omega)) (by rfl) ?_)
      (refine WR_t 4 ?_)
      (refine WR_take 5 rfl rfl (by kernel_rfl) iP iC (EV_load rfl ga1 ga2) (by rfl) ?_)
      (refine WR_t 6 ?_; refine WR_t 7 ?_)
      (refine WR_take 8 rfl rfl (by kernel_rfl) iP iC (EV_indexAddr (j := i) rfl rfl rfl hlt) (by rfl) ?_)
      (refine WR_t 9 ?_)
      (refine WR_take 10 rfl rfl (by kernel_rfl) iP iC (EV_load rfl gb1 gb2) (by rfl) ?_)
      (refine WR_t 11 ?_)
      rw [← hk]
      (refine WR_done (by kernel_rfl) ?_)
      cases k with
      | true =>
        have he : x.1.1.id = y.1.1.id := (Go.Ob.str_inj.1 (of_decide_eq_true hk.symm)).symm
        have hno : ¬ IxOk l p := fun h => by
          have hnd : (s.map fun x => x.1.1.id).Nodup := (hsp.map _).nodup_iff.2 h.one
          have hlt1 : i - 1 < s.length := by omega
          have e1 : (s.map fun x => x.1.1.id)[i]? = some x.1.1.id := by rw [List.getElem?_map, hx]; rfl
          have e2 : (s.map fun x => x.1.1.id)[i - 1]? = some x.1.1.id := by rw [List.getElem?_map, hy, he]; rfl
          have := (List.getElem?_inj (by rw [List.length_map]; exact hlt) hnd).1 (e1.trans e2.symm)
          omega
        ((repeat' first|refine kW ?_|refine kU fun bk=>?_|refine kV fun hc=>?_|refine kZ (fun hc=>?_) fun hc=>?_|fail) <;> try exact absurd trivial hc)
        (first | refine WQ_retH rfl rfl ?_ | refine WQ_endH rfl rfl ?_)
        exact ⟨L, fun w h => (iC : Inc L _).holds h, .inl ⟨hno, rfl, rfl⟩⟩
      | false =>
        have he : x.1.1.id ≠ y.1.1.id := fun w => of_decide_eq_false hk.symm (by rw [w])
        ((repeat' first|refine kW ?_|refine kU fun bk=>?_|refine kV fun hc=>?_|refine kZ (fun hc=>?_) fun hc=>?_|fail) <;> try exact absurd trivial hc)
        refine WQ_round (X := Nat) (μ := fun i => s.length - i) (x := i) (i + 1) (by omega) ⟨by omega, .inl (by omega), fun j a b hj ha hb => ?_⟩ iS (fun w h => h)
        by_cases w : j + 1 = i
        · subst w
          rw [Nat.add_sub_cancel] at hy
          rw [hy] at ha; rw [hx] at hb
          injection ha with ha; injection hb with hb
          subst ha hb
          exact he
        · exact h3 j a b (by omega) ha hb
    · ((repeat' first|refine kW ?_|refine kU fun bk=>?_|refine kV fun hc=>?_|refine kZ (fun hc=>?_) fun hc=>?_|fail) <;> try exact absurd trivial hc)
      refine WQ_cut () ⟨by omega, hpk, fun x hx => okIB_t.1 (List.all_eq_true.1 hall x hx), ?_⟩ iS (fun w h => h)
      refine (hsp.map _).nodup_iff.1 (adj_nodup hss fun j a b ha hb => h3 j a b ?_ ha hb)
      have := (List.getElem?_eq_some_iff.1 hb).1
      omega
  intro _ hix
  have hS := IxS.of hix hsp hss
  (repeat' first|refine kW ?_|refine kU fun bk=>?_|refine kV fun hc=>?_|refine kZ (fun hc=>?_) fun hc=>?_|fail)
  refine OW_call rfl rfl rfl (icolumns_n _ s p _ (ow_sl ho1) hS) rfl (fun r L' hp => ?_)
  obtain ⟨x, D1, D2, D3, D4, D5, D6, rfl, g1, g2, g3, g4, g5, g6, rfl⟩ := hp
  refine WL_holds (L' := D1 :: D2 :: D3 :: D4 :: D5 :: D6 :: C1 :: L) (fun w h => h) ?_
  have hby := ibytes_n x s p (D1 :: D2 :: D3 :: D4 :: D5 :: D6 :: C1 :: L) hS (sl_col g1 g2 g3 g4 g5 g6)
  obtain ⟨⟨ca, cn, cc⟩, ⟨ia, i_n, ic⟩, ⟨ra, rn, rc⟩, ⟨oa, on, oc⟩, ⟨fa, fn, fc⟩, ⟨pa, pn, pc⟩⟩ := x
  simp only [IxC.vs, Sc.v] at hby ⊢
  (repeat' first|refine kW ?_|refine kU fun bk=>?_|refine kV fun hc=>?_|refine kZ (fun hc=>?_) fun hc=>?_|fail)
  refine OW_call rfl rfl rfl hby rfl (fun r L' hp => ?_)
  obtain ⟨Cw, how, rfl⟩ := hp
  have hone := ow_one how
  (repeat' first|refine kW ?_|refine kU fun bk=>?_|refine kV fun hc=>?_|refine kZ (fun hc=>?_) fun hc=>?_|fail)
  refine kR ?_
  exact ⟨Cw :: L, iC, .inr ⟨hix, s, _, Cw, hsp, hss, rfl, how, rfl⟩⟩
end
end Go.Proofs.Ytmhlmlkndabgmaa
namespace Go.Proofs.Ytmhlmlkndabgmaa
open Go Go.Vx Go.Pk Go.Ix
set_option linter.all false
set_option maxRecDepth 40000
section
variable [W0]
def PxQ (b : List UInt8) (r : Value) (C : Chunk) : Prop :=
  (pxE b ≠ 0 ∧ r = .tuple #[.slice none 0 0, .string .empty, .int .i64 (pxE b : Int)] ∧ C = []) ∨
  (pxE b = 0 ∧ ∃ v, r = .tuple #[v, .string (str (pxPk b)), .int .i64 0] ∧ Ow 30 5 v (pxL b).length ((pxL b).flatMap enO) C)
set_option maxHeartbeats 16000000 in
theorem iparse_n (v : Value) (b : List UInt8) (L : List Chunk) (h : Rs L 1 v b.length (bsv b)) (hb : b.length ≤ 1000000) :
    Gv Try.prog 14 [v].toArray L (fun r L' => ∃ C, PxQ b r C ∧ L' = C :: L) := by
  obtain ⟨va, vc, rfl⟩ := rs_val h
  refine Gv.of_body (args := [.slice va b.length vc]) Try.func14 rfl rfl ?_
  (repeat' first|refine kW ?_|refine kU fun bk=>?_|refine kV fun hc=>?_|refine kZ (fun hc=>?_) fun hc=>?_|fail)
  refine OW_call rfl rfl rfl (iopen_n _ b L h hb) rfl (fun r L' hp => ?_)
  obtain ⟨hL, hp⟩ := hp
  have hL := hL.symm
  subst hL
  rcases hp with ⟨he, hok, x, hx, rfl⟩ | ⟨he, rfl⟩
  rotate_left
  · obtain ⟨e, hee⟩ : ∃ e, e = pxE b := ⟨_, rfl⟩
    rw [← hee] at he ⊢
    (repeat' first|refine kW ?_|refine kU fun bk=>?_|refine kV fun hc=>?_|refine kZ (fun hc=>?_) fun hc=>?_|fail)
    refine WQ_holds (L' := [] :: L) (fun w h => Holds.nil.2 ((iC : Inc L _).holds h)) ?_
    refine kR ?_
    exact ⟨[] :: L, iC, [], .inl ⟨by rw [← hee]; exact he, by rw [← hee]; rfl, rfl⟩, rfl⟩
  have hmo := hok.most
  have hlen := hok.len
  obtain ⟨n, hn⟩ : ∃ n, n = pxN b := ⟨_, rfl⟩
  have hli := pcB_len (b := b) (s := 1032) (k := 20 * pxN b) (by omega)
  have hin : x.i.n = 20 * n := by have := (sc_rs hx.i).1; omega
  have hxp := hx.p
  have hpl := pcB_len (b := b) (s := b.length - 40) (k := 20) (by omega)
  have hcnt := fun L => icount_n x n L hin (by omega)
  have hid := fun i hi C D => iid_p x b i (C :: D :: L) hx.up.up hi hb
  have hat := fun i hi C D => iat_n x b i (C :: D :: L) hx.up.up hok hi hb
  have hcr := fun i hi C D => icrc_n x b i (C :: D :: L) hx.up.up hi hb
  obtain ⟨⟨ca, cn, cc⟩, ⟨ia, i_n, ic⟩, ⟨ra, rn, rc⟩, ⟨oa, on, oc⟩, ⟨fa, fn, fc⟩, ⟨pa, pn, pc⟩⟩ := x
  simp only [IxC.vs, Sc.v] at hcnt hid hat hcr ⊢
  have hpn : pn = (pcB b (b.length - 40) 20).length := (sc_rs hxp).1
  subst hpn
  (repeat' first|refine kW ?_|refine kU fun bk=>?_|refine kV fun hc=>?_|refine kZ (fun hc=>?_) fun hc=>?_|fail)
  refine OW_callP rfl rfl rfl (hcnt _) rfl ?_
  (repeat' first|refine kW ?_|refine kU fun bk=>?_|refine kV fun hc=>?_|refine kZ (fun hc=>?_) fun hc=>?_|fail)
  revert bk; intro q
  refine WC_loop (X := Nat × Value × Chunk) (fun z => [(2, z.2.1), (5, .pointer (some ⟨q, 0, none⟩)), (16, .int .i64 (n : Int)), (17, .int .i64 (z.1 : Int))]) (fun z => [(q, cl [.slice ca cn cc, .slice ia i_n ic, .slice ra rn rc, .slice oa on oc, .slice fa fn fc, .slice pa (pcB b (b.length - 40) 20).length pc] 61)] :: z.2.2 :: L)
    (fun z => z.1 ≤ n ∧ Ow 30 5 z.2.1 z.1 (((List.range z.1).map (pxO b)).flatMap enO) z.2.2) (fun z => n - z.1) (0, .slice none 0 0, []) ⟨Nat.zero_le _, .inl ⟨rfl, rfl, rfl, rfl⟩⟩ iS (fun w h => (iC : Inc ([(q, cl [.slice ca cn cc, .slice ia i_n ic, .slice ra rn rc, .slice oa on oc, .slice fa fn fc, .slice pa (pcB b (b.length - 40) 20).length pc] 61)] :: [] :: L) ([] :: [(q, cl [.slice ca cn cc, .slice ia i_n ic, .slice ra rn rc, .slice oa on oc, .slice fa fn fc, .slice pa (pcB b (b.length - 40) 20).length pc] 61)] :: L)).holds (Holds.nil.2 h)) ?_
  rintro ⟨i, lv, Ci⟩ ⟨q1, q2⟩
  simp only at q1 q2 ⊢
  by_cases hlt : i < n
  · have hii : i < pxN b := by omega
    obtain ⟨la, lc, rfl⟩ := ow_slc q2
    have hati := hat i hii
    have hidi := hid i hii
    have hcri := hcr i hii
    have hil := pxId_len (by omega : 1072 + 28 * pxN b ≤ b.length) hii
    have hrow := hok.rows i hii
    obtain ⟨xa, hxa⟩ : ∃ xa, xa = pxAt b i := ⟨_, rfl⟩
    rw [← hxa] at hati
    (repeat' first|refine kW ?_|refine kU fun bk=>?_|refine kV fun hc=>?_|refine kZ (fun hc=>?_) fun hc=>?_|fail)
    refine WC_drawAll [13, 14] mixed ?_
    (refine WR_t 0 ?_; refine WR_t 1 ?_; refine WR_t 2 ?_; refine WR_t 5 ?_; refine WR_t 6 ?_; refine WR_t 8 ?_; refine WR_t 9 ?_)
    (refine WR_one 3 (by kernel_rfl) rfl rfl ?_)
    refine OW_call rfl rfl rfl (hidi _ _) rfl (fun r L' hp => ?_)
    obtain ⟨qi, rfl⟩ := hp
    refine ⟨iC, ?_⟩
    (refine WR_one 4 (by kernel_rfl) rfl rfl ?_)
    refine OW_callP rfl rfl rfl (hex_n (pxId b i) _ _ (by omega) ⟨qi.sl, qi.room⟩) rfl ?_
    refine ⟨iC, ?_⟩
    (refine WR_one 7 (by kernel_rfl) rfl rfl ?_)
    refine OW_callP rfl rfl rfl (hati _ _) rfl ?_
    refine ⟨iC, ?_⟩
    (refine WR_one 10 (by kernel_rfl) rfl rfl ?_)
    refine OW_callP rfl rfl rfl (hcri _ _) rfl ?_
    refine ⟨iC, ?_⟩
    (refine WR_t 11 ?_)
    (refine WR_one 12 (by kernel_rfl) rfl rfl ?_)
    refine OW_buildSlice (cs := enO (pxO b i)) rfl (by rfl) (by rw [hxa]; first | rfl | (simp [fillL, patch, Value.cells, zeros]; done) | (simp [fillL, patch, Value.cells, zeros]; rfl)) (by omega) rfl rfl (fun b2 => ?_)
    refine ⟨iC, ?_⟩
    (refine WR_last 13 (by kernel_rfl) rfl rfl rfl ?_)
    refine OW_append rfl rfl q2 (sl_cells (k := 5) (c := (enO (pxO b i)).toArray) (xs := enO (pxO b i)) (m := 1) Fnd.here rfl rfl) (by repeat (first | exact Zip.here _ | apply Zip.there)) rfl rfl (by omega) (by unfold maxLen; omega) rfl (fun v1 C1 g2 _ _ => ?_)
    have hsn : ((List.range i).map (pxO b)).flatMap enO ++ enO (pxO b i) = ((List.range (i + 1)).map (pxO b)).flatMap enO := by rw [List.range_succ, List.map_append, List.flatMap_append]; simp
    rw [hsn] at g2
    have hone := ow_one g2
    (refine WR_last 14 (by kernel_rfl) rfl rfl rfl ?_)
    refine OW_EV (EV_assign rfl) rfl ?_
    (refine WR_done (by kernel_rfl) ?_)
    (repeat' first|refine kW ?_|refine kU fun bk=>?_|refine kV fun hc=>?_|refine kZ (fun hc=>?_) fun hc=>?_|fail)
    exact WQ_round (X := Nat × Value × Chunk) (μ := fun z => n - z.1) (x := (i, .slice la i lc, Ci)) (i + 1, v1, C1) (by simp only; omega) ⟨by simp only; omega, g2⟩ iS (fun w h => (iC : Inc ([(q, cl [.slice ca cn cc, .slice ia i_n ic, .slice ra rn rc, .slice oa on oc, .slice fa fn fc, .slice pa (pcB b (b.length - 40) 20).length pc] 61)] :: C1 :: L) _).holds h)
  · obtain rfl : i = n := by omega
    obtain ⟨la, lc, rfl⟩ := ow_slc q2
    have hpl2 : (pxL b).length = i := by unfold pxL; rw [List.length_map, List.length_range, ← hn]
    have hpl3 : (pxL b).flatMap enO = ((List.range i).map (pxO b)).flatMap enO := by unfold pxL; rw [← hn]
    have hog2 : Ow 30 5 (.slice la i lc) (pxL b).length ((pxL b).flatMap enO) Ci := by rw [hpl2, hpl3]; exact q2
    (repeat' first|refine kW ?_|refine kU fun bk=>?_|refine kV fun hc=>?_|refine kZ (fun hc=>?_) fun hc=>?_|fail)
    refine OW_callP rfl rfl rfl (hex_n (pcB b (b.length - 40) 20) _ _ (by omega) ⟨by repeat (first | exact hxp.sl | apply sl_there), hxp.room⟩) rfl ?_
    (repeat' first|refine kW ?_|refine kU fun bk=>?_|refine kV fun hc=>?_|refine kZ (fun hc=>?_) fun hc=>?_|fail)
    refine kR ?_
    exact ⟨Ci :: L, iC, Ci, .inr ⟨he, .slice la i lc, rfl, hog2⟩, rfl⟩
end
end Go.Proofs.Ytmhlmlkndabgmaa
namespace Go.Proofs.Ytmhlmlkndabgmaa
open Go Go.Vx Go.Pk Go.Ix
open Go.Ob (hshB zrL)
set_option linter.all false
set_option maxRecDepth 40000
section
variable [W0]
theorem zero12_n (L : List Chunk) : GvP Try.prog 37 [].toArray L (.string (str zrL)) := by
  refine Gv.of_body Try.func37 rfl rfl ?_
  (repeat' first|refine kW ?_|refine kU fun bk=>?_|refine kV fun hc=>?_|refine kZ (fun hc=>?_) fun hc=>?_|fail)
  exact kE
theorem ixok_nil : IxOk [] zrL := ⟨by decide, by decide +kernel, fun x hx => by simp at hx, by simp⟩
set_option maxHeartbeats 8000000 in
theorem awake12_n (L : List Chunk) : GvP Try.prog 12 [].toArray L (.bool true) := by
  have hz : zrL.length = 40 := rfl
  have hb := fun L => ibuild_n (.slice none 0 0) [] zrL L (.inl ⟨0, rfl, rfl, rfl⟩) (by decide) (by omega) (fun x hx => by simp at hx)
  refine Gv.of_body (args := []) Try.func12 rfl rfl ?_
  (repeat' first|refine kW ?_|refine kU fun bk=>?_|refine kV fun hc=>?_|refine kZ (fun hc=>?_) fun hc=>?_|fail)
  refine OW_callP rfl rfl rfl (zero12_n _) rfl ?_
  (repeat' first|refine kW ?_|refine kU fun bk=>?_|refine kV fun hc=>?_|refine kZ (fun hc=>?_) fun hc=>?_|fail)
  refine OW_call rfl rfl rfl (hb _) rfl (fun r L' hp => ?_)
  rcases hp with ⟨hno, _⟩ | ⟨hix, s, bv, C, hsp, hss, rfl, how, rfl⟩
  · exact absurd ixok_nil hno
  have hS := IxS.of hix hsp hss
  obtain rfl : s = [] := List.length_eq_zero_iff.1 hsp.length_eq
  have hW := ixW_len hS
  rw [show farK ([] : List Obv) = 0 from rfl] at hW
  have hn := px_n hS
  have he := px_e hS
  obtain ⟨W, hWW⟩ : ∃ W, W = ixW [] zrL := ⟨_, rfl⟩
  rw [← hWW] at how hW hn he
  have hW2 : W.length = 1072 := hW
  obtain ⟨ba, bc, rfl⟩ := ow_slc how
  (repeat' first|refine kW ?_|refine kU fun bk=>?_|refine kV fun hc=>?_|refine kZ (fun hc=>?_) fun hc=>?_|fail)
  refine OW_callP rfl rfl rfl (zero12_n _) rfl ?_
  (repeat' first|refine kW ?_|refine kU fun bk=>?_|refine kV fun hc=>?_|refine kZ (fun hc=>?_) fun hc=>?_|fail)
  refine OW_call rfl rfl rfl (ifind_n _ W zrL _ (Rs.ow how) (by omega) (by omega)) rfl (fun r L' hp => ?_)
  obtain ⟨rfl, hp⟩ := hp
  rcases hp with ⟨i, hi, _⟩ | ⟨_, rfl⟩
  · rw [hn] at hi; exact absurd hi (Nat.not_lt_zero _)
  (repeat' first|refine kW ?_|refine kU fun bk=>?_|refine kV fun hc=>?_|refine kZ (fun hc=>?_) fun hc=>?_|fail)
  refine OW_call rfl rfl rfl (iparse_n _ W _ (Rs.ow how) (by omega)) rfl (fun r L' hp => ?_)
  obtain ⟨D, hp, rfl⟩ := hp
  rcases hp with ⟨h0, _⟩ | ⟨_, lv, rfl, hlo⟩
  · exact absurd he h0
  obtain ⟨la, lc, rfl⟩ := ow_slc hlo
  (repeat' first|refine kW ?_|refine kU fun bk=>?_|refine kV fun hc=>?_|refine kZ (fun hc=>?_) fun hc=>?_|fail)
  exact kE
end
end Go.Proofs.Ytmhlmlkndabgmaa
namespace Go.Proofs.Ytmhlmlkndabgmaa
open Go Go.Vx Go.Pk Go.Ix
open Go.Ob (hshB)
set_option linter.all false
set_option maxRecDepth 40000
section
variable [W0]
theorem un_inj {a b : List UInt8} (ha : hshB a = true) (hb : hshB b = true) (h : unL a = unL b) : a = b := by
  rw [← hex_un ha, ← hex_un hb, h]
theorem back_find {s l : List Obv} {p id : List UInt8} {r : Value} (hS : IxS s p) (hsp : s.Perm l) (hF : FdR (ixW s p) id r) :
    (∃ x ∈ l, x.1.1.id = id ∧ r = .tuple #[.int .i64 x.1.1.at_, .bool true]) ∨ ((∀ x ∈ l, x.1.1.id ≠ id) ∧ r = .tuple #[.int .i64 0, .bool false]) := by
  rcases hF with ⟨i, hi, he, hh, hid, rfl⟩ | ⟨hno, rfl⟩
  · rw [px_n hS] at hi
    have hy : s[i]? = some s[i] := List.getElem?_eq_getElem hi
    obtain ⟨y, hyy⟩ : ∃ y, y = s[i] := ⟨_, rfl⟩
    rw [← hyy] at hy
    have hym := List.mem_of_getElem? hy
    have hyo := hS.ok y hym
    rw [px_id hS hy] at hid
    refine .inl ⟨y, hsp.mem_iff.1 hym, un_inj hyo.1 hh hid, ?_⟩
    rw [px_at hS hy, Int.toNat_of_nonneg hyo.2.1]
  · refine .inr ⟨fun x hx hid => hno ⟨px_e hS, ?_, ?_⟩, rfl⟩
    · rw [← hid]; exact (hS.ok x (hsp.mem_iff.2 hx)).1
    · obtain ⟨i, hi, hxi⟩ := List.getElem_of_mem (hsp.mem_iff.2 hx)
      refine ⟨i, by rw [px_n hS]; exact hi, ?_⟩
      rw [px_id hS (by rw [List.getElem?_eq_getElem hi, hxi]), hid]
def hasB (m : List Obv) (o : List UInt8) : Bool := m.any fun x => decide (str x.1.1.id = str o)
theorem hasB_snoc {l : List Obv} {i : Nat} {x : Obv} (hx : l[i]? = some x) (o : List UInt8) : hasB (l.take (i + 1)) o = (hasB (l.take i) o || decide (str x.1.1.id = str o)) := by
  unfold hasB
  rw [List.take_add_one, hx, List.any_append]
  simp
theorem hasB_t {l : List Obv} {x : Obv} (hx : x ∈ l) : hasB l x.1.1.id = true := List.any_eq_true.2 ⟨x, hx, decide_eq_true rfl⟩
theorem hasB_f {l : List Obv} {o : List UInt8} (h : ∀ x ∈ l, x.1.1.id ≠ o) : hasB l o = false := by
  rw [Bool.eq_false_iff]
  intro w
  obtain ⟨x, hx, e⟩ := List.any_eq_true.1 w
  exact h x hx (Go.Ob.str_inj.1 (of_decide_eq_true e))
theorem nodup_at {l : List Obv} (h : (l.map fun x => x.1.1.id).Nodup) {x y : Obv} (hx : x ∈ l) (hy : y ∈ l) (e : x.1.1.id = y.1.1.id) : x = y := by
  obtain ⟨i, hi, rfl⟩ := List.getElem_of_mem hx
  obtain ⟨j, hj, rfl⟩ := List.getElem_of_mem hy
  have e1 : (l.map fun x => x.1.1.id)[i]? = some l[i].1.1.id := by rw [List.getElem?_map, List.getElem?_eq_getElem hi]; rfl
  have e2 : (l.map fun x => x.1.1.id)[j]? = some l[i].1.1.id := by rw [List.getElem?_map, List.getElem?_eq_getElem hj, e]; rfl
  have := (List.getElem?_inj (by rw [List.length_map]; exact hi) h).1 (e1.trans e2.symm)
  subst this
  rfl
end
end Go.Proofs.Ytmhlmlkndabgmaa
namespace Go.Vx
open Go
set_option linter.all false
variable [W0]
section
variable {P : Program} {n : Nat} {M : List (Nat × Value)} {L : List Chunk} {K : List (Nat × Value) → List Chunk → Prop}
variable {d : Nat} {ty : TypeId} {ps : String} {af : Array Edge} {g : Option (Nat × Bool)} {x y : Operand} {v : Value}
theorem EF_shr {t u : TypeId} {k k' : IntKind} {i j r : Int} (hx : ev M x = some (.int k i)) (hy : ev M y = some (.int k' j)) (hj : 0 ≤ j) (hr : i.fdiv (2 ^ (min j.toNat k.bits)) = r) :
    EF P n ⟨some d, .binOp .shr t x y u, ty, ps, af, g⟩ M d (.int k r) :=
  ⟨rfl, fun a w ha => by
    have : ¬ j < 0 := by omega
    simp [execOp, ha.eval hx, ha.eval hy, eqGuard, binOp, Op.shift, this, hr]⟩
theorem EF_mask {t u : TypeId} {k : IntKind} {i m p : Int} (hx : ev M x = some (.int k i)) (hy : ev M y = some (.int k m)) (hm : maskI k m = some p) :
    EF P n ⟨some d, .binOp .and t x y u, ty, ps, af, g⟩ M d (.int k (i % p)) :=
  ⟨rfl, fun a w ha => by
    have hb := bits_mask (i := i) hm
    have : bitI .and k i m = some (i % p) := by unfold bitI; exact congrArg some hb
    simp [bitI] at this
    simp [execOp, ha.eval hx, ha.eval hy, eqGuard, binOp, Op.intBits, this]⟩
theorem EF_indexStr {T : Nat} [hs : ST P T] {s : ByteArray} {j : Nat} {kk : IntKind} {i : Int} {u : UInt8} (hx : ev M x = some (.string s)) (hy : ev M y = some (.int kk i)) (hj : i = (j : Int)) (hu : s[j]? = some u) :
    EF P n ⟨some d, .index T x y, ty, ps, af, g⟩ M d (.int .u8 (u.toNat : Int)) :=
  ⟨rfl, fun a w ha => by
    subst hj
    simp [execOp, ha.eval hx, ha.eval hy, Instr.index, asIntOf, underlying, hs.out, hu]⟩
theorem OW_storeF {t : TypeId} [hs : SZ P t 1] {b off : Nat} {c : List Value} {T : TypeId} {fr : Nat × Nat} {L' : List Chunk} (c' : List Value) (hx : ev M x = some (.pointer (some ⟨b, off, none⟩))) (hy : ev M y = some v) (hv : v.oneCell' = true)
    (hc : c.set off v = c') (hu : Upd L b (.cells c.toArray T fr) (.cells c'.toArray T fr) L') (hlt : off < c.length) (hfr : ¬ (fr.1 ≤ off ∧ off < fr.2)) (h : K M L') :
    OW P n ⟨none, .store t x y, ty, ps, af, g⟩ K M L := ⟨fun a w next Q ha hw hk => by
  have hb := hu.fnd.get hw
  have hcell : w.cell? ⟨b, off, none⟩ = some c[off] := by rw [cell_of hb]; simp [hlt]
  have hfz : w.frozen? ⟨b, off, none⟩ = false := by simp [World.frozen?, hb]; omega
  have hcs : v.cells = #[v] := by cases v <;> simp [Value.oneCell'] at hv <;> rfl
  have hrun : (execOp a.eval ⟨none, .store t x y, ty, ps, af, g⟩).run P w = .ok .skip (w.setCell ⟨b, off, none⟩ v) := by
    simp [execOp, ha.eval hx, ha.eval hy, Instr.storeAt, Instr.sureAddr, storeVar, sizeOf_run hs.out, hcs, storeCells, run_store _ _ _ _ _ hv, Addr.add, hcell, hfz]
  unfold Oper.wp
  rw [hrun, Oper.upon_skip]
  refine (hk _ _ h).out _ _ ha (hw.upd hu ?_ ?_ rfl rfl)
  · rw [setCell_at hb, ← hc]; simp
  · exact fun c hc => setCell_ne hc⟩
end
theorem bsv_put {xs : List UInt8} {rest : List Value} {k : Nat} (h : k < xs.length) (y : UInt8) : (bsv xs ++ rest).set k (.int .u8 (y.toNat : Int)) = bsv (xs.set k y) ++ rest := by
  rw [List.set_append_left _ _ (by rw [bsv_length]; exact h)]
  congr 1
  unfold bsv
  rw [List.map_set]
theorem owf_open {e m : Nat} {v : Value} {xs : List UInt8} {C : Chunk} (h : OwF e 1 v m (bsv xs) C) : ∃ b cap rest fr, v = .slice (some ⟨b, 0, none⟩) m cap ∧ C = [(b, .cells (bsv xs ++ rest).toArray e fr)] ∧ xs.length = m ∧ FrOk fr (m + rest.length) ∧
    ∀ ys : List UInt8, ys.length = m → OwF e 1 v m (bsv ys) [(b, .cells (bsv ys ++ rest).toArray e fr)] := by
  obtain ⟨b, cap, rest, fr, rfl, rfl, hxl, hrl, hmc, hcm, hfr⟩ := h
  have hl : xs.length = m := by rw [bsv_length] at hxl; omega
  have hfr' : FrOk fr (m + rest.length) := by rw [List.length_append, bsv_length, hl] at hfr; exact hfr
  exact ⟨b, cap, rest, fr, rfl, rfl, hl, hfr', fun ys hy => ⟨b, cap, rest, fr, rfl, rfl, by rw [bsv_length]; omega, hrl, hmc, hcm, by rw [List.length_append, bsv_length, hy]; exact hfr'⟩⟩
end Go.Vx
namespace Go.Proofs.Ytmhlmlkndabgmaa
open Go Go.Vx Go.Ix
open Go.Ob (hshB)
set_option linter.all false
set_option maxRecDepth 4000
section
variable [W0]
theorem hsh_hex {B : List UInt8} (h : B.length = 20) : hshB (hexL B) = true := by
  unfold Go.Ob.hshB
  rw [unB_hex, hexL_length, h]
  rfl
theorem hsh_two {s : List UInt8} (h : hshB s = true) {a b : Nat} (ha : a < 16) (hb : b < 16) : hshB ((s.set 0 (dig a)).set 1 (dig b)) = true := by
  have hu : (unL s).length = 20 := by
    unfold Go.Ob.hshB at h
    rw [Bool.and_eq_true, decide_eq_true_iff] at h
    unfold unL
    rw [if_pos h.2, outN_length, h.1]
  have hs := hex_un h
  match hB : unL s, hu with
  | y :: T, hl =>
    rw [hB] at hs
    have : (s.set 0 (dig a)).set 1 (dig b) = hexL (UInt8.ofNat (16 * a + b) :: T) := by
      rw [← hs]
      unfold hexL hexB
      rw [show (UInt8.ofNat (16 * a + b)).toNat = 16 * a + b from by rw [UInt8.toNat_ofNat', Nat.mod_eq_of_lt (by omega)], show (16 * a + b) / 16 = a from by omega, show (16 * a + b) % 16 = b from by omega]
      rfl
    rw [this]
    exact hsh_hex (by simpa using hl)
end
end Go.Proofs.Ytmhlmlkndabgmaa
namespace Go.Proofs.Ytmhlmlkndabgmaa
open Go Go.Vx Go.Pk Go.Ix
open Go.Ob (hshB idL dgL)
set_option linter.all false
set_option maxRecDepth 40000
section
variable [W0]
set_option maxHeartbeats 4000000 in
theorem indexof_n (c : UInt8) (L : List Chunk) : Gv Try.prog 11 [.int .u8 (c.toNat : Int)].toArray L (fun r L' => ∃ k : Nat, k < 16 ∧ r = .int .i64 (k : Int) ∧ L' = L) := by
  refine Gv.of_body (args := [.int .u8 (c.toNat : Int)]) Try.func11 rfl rfl ?_
  (repeat' first|refine kW ?_|refine kU fun bk=>?_|refine kV fun hc=>?_|refine kZ (fun hc=>?_) fun hc=>?_|fail)
  refine WC_loop (X := Nat) (fun i => [(0, .int .u8 (c.toNat : Int)), (3, .int .i64 (i : Int))]) (fun _ => L) (fun i => i ≤ 16) (fun i => 16 - i) 0 (Nat.zero_le _) iS (fun w h => h) ?_
  intro i hi
  by_cases hlt : i < 16
  · obtain ⟨dg, hdg⟩ : ∃ dg, dg = dig i := ⟨_, rfl⟩
    have hget := dig_get hlt
    rw [← hdg] at hget
    (repeat' first|refine kW ?_|refine kU fun bk=>?_|refine kV fun hc=>?_|refine kZ (fun hc=>?_) fun hc=>?_|fail)
    refine OW_EV (EV_indexStr (s := digS) (j := i) rfl rfl rfl hget) rfl ?_
    (repeat' first|refine kW ?_|refine kU fun bk=>?_|refine kV fun hc=>?_|refine kZ (fun hc=>?_) fun hc=>?_|fail)
    · refine kR ?_
      exact ⟨L, iC, i, hlt, rfl, rfl⟩
    · exact WQ_round (X := Nat) (μ := fun i => 16 - i) (x := i) (i + 1) (by omega) (by omega) iS (fun w h => h)
  · obtain rfl : i = 16 := by omega
    (repeat' first|refine kW ?_|refine kU fun bk=>?_|refine kV fun hc=>?_|refine kZ (fun hc=>?_) fun hc=>?_|fail)
    refine kR ?_
    exact ⟨L, iC, 0, by decide, rfl, rfl⟩
theorem id_len12 (k : Int) (s : List UInt8) : (idL k s).length = 40 := by unfold Go.Ob.idL; rw [hexL_length, shaN_length]
theorem id_hsh12 (k : Int) (s : List UInt8) : hshB (idL k s) = true := by unfold Go.Ob.idL; exact hsh_hex (shaN_length _)
structure FanS where
  i : Nat
  l : List Obv
  v : Value
  C : Chunk
def okS (x : Obv) : Prop := hshB x.1.1.id = true ∧ 0 ≤ x.1.1.at_ ∧ x.1.1.at_ ≤ 6300
structure FanOk (l : List Obv) : Prop where
  ok : ∀ x ∈ l, okS x
  one : (l.map fun x => x.1.1.id).Nodup
def fanO (id : List UInt8) (i : Nat) : Obv := ⟨(⟨0, [], id, 100 * (i : Int), BitVec.ofNat 32 i⟩, .slice none 0 0), none, 0, 0, rfl⟩
theorem hasB_no {l : List Obv} {o : List UInt8} (h : hasB l o = false) : ∀ x ∈ l, x.1.1.id ≠ o := fun x hx e => by
  rw [← e, hasB_t hx] at h
  cases h
theorem FanOk.more {l : List Obv} (h : FanOk l) {id : List UInt8} {i : Nat} (hh : hshB id = true) (hi : i < 64) (hn : hasB l id = false) : FanOk (l ++ [fanO id i]) := by
  refine ⟨fun x hx => ?_, ?_⟩
  · rcases List.mem_append.1 hx with w | w
    · exact h.ok x w
    · obtain rfl : x = fanO id i := by simpa using w
      refine ⟨hh, ?_, ?_⟩
      · show (0 : Int) ≤ 100 * (i : Int); omega
      · show 100 * (i : Int) ≤ 6300; omega
  · rw [List.map_append, List.nodup_append]
    refine ⟨h.one, by simp, fun a ha b hb e => ?_⟩
    obtain ⟨x, hx, rfl⟩ := List.mem_map.1 ha
    have hb : b = id := (List.mem_singleton.1 hb : b = (fanO id i).1.1.id)
    exact hasB_no hn x hx (e.trans hb)
theorem FanOk.ix {l : List Obv} (h : FanOk l) (hl : l.length ≤ 64) {p : List UInt8} (hp : hshB p = true) : IxOk l p :=
  ⟨by omega, hp, fun x hx => ⟨(h.ok x hx).1, (h.ok x hx).2.1, by have := (h.ok x hx).2.2; omega⟩, h.one⟩
theorem farK_none {s : List Obv} (h : ∀ x ∈ s, okS x) : farK s = 0 := by
  unfold farK
  rw [List.length_eq_zero_iff, List.filter_eq_nil_iff]
  intro x hx
  unfold farB
  have := (h x hx).2.2
  simp
  omega
set_option maxHeartbeats 16000000 in
theorem idxfan_n (n : Int) (fv : Value) (f : List Int) (L : List Chunk) (hf : Sl L 1 fv f.length (intsN f)) (hfl : f.length ≤ 17592186044416) (hfw : ∀ z ∈ f, -9223372036854775808 ≤ z ∧ z ≤ 9223372036854775807) (hn1 : -9223372036854775808 ≤ n) (hn2 : n ≤ 9223372036854775807) :
    GvP Try.prog 3 [.int .i64 n, fv].toArray L (.bool true) := by
  obtain ⟨fa, fc, rfl⟩ := sl_slice hf
  obtain ⟨m, hm, hm64⟩ : ∃ m : Nat, n % 64 = (m : Int) ∧ m < 64 := ⟨(n % 64).toNat, by omega, by omega⟩
  refine Gv.of_body (args := [.int .i64 n, .slice fa f.length fc]) Try.func3 rfl rfl ?_
  (repeat' first|refine kW ?_|refine kU fun bk=>?_|refine kV fun hc=>?_|refine kZ (fun hc=>?_) fun hc=>?_|fail)
  refine OW_EV (EV_mask (p := 64) rfl rfl (by rfl)) rfl ?_
  rw [hm]
  (repeat' first|refine kW ?_|refine kU fun bk=>?_|refine kV fun hc=>?_|refine kZ (fun hc=>?_) fun hc=>?_|fail)
  refine WC_loop (X := FanS) (fun z => [(0, .int .i64 (m : Int)), (1, .slice fa f.length fc), (5, z.v), (6, .int .i64 (z.i : Int))]) (fun z => z.C :: L)
    (fun z => z.i ≤ m ∧ z.l.length ≤ z.i ∧ FanOk z.l ∧ Ow 30 5 z.v z.l.length (z.l.flatMap enO) z.C) (fun z => m - z.i) ⟨0, [], .slice none 0 0, []⟩ ⟨Nat.zero_le _, Nat.le_refl _, ⟨fun x hx => by simp at hx, by simp⟩, .inl ⟨rfl, rfl, rfl, rfl⟩⟩ iS (fun w h => Holds.nil.2 h) ?_
  rintro ⟨i, l, lv, C⟩ ⟨q1, q2, q3, q4⟩
  simp only at q1 q2 q3 q4 ⊢
  obtain ⟨la, lc, rfl⟩ := ow_slc q4
  by_cases hlt : i < m
  · have hdl : (dgL i).length ≤ 1000 := by
      have : ∀ j : Fin 64, (dgL j.val).length ≤ 1000 := by decide +kernel
      exact this ⟨i, by omega⟩
    have hil := id_len12 3 (dgL i)
    have hih := id_hsh12 3 (dgL i)
    obtain ⟨t, ht⟩ : ∃ t, t = idL 3 (dgL i) := ⟨_, rfl⟩
    have hid := fun L => refid_n 3 (dgL i) L (by omega)
    rw [← ht] at hil hih hid
    (repeat' first|refine kW ?_|refine kU fun bk=>?_|refine kV fun hc=>?_|refine kZ (fun hc=>?_) fun hc=>?_|fail)
    refine OW_callP rfl rfl rfl (digits_n i _ (by omega)) rfl ?_
    (repeat' first|refine kW ?_|refine kU fun bk=>?_|refine kV fun hc=>?_|refine kZ (fun hc=>?_) fun hc=>?_|fail)
    refine OW_callP rfl rfl rfl (hid _) rfl ?_
    (repeat' first|refine kW ?_|refine kU fun bk=>?_|refine kV fun hc=>?_|refine kZ (fun hc=>?_) fun hc=>?_|fail)
    refine OW_convBytes rfl (by rw [str_size, hil]; decide) rfl (fun v7 D hD => ?_)
    rw [str_size, hil] at hD
    have hD : OwF 5 1 v7 40 (bsv t) D := hD
    (repeat' first|refine kY ?_|refine kU fun bk=>?_|refine kV fun hc=>?_|refine kZ (fun hc=>?_) fun hc=>?_|fail)
    refine WC_cut (X := Value × Chunk × List UInt8) (fun z => [(0, .int .i64 (m : Int)), (1, .slice fa f.length fc), (5, .slice la l.length lc), (6, .int .i64 (i : Int)), (7, z.1)]) (fun z => z.2.1 :: C :: L) (fun z => OwF 5 1 z.1 40 (bsv z.2.2) z.2.1 ∧ hshB z.2.2 = true) ?_ ?_
    · by_cases hfi : i < f.length
      · obtain ⟨eb, eo, ec, ecc, eT, ef, w1, w2, w3⟩ := sl_at hf (ints_get hfi)
        injection w1 with w4 w5 w6
        subst w4 w6
        obtain ⟨z, hz⟩ : ∃ z, z = f.getD i 0 := ⟨_, rfl⟩
        rw [← hz] at w3
        obtain ⟨k0, hk0, h016⟩ : ∃ k0 : Nat, z % 16 = (k0 : Int) ∧ k0 < 16 := ⟨(z % 16).toNat, by omega, by omega⟩
        obtain ⟨k1, hk1, h116⟩ : ∃ k1 : Nat, z.fdiv (2 ^ (min (4 : Int).toNat IntKind.i64.bits)) % 16 = (k1 : Int) ∧ k1 < 16 := ⟨(z.fdiv (2 ^ (min (4 : Int).toNat IntKind.i64.bits)) % 16).toNat, by omega, by omega⟩
        obtain ⟨b7, cap7, rest7, fr7, rfl, rfl, hxl, hfr, hre⟩ := owf_open hD
        have hg0 := dig_get h016
        have hg1 := dig_get h116
        have ht2 := hsh_two hih h016 h116
        obtain ⟨d0, hd0⟩ : ∃ d0, d0 = dig k0 := ⟨_, rfl⟩
        obtain ⟨d1, hd1⟩ : ∃ d1, d1 = dig k1 := ⟨_, rfl⟩
        rw [← hd0] at hg0 ht2
        rw [← hd1] at hg1 ht2
        (repeat' first|refine kW ?_|refine kU fun bk=>?_|refine kV fun hc=>?_|refine kZ (fun hc=>?_) fun hc=>?_|fail)
        refine WC_drawAll [1, 12, 13, 14, 16, 17, 18] mixed ?_
        (refine WR_f 1 ?_)
        (refine WR_t2 8 ?_; refine WR_t2 9 ?_)
        (refine WR_take2 10 rfl rfl (by kernel_rfl) iP iC (EV_indexAddr (j := i) rfl rfl rfl hfi) (by rfl) ?_)
        (refine WR_take2 11 rfl rfl (by kernel_rfl) iP iC (EV_load rfl (.there (.there w2)) w3) (by rfl) ?_)
        (refine WR_float 12 rfl rfl (by kernel_rfl) iP (EF_shr rfl rfl (by decide) rfl) rfl ?_)
        (refine WR_float 13 rfl rfl (by kernel_rfl) iP (EF_mask rfl rfl rfl) rfl ?_)
        (refine WR_float 14 rfl rfl (by kernel_rfl) iP (EF_indexStr (s := digS) (j := k1) rfl rfl hk1 hg1) rfl ?_)
        (refine WR_t2 0 ?_; refine WR_t2 2 ?_; refine WR_t2 3 ?_)
        (refine WR_take2 4 rfl rfl (by kernel_rfl) iP iC (EV_indexAddr (j := i) rfl rfl rfl hfi) (by rfl) ?_)
        (refine WR_take2 5 rfl rfl (by kernel_rfl) iP iC (EV_load rfl (.there (.there w2)) w3) (by rfl) ?_)
        (refine WR_take2 6 rfl rfl (by kernel_rfl) iP iC (EV_mask rfl rfl rfl) (by rfl) ?_)
        (refine WR_take2 7 rfl rfl (by kernel_rfl) iP iC (EV_indexStr (s := digS) (j := k0) rfl rfl hk0 hg0) (by rfl) ?_)
        (refine WR_take2 15 rfl rfl (by kernel_rfl) iP iC (EV_indexAddr (j := 0) rfl rfl rfl (by omega)) (by rfl) ?_)
        (refine WR_last 16 (by kernel_rfl) rfl rfl rfl ?_)
        refine OW_storeF (c := bsv t ++ rest7) (bsv (t.set 0 d0) ++ rest7) rfl rfl rfl (bsv_put (k := 0) (by omega) d0) iU (by rw [List.length_append, bsv_length]; omega) (hfr 0 (by omega)) ?_
        (refine WR_last 17 (by kernel_rfl) rfl rfl rfl ?_)
        refine OW_EV (EV_indexAddr (j := 1) rfl rfl rfl (by omega)) rfl ?_
        (refine WR_last 18 (by kernel_rfl) rfl rfl rfl ?_)
        refine OW_storeF (c := bsv (t.set 0 d0) ++ rest7) (bsv ((t.set 0 d0).set 1 d1) ++ rest7) rfl rfl rfl (bsv_put (k := 1) (by rw [List.length_set]; omega) d1) iU (by rw [List.length_append, bsv_length, List.length_set]; omega) (hfr 1 (by omega)) ?_
        (refine WR_done (by kernel_rfl) ?_)
        (repeat' first|refine kW ?_|refine kU fun bk=>?_|refine kV fun hc=>?_|refine kZ (fun hc=>?_) fun hc=>?_|fail)
        exact WQ_cut (_, _, (t.set 0 d0).set 1 d1) ⟨hre _ (by rw [List.length_set, List.length_set]; omega), ht2⟩ iS (fun w h => h)
      · (repeat' first|refine kW ?_|refine kU fun bk=>?_|refine kV fun hc=>?_|refine kZ (fun hc=>?_) fun hc=>?_|fail)
        exact WQ_cut (v7, D, t) ⟨hD, hih⟩ iS (fun w h => h)
    rintro ⟨v8, D2, id⟩ ⟨hD2, hidh⟩
    simp only at hD2 hidh ⊢
    clear hD hih hil
    obtain ⟨b8, cap8, rest8, fr8, rfl, hC8, hidl, _, _⟩ := owf_open hD2
    have hslD := owf_sl (L := C :: L) hD2
    (repeat' first|refine kW ?_|refine kU fun bk=>?_|refine kV fun hc=>?_|refine kZ (fun hc=>?_) fun hc=>?_|fail)
    refine WC_loop (X := Nat) (fun k => [(0, .int .i64 (m : Int)), (1, .slice fa f.length fc), (5, .slice la l.length lc), (6, .int .i64 (i : Int)), (7, .slice (some ⟨b8, 0, none⟩) 40 cap8), (8, .bool (hasB (l.take k) id)), (9, .int .i64 (k : Int))]) (fun _ => D2 :: C :: L) (fun k => k ≤ l.length) (fun k => l.length - k) 0 (Nat.zero_le _) iS (fun w h => h) ?_
    intro k hk
    by_cases hkl : k < l.length
    · obtain ⟨x, hx⟩ : ∃ x, l[k]? = some x := ⟨l[k], by simp [hkl]⟩
      obtain ⟨b1, o1, c1, hvv, hr⟩ := row_at enO_len (ow_sl (L := L) q4) hx (by decide)
      injection hvv with w1 w2 w3
      subst w1
      obtain ⟨bp, bn, bc', hbs, hcs⟩ := enO_lit x
      rw [hcs] at hr
      obtain ⟨ca2, Ta2, fa2, ga2, ha2⟩ := RdAt.cellAt hr (j := 2) (u := .string (str x.1.1.id)) rfl
      obtain ⟨qb, hqb⟩ : ∃ qb, qb = hasB (l.take k) id := ⟨_, rfl⟩
      have hsn := hasB_snoc hx id
      rw [← hqb] at hsn ⊢
      cases qb with
      | true =>
        (repeat' first|refine kW ?_|refine kU fun bk=>?_|refine kV fun hc=>?_|refine kZ (fun hc=>?_) fun hc=>?_|fail)
        refine WC_drawAll [] mixed ?_
        (refine WR_t 0 ?_; refine WR_t 1 ?_)
        (refine WR_v 2 ?_; refine WR_v 3 ?_; refine WR_v 4 ?_; refine WR_v 5 ?_; refine WR_v 6 ?_; refine WR_v 7 ?_; refine WR_v 8 ?_; refine WR_v 9 ?_)
        (refine WR_t 10 ?_; refine WR_t 11 ?_)
        (refine WR_done (by kernel_rfl) ?_)
        (repeat' first|refine kW ?_|refine kU fun bk=>?_|refine kV fun hc=>?_|refine kZ (fun hc=>?_) fun hc=>?_|fail)
        exact WQ_round (X := Nat) (μ := fun k => l.length - k) (x := k) (k + 1) (by omega) (by omega) (by rw [hsn]; exact iS) (fun w h => h)
      | false =>
        (repeat' first|refine kW ?_|refine kU fun bk=>?_|refine kV fun hc=>?_|refine kZ (fun hc=>?_) fun hc=>?_|fail)
        refine WC_drawAll [] mixed ?_
        (refine WR_t 0 ?_; refine WR_t 1 ?_)
        (refine WR_u 2 ?_; refine WR_u 3 ?_)
        (refine WR_takeOn 4 rfl rfl rfl (by kernel_rfl) iP iC (EV_indexAddr (j := k) rfl rfl rfl hkl) (by rfl) ?_)
        (refine WR_u 5 ?_)
        (refine WR_takeOn 6 rfl rfl rfl (by kernel_rfl) iP iC (EV_load rfl (.there ga2) ha2) (by rfl) ?_)
        (refine WR_u 7 ?_)
        (refine WR_takeOn 8 rfl rfl rfl (by kernel_rfl) iP iC (EV_convStr (b := id) (m := 40) rfl hslD) (by rfl) ?_)
        (refine WR_takeOn 9 rfl rfl rfl (by kernel_rfl) iP iC (EV_strEq rfl rfl) (by rfl) ?_)
        (refine WR_t 10 ?_; refine WR_t 11 ?_)
        (refine WR_done (by kernel_rfl) ?_)
        (repeat' first|refine kW ?_|refine kU fun bk=>?_|refine kV fun hc=>?_|refine kZ (fun hc=>?_) fun hc=>?_|fail)
        exact WQ_round (X := Nat) (μ := fun k => l.length - k) (x := k) (k + 1) (by omega) (by omega) (by rw [hsn]; exact iS) (fun w h => h)
    obtain rfl : k = l.length := by omega
    rw [List.take_length]
    cases hqb : hasB l id with
    | true =>
      (repeat' first|refine kW ?_|refine kU fun bk=>?_|refine kV fun hc=>?_|refine kZ (fun hc=>?_) fun hc=>?_|fail)
      exact WQ_round (X := FanS) (μ := fun z => m - z.i) (x := ⟨i, l, .slice la l.length lc, C⟩) ⟨i + 1, l, .slice la l.length lc, C⟩ (by simp only; omega) ⟨by simp only; omega, by simp only; omega, q3, q4⟩ iS (fun w h => (iC : Inc (C :: L) _).holds h)
    | false =>
      have hw32 : IntKind.u32.wrap (i : Int) = ((BitVec.ofNat 32 i).toNat : Int) := wrap_w32 i
      (repeat' first|refine kW ?_|refine kU fun bk=>?_|refine kV fun hc=>?_|refine kZ (fun hc=>?_) fun hc=>?_|fail)
      refine OW_EV (EV_convStr (b := id) (m := 40) rfl hslD) rfl ?_
      (repeat' first|refine kW ?_|refine kU fun bk=>?_|refine kV fun hc=>?_|refine kZ (fun hc=>?_) fun hc=>?_|fail)
      rw [hw32]
      refine OW_buildSlice (cs := enO (fanO id i)) rfl (by rfl) (by first | rfl | (simp [fillL, patch, Value.cells, zeros]; done) | (simp [fillL, patch, Value.cells, zeros]; rfl)) (by omega) rfl rfl (fun b2 => ?_)
      (repeat' first|refine kW ?_|refine kU fun bk=>?_|refine kV fun hc=>?_|refine kZ (fun hc=>?_) fun hc=>?_|fail)
      refine OW_append rfl rfl q4 (sl_cells (k := 5) (c := (enO (fanO id i)).toArray) (xs := enO (fanO id i)) (m := 1) Fnd.here rfl rfl) (by repeat (first | exact Zip.here _ | apply Zip.there)) rfl rfl (by omega) (by unfold maxLen; omega) rfl (fun v1 C1 g2 _ _ => ?_)
      have hsn : l.flatMap enO ++ enO (fanO id i) = (l ++ [fanO id i]).flatMap enO := by rw [List.flatMap_append]; simp
      have hsl : l.length + 1 = (l ++ [fanO id i]).length := by rw [List.length_append]; rfl
      rw [hsn, hsl] at g2
      have hone := ow_one g2
      (repeat' first|refine kW ?_|refine kU fun bk=>?_|refine kV fun hc=>?_|refine kZ (fun hc=>?_) fun hc=>?_|fail)
      exact WQ_round (X := FanS) (μ := fun z => m - z.i) (x := ⟨i, l, .slice la l.length lc, C⟩) ⟨i + 1, l ++ [fanO id i], v1, C1⟩ (by simp only; omega) ⟨by simp only; omega, by simp only; omega, q3.more hidh (by omega) hqb, g2⟩ iS (fun w h => (iC : Inc (C1 :: L) _).holds h)
  obtain rfl : i = m := by omega
  have hPl := id_len12 2 []
  have hPh := id_hsh12 2 []
  obtain ⟨P, hP⟩ : ∃ P, P = idL 2 [] := ⟨_, rfl⟩
  have hPid := fun L => refid_n 2 [] L (by decide)
  rw [← hP] at hPl hPh hPid
  have hix0 := q3.ix (by omega) hPh
  have hid40 : ∀ x ∈ l, x.1.1.id.length ≤ 140737488355328 := fun x hx => by have := (q3.ok x hx).1; unfold Go.Ob.hshB at this; rw [Bool.and_eq_true, decide_eq_true_iff] at this; omega
  have hb := ibuild_n (.slice la l.length lc) l P (C :: L) (ow_sl q4) (by omega) (by omega) hid40
  (repeat' first|refine kW ?_|refine kU fun bk=>?_|refine kV fun hc=>?_|refine kZ (fun hc=>?_) fun hc=>?_|fail)
  refine OW_callP rfl rfl rfl (hPid _) rfl ?_
  (repeat' first|refine kW ?_|refine kU fun bk=>?_|refine kV fun hc=>?_|refine kZ (fun hc=>?_) fun hc=>?_|fail)
  refine OW_call rfl rfl rfl hb rfl (fun r L' hp => ?_)
  rcases hp with ⟨hno, _⟩ | ⟨hix, s, bv, Cw, hsp, hss, rfl, how, rfl⟩
  · exact absurd hix0 hno
  have hS := IxS.of hix hsp hss
  have hsl := hsp.length_eq
  have hWl := ixW_len hS
  rw [farK_none fun x hx => q3.ok x (hsp.mem_iff.1 hx)] at hWl
  have hfd := fun id r h => back_find (id := id) (r := r) hS hsp h
  obtain ⟨W, hW⟩ : ∃ W, W = ixW s P := ⟨_, rfl⟩
  rw [← hW] at how hWl hfd
  obtain ⟨ba, bc, rfl⟩ := ow_slc how
  have hWm : W.length ≤ 1000000 := by omega
  (repeat' first|refine kW ?_|refine kU fun bk=>?_|refine kV fun hc=>?_|refine kZ (fun hc=>?_) fun hc=>?_|fail)
  refine WC_loop (X := Nat) (fun i => [(5, .slice la l.length lc), (10, .slice ba W.length bc), (12, .int .i64 (i : Int))]) (fun _ => Cw :: C :: L) (fun i => i ≤ l.length) (fun i => l.length - i) 0 (Nat.zero_le _) iS (fun w h => h) ?_
  intro i hi
  by_cases hlt : i < l.length
  · obtain ⟨x, hx⟩ : ∃ x, l[i]? = some x := ⟨l[i], by simp [hlt]⟩
    have hxm := List.mem_of_getElem? hx
    obtain ⟨b1, o1, c1, hvv, hr⟩ := row_at enO_len (ow_sl (L := L) q4) hx (by decide)
    injection hvv with w1 w2 w3
    subst w1
    obtain ⟨bp, bn, bc', hbs, hcs⟩ := enO_lit x
    rw [hcs] at hr
    obtain ⟨ca2, Ta2, fa2, ga2, ha2⟩ := RdAt.cellAt hr (j := 2) (u := .string (str x.1.1.id)) rfl
    obtain ⟨ca3, Ta3, fa3, ga3, ha3⟩ := RdAt.cellAt hr (j := 3) (u := .int .i64 x.1.1.at_) rfl
    have hx40 : x.1.1.id.length = 40 := by have := (q3.ok x hxm).1; unfold Go.Ob.hshB at this; rw [Bool.and_eq_true, decide_eq_true_iff] at this; exact this.1
    (repeat' first|refine kW ?_|refine kU fun bk=>?_|refine kV fun hc=>?_|refine kZ (fun hc=>?_) fun hc=>?_|fail)
    refine OW_EV (EV_indexAddr (j := i) rfl rfl rfl hlt) rfl ?_
    (repeat' first|refine kW ?_|refine kU fun bk=>?_|refine kV fun hc=>?_|refine kZ (fun hc=>?_) fun hc=>?_|fail)
    refine OW_EV (EV_load rfl (.there ga2) ha2) rfl ?_
    (repeat' first|refine kW ?_|refine kU fun bk=>?_|refine kV fun hc=>?_|refine kZ (fun hc=>?_) fun hc=>?_|fail)
    refine OW_call rfl rfl rfl (ifind_n _ W x.1.1.id _ (Rs.ow how) hWm (by omega)) rfl (fun r L' hp => ?_)
    obtain ⟨rfl, hp⟩ := hp
    rcases hfd _ _ hp with ⟨x', hx', hid', rfl⟩ | ⟨hno, _⟩
    rotate_left
    · exact absurd rfl (hno x hxm)
    obtain rfl : x' = x := nodup_at hix.one hx' hxm hid'
    (repeat' first|refine kW ?_|refine kU fun bk=>?_|refine kV fun hc=>?_|refine kZ (fun hc=>?_) fun hc=>?_|fail)
    refine OW_EV (EV_indexAddr (j := i) rfl rfl rfl hlt) rfl ?_
    (repeat' first|refine kW ?_|refine kU fun bk=>?_|refine kV fun hc=>?_|refine kZ (fun hc=>?_) fun hc=>?_|fail)
    refine OW_EV (EV_load rfl (.there ga2) ha2) rfl ?_
    (repeat' first|refine kW ?_|refine kU fun bk=>?_|refine kV fun hc=>?_|refine kZ (fun hc=>?_) fun hc=>?_|fail)
    refine OW_convBytes rfl (by rw [str_size, hx40]; decide) rfl (fun v9 D hD => ?_)
    rw [str_size, hx40] at hD
    have hD : OwF 5 1 v9 40 (bsv x'.1.1.id) D := hD
    obtain ⟨y, hy⟩ : ∃ y, x'.1.1.id[39]? = some y := ⟨x'.1.1.id[39], by simp [hx40]⟩
    obtain ⟨b9, cap9, rest9, fr9, rfl, rfl, hxl, hfr, hre⟩ := owf_open hD
    obtain ⟨eb, eo, ec, ecc, eT, ef, w4, w5, w6⟩ := sl_at (owf_sl (L := Cw :: C :: L) hD) (Go.Vx.bsv_get hy)
    injection w4 with w7 w8 w9
    injection w7 with w7
    injection w7 with w10 w11 w12
    subst w10 w11
    (repeat' first|refine kW ?_|refine kU fun bk=>?_|refine kV fun hc=>?_|refine kZ (fun hc=>?_) fun hc=>?_|fail)
    refine OW_EV (EV_indexAddr (j := 39) rfl rfl rfl (by omega)) rfl ?_
    (repeat' first|refine kW ?_|refine kU fun bk=>?_|refine kV fun hc=>?_|refine kZ (fun hc=>?_) fun hc=>?_|fail)
    refine OW_EV (EV_load rfl w5 w6) rfl ?_
    (repeat' first|refine kW ?_|refine kU fun bk=>?_|refine kV fun hc=>?_|refine kZ (fun hc=>?_) fun hc=>?_|fail)
    refine OW_call rfl rfl rfl (indexof_n y _) rfl (fun r L' hp => ?_)
    obtain ⟨k, hk, rfl, rfl⟩ := hp
    obtain ⟨k2, hk2, h216⟩ : ∃ k2 : Nat, ((k : Int) + 1) % 16 = (k2 : Int) ∧ k2 < 16 := ⟨(k + 1) % 16, by omega, by omega⟩
    have hg2 := dig_get h216
    obtain ⟨d2, hd2⟩ : ∃ d2, d2 = dig k2 := ⟨_, rfl⟩
    rw [← hd2] at hg2
    (repeat' first|refine kW ?_|refine kU fun bk=>?_|refine kV fun hc=>?_|refine kZ (fun hc=>?_) fun hc=>?_|fail)
    refine OW_EV (EV_mask (p := 16) rfl rfl rfl) rfl ?_
    (repeat' first|refine kW ?_|refine kU fun bk=>?_|refine kV fun hc=>?_|refine kZ (fun hc=>?_) fun hc=>?_|fail)
    refine OW_EV (EV_indexStr (s := digS) (j := k2) rfl rfl hk2 hg2) rfl ?_
    (repeat' first|refine kW ?_|refine kU fun bk=>?_|refine kV fun hc=>?_|refine kZ (fun hc=>?_) fun hc=>?_|fail)
    refine OW_EV (EV_indexAddr (j := 39) rfl rfl rfl (by omega)) rfl ?_
    (repeat' first|refine kW ?_|refine kU fun bk=>?_|refine kV fun hc=>?_|refine kZ (fun hc=>?_) fun hc=>?_|fail)
    refine OW_storeF (c := bsv x'.1.1.id ++ rest9) (bsv (x'.1.1.id.set 39 d2) ++ rest9) rfl rfl rfl (bsv_put (k := 39) (by omega) d2) iU (by rw [List.length_append, bsv_length]; omega) (hfr 39 (by omega)) ?_
    have hD2 := hre (x'.1.1.id.set 39 d2) (by rw [List.length_set]; omega)
    have hxil : (x'.1.1.id.set 39 d2).length = 40 := by rw [List.length_set]; exact hx40
    obtain ⟨xid, hxid⟩ : ∃ xid, xid = x'.1.1.id.set 39 d2 := ⟨_, rfl⟩
    rw [← hxid] at hD2 hxil ⊢
    have hslD := owf_sl (L := Cw :: C :: L) hD2
    (repeat' first|refine kW ?_|refine kU fun bk=>?_|refine kV fun hc=>?_|refine kZ (fun hc=>?_) fun hc=>?_|fail)
    refine OW_EV (EV_convStr (b := xid) (m := 40) rfl hslD) rfl ?_
    (repeat' first|refine kW ?_|refine kU fun bk=>?_|refine kV fun hc=>?_|refine kZ (fun hc=>?_) fun hc=>?_|fail)
    refine OW_call rfl rfl rfl (ifind_n _ W xid _ (by repeat (first | exact Rs.ow how | apply Rs.there)) hWm (by omega)) rfl (fun r L' hp => ?_)
    obtain ⟨rfl, hp⟩ := hp
    obtain ⟨at2, isb, rfl, his⟩ : ∃ at2 isb, r = .tuple #[.int .i64 at2, .bool isb] ∧ isb = hasB l xid := by
      rcases hfd _ _ hp with ⟨x2, hx2, hid2, rfl⟩ | ⟨hno, rfl⟩
      · exact ⟨_, _, rfl, by rw [← hid2, hasB_t hx2]⟩
      · exact ⟨_, _, rfl, by rw [hasB_f hno]⟩
    (repeat' first|refine kW ?_|refine kU fun bk=>?_|refine kV fun hc=>?_|refine kZ (fun hc=>?_) fun hc=>?_|fail)
    refine WC_loop (X := Nat) (fun k => [(5, .slice (some ⟨b1, o1, none⟩) l.length lc), (10, .slice ba W.length bc), (12, .int .i64 (i : Int)), (13, .int .i64 x'.1.1.at_), (14, .bool true), (15, .slice (some ⟨b9, 0, none⟩) 40 cap9), (17, .bool isb), (18, .bool (hasB (l.take k) xid)), (19, .int .i64 (k : Int))]) (fun _ => [(b9, .cells (bsv xid ++ rest9).toArray 5 fr9)] :: Cw :: C :: L) (fun k => k ≤ l.length) (fun k => l.length - k) 0 (Nat.zero_le _) iS (fun w h => h) ?_
    intro k hk
    by_cases hkl : k < l.length
    · obtain ⟨x3, hx3⟩ : ∃ x3, l[k]? = some x3 := ⟨l[k], by simp [hkl]⟩
      obtain ⟨b3, o3, c3, hv3, hr3⟩ := row_at enO_len (ow_sl (L := L) q4) hx3 (by decide)
      injection hv3 with u1 u2 u3
      injection u1 with u1
      injection u1 with u4 u5 u6
      subst u4 u5
      obtain ⟨bp3, bn3, bc3, hbs3, hcs3⟩ := enO_lit x3
      rw [hcs3] at hr3
      obtain ⟨cb2, Tb2, fb2, gb2, hb2⟩ := RdAt.cellAt hr3 (j := 2) (u := .string (str x3.1.1.id)) rfl
      obtain ⟨qb, hqb⟩ : ∃ qb, qb = hasB (l.take k) xid := ⟨_, rfl⟩
      have hsn := hasB_snoc hx3 xid
      rw [← hqb] at hsn ⊢
      cases qb with
      | true =>
        (repeat' first|refine kW ?_|refine kU fun bk=>?_|refine kV fun hc=>?_|refine kZ (fun hc=>?_) fun hc=>?_|fail)
        refine WC_drawAll [] mixed ?_
        (refine WR_t 0 ?_; refine WR_t 1 ?_)
        (refine WR_v 2 ?_; refine WR_v 3 ?_; refine WR_v 4 ?_; refine WR_v 5 ?_; refine WR_v 6 ?_; refine WR_v 7 ?_; refine WR_v 8 ?_; refine WR_v 9 ?_)
        (refine WR_t 10 ?_; refine WR_t 11 ?_)
        (refine WR_done (by kernel_rfl) ?_)
        (repeat' first|refine kW ?_|refine kU fun bk=>?_|refine kV fun hc=>?_|refine kZ (fun hc=>?_) fun hc=>?_|fail)
        exact WQ_round (X := Nat) (μ := fun k => l.length - k) (x := k) (k + 1) (by omega) (by omega) (by rw [hsn]; exact iS) (fun w h => h)
      | false =>
        (repeat' first|refine kW ?_|refine kU fun bk=>?_|refine kV fun hc=>?_|refine kZ (fun hc=>?_) fun hc=>?_|fail)
        refine WC_drawAll [] mixed ?_
        (refine WR_t 0 ?_; refine WR_t 1 ?_)
        (refine WR_u 2 ?_; refine WR_u 3 ?_)
        (refine WR_takeOn 4 rfl rfl rfl (by kernel_rfl) iP iC (EV_indexAddr (j := k) rfl rfl rfl hkl) (by rfl) ?_)
        (refine WR_u 5 ?_)
        (refine WR_takeOn 6 rfl rfl rfl (by kernel_rfl) iP iC (EV_load rfl (.there (.there gb2)) hb2) (by rfl) ?_)
        (refine WR_u 7 ?_)
        (refine WR_takeOn 8 rfl rfl rfl (by kernel_rfl) iP iC (EV_convStr (b := xid) (m := 40) rfl hslD) (by rfl) ?_)
        (refine WR_takeOn 9 rfl rfl rfl (by kernel_rfl) iP iC (EV_strEq rfl rfl) (by rfl) ?_)
        (refine WR_t 10 ?_; refine WR_t 11 ?_)
        (refine WR_done (by kernel_rfl) ?_)
        (repeat' first|refine kW ?_|refine kU fun bk=>?_|refine kV fun hc=>?_|refine kZ (fun hc=>?_) fun hc=>?_|fail)
        exact WQ_round (X := Nat) (μ := fun k => l.length - k) (x := k) (k + 1) (by omega) (by omega) (by rw [hsn]; exact iS) (fun w h => h)
    obtain rfl : k = l.length := by omega
    rw [List.take_length, ← his]
    cases isb with
    | true =>
      ((repeat' first|refine kW ?_|refine kU fun bk=>?_|refine kV fun hc=>?_|refine kZ (fun hc=>?_) fun hc=>?_|fail) <;> try exact absurd trivial hc)
      refine OW_EV (EV_indexAddr (j := i) rfl rfl rfl hlt) rfl ?_
      ((repeat' first|refine kW ?_|refine kU fun bk=>?_|refine kV fun hc=>?_|refine kZ (fun hc=>?_) fun hc=>?_|fail) <;> try exact absurd trivial hc)
      refine OW_EV (EV_load rfl (.there (.there ga3)) ha3) rfl ?_
      ((repeat' first|refine kW ?_|refine kU fun bk=>?_|refine kV fun hc=>?_|refine kZ (fun hc=>?_) fun hc=>?_|fail) <;> try exact absurd trivial hc)
      exact WQ_round (X := Nat) (μ := fun i => l.length - i) (x := i) (i + 1) (by omega) (by omega) iS (fun w h => (iC : Inc (Cw :: C :: L) _).holds h)
    | false =>
      ((repeat' first|refine kW ?_|refine kU fun bk=>?_|refine kV fun hc=>?_|refine kZ (fun hc=>?_) fun hc=>?_|fail) <;> try exact absurd trivial hc)
      refine OW_EV (EV_indexAddr (j := i) rfl rfl rfl hlt) rfl ?_
      ((repeat' first|refine kW ?_|refine kU fun bk=>?_|refine kV fun hc=>?_|refine kZ (fun hc=>?_) fun hc=>?_|fail) <;> try exact absurd trivial hc)
      refine OW_EV (EV_load rfl (.there (.there ga3)) ha3) rfl ?_
      ((repeat' first|refine kW ?_|refine kU fun bk=>?_|refine kV fun hc=>?_|refine kZ (fun hc=>?_) fun hc=>?_|fail) <;> try exact absurd trivial hc)
      exact WQ_round (X := Nat) (μ := fun i => l.length - i) (x := i) (i + 1) (by omega) (by omega) iS (fun w h => (iC : Inc (Cw :: C :: L) _).holds h)
  obtain rfl : i = l.length := by omega
  (repeat' first|refine kW ?_|refine kU fun bk=>?_|refine kV fun hc=>?_|refine kZ (fun hc=>?_) fun hc=>?_|fail)
  refine OW_callP rfl rfl rfl (awake12_n _) rfl ?_
  (repeat' first|refine kW ?_|refine kU fun bk=>?_|refine kV fun hc=>?_|refine kZ (fun hc=>?_) fun hc=>?_|fail)
  exact kE
end
end Go.Proofs.Ytmhlmlkndabgmaa
namespace Go.Proofs.Ytmhlmlkndabgmaa
open Go Go.Vx Go.ChangeShapes Go.WideShapes Go.ChangeAt Go.RowKit
set_option maxRecDepth 4000
set_option linter.all false
theorem open_intr {H : Type} {enc : TypeId × Value → H} {P : Program} {W : World} {t e : TypeId} {a : Option Addr} {len cap : Nat} {d : DataW H} {ps : List MemPlace} (ht : P.underlying t = some (.slice e)) (he : P.underlying e = some (.int .i64)) (hc : P.cellsOf e = 1)
    (h : DataW.Trod enc P W 0 (fun _ => true) true t (.slice a len cap) d ps) :
    ∃ xs : List Int, xs.length = len ∧ (Sl [blks W] 1 (.slice a len cap) len (intsN xs) ∧ ∀ n ∈ xs, (Lit.int .i64 n).wf = true) ∧ len ≤ Rows.uptoBulk d ∧ (len = 0 ∨ ∃ el sp, d = .slice el sp ∧ el.length = len) := by
  have hx : len = 0 ∨ ∃ el sp, d = .slice el sp ∧ el.length = len := by
    obtain ⟨fuel, hf⟩ := h
    rcases open_ints ht he hc hf with ⟨hcs, _⟩ | ⟨x, l, c, zs, hcs, _, hl, hm, hz, hx, hcell, hwz⟩
    · simp [Value.cells] at hcs
      obtain ⟨rfl, rfl, rfl⟩ := hcs
      exact .inl rfl
    · simp [Value.cells] at hcs
      obtain ⟨rfl, rfl, rfl⟩ := hcs
      have hzl : zs.length = cap := by simpa using hz
      have hd : d = .slice (lits .i64 (zs.take len)) (lits .i64 (zs.drop len)) := by injection hx
      exact .inr ⟨_, _, hd, by simp [lits]; omega⟩
  obtain ⟨xs, h1, h2, h3, h4⟩ := open_row ht he hc h
  exact ⟨xs, h1, ⟨h3, h2⟩, h4, hx⟩
theorem reach_of8 {H : Type} {P : Program} {ts : List TypeId} {ds : List (DataW H)} (h : (DataW.weightsEach P ts ds).all (· ≤ reachBytes) = true) {j : Nat} {t e : TypeId} {d : DataW H} {len : Nat} (ht : ts[j]? = some t) (hd : ds[j]? = some d) (hu : P.underlying t = some (.slice e)) (hb : P.bytesOf e = 8)
    (hl : len = 0 ∨ ∃ el sp, d = .slice el sp ∧ el.length = len) : len ≤ 17592186044416 := by
  rcases hl with rfl | ⟨el, sp, rfl, rfl⟩
  · omega
  · have := sized_slice h ht hd hu
    rw [hb] at this
    simp [reachBytes] at this
    omega
theorem i64_of_wf {n : Int} (h : (Lit.int .i64 n).wf = true) : -9223372036854775808 ≤ n ∧ n ≤ 9223372036854775807 := by
  simp [Lit.wf, IntKind.min, IntKind.max, IntKind.signed, IntKind.bits] at h
  omega
end Go.Proofs.Ytmhlmlkndabgmaa
namespace Go.Proofs.Ytmhlmlkndabgmaa
open Go Go.Vx Go.ChangeShapes Go.WideShapes Go.ChangeAt Go.RowKit
set_option linter.all false
set_option maxRecDepth 4000
theorem top_row (H : Type) (enc : TypeId × Value → H) (W : World) (base : Nat) (args : Array Value) (ds gs : List (DataW H)) (before : List MemPlace)
    (hval : ∀ (j : Nat) t v, Try.f3.params[j]? = some t → args[j]? = some v → Value.okWide Try.prog W .any base t v)
    (hW : DataW.Whole enc Try.prog Try.f3.params.toList Rows.idxFanSpec.vars false W args.toList ds gs before)
    (hz : (DataW.weightsEach Try.prog (Try.f3.params.toList ++ Rows.idxFanSpec.plain.varTypes Try.prog) (ds ++ gs)).all (· ≤ reachBytes) = true) (hL : laidMetH Try.prog [] W) :
    Calls Try.prog 3 args W fun e W' => ∃ v, e = .returned v ∧ Rows.idxFanSpec.post enc Try.prog Try.f3 false true false false W args v W' := by
  have hW' := hW
  obtain ⟨p, q, hA0, hV, rfl, hfz, hnd⟩ := hW
  have hA : DataW.TrodAll enc Try.prog W 0 (fun _ => true) true Try.f3.params.toList args.toList ds p := hA0
  rw [Try.params3] at hA hval hz
  obtain ⟨v0, vs0, d0, ds0, p0, q0, hargs, rfl, rfl, h0, r0⟩ := trodAll_cons hA
  obtain ⟨v1, vs1, d1, ds1, p1, q1, rfl, rfl, rfl, h1, r1⟩ := trodAll_cons r0
  obtain ⟨rfl, rfl, rfl⟩ := trodAll_nil r1
  obtain rfl : args = #[v0, v1] := by cases args; simp_all
  obtain ⟨rfl, rfl⟩ := trodVars_none hV
  obtain ⟨n0, rfl, rfl, rfl, w0⟩ := open_int Try.underlying3 (hval 0 _ v0 rfl rfl) h0
  obtain ⟨a1, l1, c1, rfl⟩ := okWide_slice Try.underlying22 (hval 1 _ v1 rfl rfl)
  obtain ⟨x1, e1, ⟨s1, w1⟩, b1, g1⟩ := open_intr Try.underlying22 Try.underlying3 (by kernel_rfl) h1
  have m1 : l1 ≤ 17592186044416 := reach_of8 hz (j := 1) rfl rfl Try.underlying22 (by kernel_rfl) g1
  clear hA0
  have lt1 : ∀ x ∈ p1, x.block < W.heap.size := by obtain ⟨m, hm⟩ := h1; exact DataW.trod_lt m _ _ _ hm
  have hc : Calls Try.prog 3 #[.int .i64 n0, .slice a1 l1 c1] W fun e W' => e = .returned (.bool true) ∧ Kept W W' := by
    refine bridge (fun {i} => ?_)
    subst e1
    exact idxfan_n n0 _ x1 _ s1 m1 (fun z hz => i64_of_wf (w1 z hz)) (i64_of_wf w0).1 (i64_of_wf w0).2
  refine hc.mono fun e W' ⟨he, bel⟩ => ?_
  subst he
  exact ⟨_, rfl, _, _, _, [], _, [], hW', trodAll_mk1 (shut_bool Try.underlying4 _), (trodAll_cons_mk (shut_int Try.underlying3 w0) (trodAll_cons_mk (Kept.trod Try.laidOut (by kernel_rfl) (of_decide_eq_true (by kernel_rfl)) h1 bel lt1) trodAll_mk0)), rfl, bel.frame _, fun h => by cases h⟩
theorem reads (os : Os) {H : Type} (enc : TypeId × Value → H) : ∃ places, DataW.whole enc Try.prog ((World.holding Try.prog os ⟨#[], #[], []⟩).forCall (fun _ _ => 0) ⟨#[], #[.int .i64 0, .slice none 0 0], []⟩).memory Try.f3.params.toList Rows.idxFanSpec.vars false #[.int .i64 0, .slice none 0 0].toList 8 = some ([.lit (.int .i64 0), .nil], [], places) :=
  ⟨[], by kernel_rfl⟩
set_option maxRecDepth 100000 in
theorem top_lifted (os : Os) (started : os.Started) (H : Type) (enc : TypeId × Value → H) (F : Stop.Interp) :
    ReturnsInHanded {} Try.checked os 3 .any ((OpenSpec.ofChange Rows.idxFanSpec).preRow enc Try.prog Try.f3 Rows.idxFanRow.domain false Rows.idxFanRow.laid) (((OpenSpec.ofChange Rows.idxFanSpec).at F).post enc Try.prog Try.f3 false true false false) := by
  obtain ⟨places, hx⟩ := reads os enc
  refine returnsInHanded_of_row (C := Try.checked) (s := (OpenSpec.ofChange Rows.idxFanSpec)) Try.own started (by kernel_rfl) Try.func3
    (witness_row_at (enc := enc) (C := Try.checked) false (World.holding Try.prog os ⟨#[], #[], []⟩) #[.int .i64 0, .slice none 0 0] rfl (by kernel_rfl) (by kernel_rfl) (by kernel_rfl)
      (OpenSpec.preRow_of_cond 8 hx (by kernel_rfl) (fun k hk => by cases hk) (by kernel_rfl) (laidMet_of_run' 8 (by kernel_rfl) (by kernel_rfl)))) ?_
  intro W base args ds gs before hval hW _ hcond hz hL _ _
  exact top_row H enc W base args ds gs before hval hW hz hL
theorem top_over : Rows.IdxFanSaid :=
  OpenClaim.holds_of_cond 3 Try.f3 rfl rfl rfl rfl rfl rfl rfl ⟨rfl, rfl, rfl, rfl, rfl⟩ rfl rfl rfl rfl rfl (by kernel_rfl) Try.func3 (by kernel_rfl)
    (of_decide_eq_true (by kernel_rfl)) (by unfold Func.isWrapper; first | (rw [if_pos (by decide +kernel)]; kernel_rfl) | (rw [if_neg (by decide +kernel)]; exact ⟨rfl, rfl⟩))
    (fun os started H enc _ F => by rw [OpenClaim.pre_eq_preRow]; exact top_lifted os started H enc F)
theorem top_holds : Rows.IdxFanSaid := top_over
end Go.Proofs.Ytmhlmlkndabgmaa
