/- IdxBuilds returns true and leaves its arguments as they were, for every argument that the row takes. No conditions beyond the row's. -/
import Derived.Test.YtmhlmlkndabgmaaPB2
namespace Go.Ix
open Go
set_option linter.all false
def pcB (b : List UInt8) (s k : Nat) : List UInt8 := (b.drop s).take k
theorem pcB_len {b : List UInt8} {s k : Nat} (h : s + k ≤ b.length) : (pcB b s k).length = k := by unfold pcB; rw [List.length_take, List.length_drop]; omega
theorem pcB_pc {b : List UInt8} {s k t m : Nat} (h : t + m ≤ k) : ((pcB b s k).drop t).take m = pcB b (s + t) m := by
  unfold pcB; rw [List.drop_take, List.take_take, List.drop_drop, Nat.min_eq_left (by omega)]
theorem pcB_nm {b : List UInt8} {s k t m : Nat} (h : t + m ≤ k) : gv (((pcB b s k).drop t).take m) = nmB b (s + t) m := by rw [pcB_pc h]; rfl
end Go.Ix
namespace Go.Proofs.Ytmhlmlkndabgmaa
open Go Go.Vx Go.Pk Go.Ix
set_option linter.all false
set_option maxRecDepth 4000
section
variable [W0]
structure IxV (L : List Chunk) (b : List UInt8) (x : IxC) : Prop where
  len : 1072 + 28 * pxN b ≤ b.length
  most : pxN b ≤ 4096
  c : Rs L 1 x.c.v (pcB b 8 1024).length (bsv (pcB b 8 1024))
  i : Rs L 1 x.i.v (pcB b 1032 (20 * pxN b)).length (bsv (pcB b 1032 (20 * pxN b)))
  r : Rs L 1 x.r.v (pcB b (1032 + 20 * pxN b) (4 * pxN b)).length (bsv (pcB b (1032 + 20 * pxN b) (4 * pxN b)))
  o : Rs L 1 x.o.v (pcB b (1032 + 24 * pxN b) (4 * pxN b)).length (bsv (pcB b (1032 + 24 * pxN b) (4 * pxN b)))
  f : Rs L 1 x.f.v (pcB b (1032 + 28 * pxN b) (b.length - 1072 - 28 * pxN b)).length (bsv (pcB b (1032 + 28 * pxN b) (b.length - 1072 - 28 * pxN b)))
  p : Rs L 1 x.p.v (pcB b (b.length - 40) 20).length (bsv (pcB b (b.length - 40) 20))
theorem IxV.up {C : Chunk} {L : List Chunk} {b : List UInt8} {x : IxC} (h : IxV L b x) : IxV (C :: L) b x := ⟨h.len, h.most, h.c.there, h.i.there, h.r.there, h.o.there, h.f.there, h.p.there⟩
theorem sc_rs {L : List Chunk} {s : Sc} {d : List UInt8} (h : Rs L 1 s.v d.length (bsv d)) : s.n = d.length ∧ d.length ≤ s.c := by
  obtain ⟨a, c, hv, hc⟩ := h.room
  unfold Sc.v at hv
  injection hv with w1 w2 w3
  exact ⟨w2, by omega⟩
theorem inum_p (v : Value) (b : List UInt8) (s k i m : Nat) (L : List Chunk) (h : Rs L 1 v (pcB b s k).length (bsv (pcB b s k))) (hm : m = 4 ∨ m = 8) (hk : s + k ≤ b.length) (hi : (i + 1) * m ≤ k) (hb : b.length ≤ 1000000) :
    GvP Try.prog 64 [v, .int .i64 (i : Int), .int .i64 (m : Int)].toArray L (.int .u64 (nmB b (s + m * i) m : Int)) := by
  have hl := pcB_len hk
  have h1 : i * m + m ≤ k := by rw [Nat.add_mul, Nat.one_mul] at hi; exact hi
  have := inum_n v (pcB b s k) i m L h.sl h.room hm (by omega) (by omega)
  rwa [pcB_nm h1, Nat.mul_comm i m] at this
set_option maxHeartbeats 2000000 in
theorem icrc_n (x : IxC) (b : List UInt8) (i : Nat) (L : List Chunk) (h : IxV L b x) (hi : i < pxN b) (hb : b.length ≤ 1000000) : GvP Try.prog 45 [.agg x.vs.toArray, .int .i64 (i : Int)].toArray L (w32 (pxC b i)) := by
  have hln := h.len
  obtain ⟨⟨ca, cn, cc⟩, ⟨ia, i_n, ic⟩, ⟨ra, rn, rc⟩, ⟨oa, on, oc⟩, ⟨fa, fn, fc⟩, ⟨pa, pn, pc⟩⟩ := x
  have hr := h.r
  obtain ⟨hn, _⟩ := sc_rs hr
  simp only at hn
  subst hn
  obtain ⟨y, hy⟩ : ∃ y, y = nmB b (1032 + 20 * pxN b + 4 * i) 4 := ⟨_, rfl⟩
  have hc : BitVec.ofNat 32 y = pxC b i := by rw [hy]; rfl
  refine Gv.of_body (args := [.agg #[.slice ca cn cc, .slice ia i_n ic, .slice ra (pcB b (1032 + 20 * pxN b) (4 * pxN b)).length rc, .slice oa on oc, .slice fa fn fc, .slice pa pn pc], .int .i64 (i : Int)]) Try.func45 rfl rfl ?_
  have hnum := fun C => inum_p (.slice ra (pcB b (1032 + 20 * pxN b) (4 * pxN b)).length rc) b (1032 + 20 * pxN b) (4 * pxN b) i 4 _ (hr.there (C := C)) (.inl rfl) (by omega) (by omega) hb
  rw [← hy] at hnum
  (repeat' first|refine kW ?_|refine kU fun bk=>?_|refine kV fun hc=>?_|refine kZ (fun hc=>?_) fun hc=>?_|fail)
  refine OW_callP rfl rfl rfl (hnum _) rfl ?_
  (repeat' first|refine kW ?_|refine kU fun bk=>?_|refine kV fun hc=>?_|refine kZ (fun hc=>?_) fun hc=>?_|fail)
  rw [wrap_w32 y, hc]
  exact kE
set_option maxHeartbeats 4000000 in
theorem iat_n (x : IxC) (b : List UInt8) (i : Nat) (L : List Chunk) (h : IxV L b x) (hok : PxOk b) (hi : i < pxN b) (hb : b.length ≤ 1000000) : GvP Try.prog 36 [.agg x.vs.toArray, .int .i64 (i : Int)].toArray L (.int .i64 (pxAt b i : Int)) := by
  have hln := h.len
  have hlen := hok.len
  obtain ⟨⟨ca, cn, cc⟩, ⟨ia, i_n, ic⟩, ⟨ra, rn, rc⟩, ⟨oa, on, oc⟩, ⟨fa, fn, fc⟩, ⟨pa, pn, pc⟩⟩ := x
  have ho := h.o
  have hf := h.f
  obtain ⟨hn, _⟩ := sc_rs ho
  simp only at hn
  subst hn
  obtain ⟨hn, _⟩ := sc_rs hf
  simp only at hn
  subst hn
  obtain ⟨y, hy⟩ : ∃ y, y = nmB b (1032 + 24 * pxN b + 4 * i) 4 := ⟨_, rfl⟩
  have hyp : pxP b i = y := hy.symm
  have hy32 : y < 4294967296 := by rw [hy]; exact nmB_lt (n := 4) (by omega)
  have hrow := (hok.rows i hi).2.2.2
  refine Gv.of_body (args := [.agg #[.slice ca cn cc, .slice ia i_n ic, .slice ra rn rc, .slice oa (pcB b (1032 + 24 * pxN b) (4 * pxN b)).length oc, .slice fa (pcB b (1032 + 28 * pxN b) (b.length - 1072 - 28 * pxN b)).length fc, .slice pa pn pc], .int .i64 (i : Int)]) Try.func36 rfl rfl ?_
  have hnum := fun C => inum_p (.slice oa (pcB b (1032 + 24 * pxN b) (4 * pxN b)).length oc) b (1032 + 24 * pxN b) (4 * pxN b) i 4 _ (ho.there (C := C)) (.inl rfl) (by omega) (by omega) hb
  rw [← hy] at hnum
  by_cases hfar : 2147483648 ≤ y
  · have hF : pxF b i = true := by unfold pxF; rw [hyp]; exact decide_eq_true hfar
    obtain ⟨e1, e2, e3⟩ := hrow hF
    rw [hyp] at e1
    have hks : pxK b (i + 1) = pxK b i + 1 := by rw [pxK_succ, if_pos hF]
    have hkm := pxK_mono (b := b) (show i + 1 ≤ pxN b by omega)
    obtain ⟨k, hk⟩ : ∃ k, k = pxK b i := ⟨_, rfl⟩
    rw [← hk] at e1 hks
    obtain ⟨z, hz⟩ : ∃ z, z = pxAt b i := ⟨_, rfl⟩
    have hz2 : nmB b (1032 + 28 * pxN b + 8 * k) 8 = z := by rw [hz]; unfold pxAt; rw [if_pos hF, ← hk]
    rw [← hz] at e2 e3 ⊢
    have hnu2 := fun C => inum_p (.slice fa (pcB b (1032 + 28 * pxN b) (b.length - 1072 - 28 * pxN b)).length fc) b (1032 + 28 * pxN b) (b.length - 1072 - 28 * pxN b) k 8 _ (hf.there (C := C)) (.inr rfl) (by omega) (by omega) hb
    rw [hz2] at hnu2
    (repeat' first|refine kW ?_|refine kU fun bk=>?_|refine kV fun hc=>?_|refine kZ (fun hc=>?_) fun hc=>?_|fail)
    refine OW_callP rfl rfl rfl (hnum _) rfl ?_
    (repeat' first|refine kW ?_|refine kU fun bk=>?_|refine kV fun hc=>?_|refine kZ (fun hc=>?_) fun hc=>?_|fail)
    refine OW_EV (EV_ari rfl rfl rfl) rfl ?_
    rw [show IntKind.u64.wrap ((y : Int) - 2147483648) = (k : Int) from by rw [show (y : Int) - 2147483648 = ((k : Nat) : Int) from by omega]; exact wrap_nat rfl (by show k < 2 ^ 64; omega)]
    (repeat' first|refine kW ?_|refine kU fun bk=>?_|refine kV fun hc=>?_|refine kZ (fun hc=>?_) fun hc=>?_|fail)
    refine OW_callP rfl rfl rfl (hnu2 _) rfl ?_
    (repeat' first|refine kW ?_|refine kU fun bk=>?_|refine kV fun hc=>?_|refine kZ (fun hc=>?_) fun hc=>?_|fail)
    exact kE
  · have hF : pxF b i = false := by unfold pxF; rw [hyp]; exact decide_eq_false hfar
    have hz : pxAt b i = y := by unfold pxAt; rw [if_neg (by rw [hF]; decide)]; exact hyp
    rw [hz]
    (repeat' first|refine kW ?_|refine kU fun bk=>?_|refine kV fun hc=>?_|refine kZ (fun hc=>?_) fun hc=>?_|fail)
    refine OW_callP rfl rfl rfl (hnum _) rfl ?_
    (repeat' first|refine kW ?_|refine kU fun bk=>?_|refine kV fun hc=>?_|refine kZ (fun hc=>?_) fun hc=>?_|fail)
    exact kE
set_option maxHeartbeats 2000000 in
theorem ibetween_n (x : IxC) (b : List UInt8) (c : Nat) (L : List Chunk) (h : IxV L b x) (hc : c < 256) (hb : b.length ≤ 1000000) : GvP Try.prog 31 [.agg x.vs.toArray, .int .u8 (c : Int)].toArray L (.tuple #[.int .i64 ((if c = 0 then 0 else fnB b (c - 1) : Nat) : Int), .int .i64 (fnB b c : Int)]) := by
  have hln := h.len
  obtain ⟨⟨ca, cn, cc⟩, ⟨ia, i_n, ic⟩, ⟨ra, rn, rc⟩, ⟨oa, on, oc⟩, ⟨fa, fn, fc⟩, ⟨pa, pn, pc⟩⟩ := x
  have hr := h.c
  obtain ⟨hn, _⟩ := sc_rs hr
  simp only at hn
  subst hn
  have hf : ∀ c, c < 256 → fnB b c < 4294967296 := fun c hc => nmB_lt (n := 4) (by omega)
  have hnum := fun i (hi : i < 256) C => inum_p (.slice ca (pcB b 8 1024).length cc) b 8 1024 i 4 _ (hr.there (C := C)) (.inl rfl) (by omega) (show (i + 1) * 4 ≤ 1024 by omega) hb
  change ∀ i, i < 256 → ∀ C, GvP _ _ _ _ (.int .u64 (fnB b i : Int)) at hnum
  have h2 := hf c hc
  obtain ⟨z2, hz2⟩ : ∃ z, z = fnB b c := ⟨_, rfl⟩
  have n2 := hnum c hc
  rw [← hz2] at n2 h2 ⊢
  refine Gv.of_body (args := [.agg #[.slice ca (pcB b 8 1024).length cc, .slice ia i_n ic, .slice ra rn rc, .slice oa on oc, .slice fa fn fc, .slice pa pn pc], .int .u8 (c : Int)]) Try.func31 rfl rfl ?_
  by_cases h0 : c = 0
  · rw [if_pos h0]
    subst h0
    (repeat' first|refine kW ?_|refine kU fun bk=>?_|refine kV fun hc=>?_|refine kZ (fun hc=>?_) fun hc=>?_|fail)
    refine OW_callP rfl rfl rfl (n2 _) rfl ?_
    (repeat' first|refine kW ?_|refine kU fun bk=>?_|refine kV fun hc=>?_|refine kZ (fun hc=>?_) fun hc=>?_|fail)
    exact kE
  · rw [if_neg h0]
    have n1 := hnum (c - 1) (by omega)
    have h1 := hf (c - 1) (by omega)
    obtain ⟨z1, hz1⟩ : ∃ z, z = fnB b (c - 1) := ⟨_, rfl⟩
    rw [← hz1, show ((c - 1 : Nat) : Int) = (c : Int) - 1 from by omega] at n1
    rw [← hz1] at h1 ⊢
    (repeat' first|refine kW ?_|refine kU fun bk=>?_|refine kV fun hc=>?_|refine kZ (fun hc=>?_) fun hc=>?_|fail)
    refine OW_callP rfl rfl rfl (n1 _) rfl ?_
    (repeat' first|refine kW ?_|refine kU fun bk=>?_|refine kV fun hc=>?_|refine kZ (fun hc=>?_) fun hc=>?_|fail)
    refine OW_callP rfl rfl rfl (n2 _) rfl ?_
    (repeat' first|refine kW ?_|refine kU fun bk=>?_|refine kV fun hc=>?_|refine kZ (fun hc=>?_) fun hc=>?_|fail)
    exact kE
set_option maxHeartbeats 4000000 in
theorem itotal_n (v : Value) (b : List UInt8) (L : List Chunk) (h : Rs L 1 v (pcB b 8 1024).length (bsv (pcB b 8 1024))) (h1 : 1032 ≤ b.length) (hb : b.length ≤ 1000000) :
    Gv Try.prog 82 [v].toArray L (fun r L' => L' = L ∧
      ((((∀ c, c < 255 → fnB b c ≤ fnB b (c + 1)) ∧ pxN b ≤ 4096) ∧ r = .tuple #[.int .i64 (pxN b : Int), .bool true]) ∨
       (¬ ((∀ c, c < 255 → fnB b c ≤ fnB b (c + 1)) ∧ pxN b ≤ 4096) ∧ r = .tuple #[.int .i64 0, .bool false]))) := by
  obtain ⟨va, vc, rfl⟩ := rs_val h
  have hf : ∀ c, c < 256 → fnB b c < 4294967296 := fun c hc => nmB_lt (n := 4) (by omega)
  have hnum := fun i (hi : i < 256) => inum_p (.slice va (pcB b 8 1024).length vc) b 8 1024 i 4 L h (.inl rfl) (by omega) (show (i + 1) * 4 ≤ 1024 by omega) hb
  change ∀ i, i < 256 → GvP _ _ _ _ (.int .u64 (fnB b i : Int)) at hnum
  refine Gv.of_body (args := [.slice va (pcB b 8 1024).length vc]) Try.func82 rfl rfl ?_
  (repeat' first|refine kW ?_|refine kU fun bk=>?_|refine kV fun hc=>?_|refine kZ (fun hc=>?_) fun hc=>?_|fail)
  refine WC_loop (X := Nat) (fun i => [(0, .slice va (pcB b 8 1024).length vc), (4, .int .u64 ((if i = 0 then 0 else fnB b (i - 1) : Nat) : Int)), (7, .int .i64 (i : Int))]) (fun _ => L) (fun i => i ≤ 256 ∧ (∀ c, c + 1 < i → fnB b c ≤ fnB b (c + 1)) ∧ ∀ c, c < i → fnB b c ≤ 4096) (fun i => 256 - i) 0 ⟨Nat.zero_le _, fun c hc => by omega, fun c hc => by omega⟩ iS (fun w h => h) ?_
  rintro i ⟨q1, q2, q3⟩
  by_cases hlt : i < 256
  · have hni := hnum i hlt
    have hfi := hf i hlt
    obtain ⟨z, hz⟩ : ∃ z, z = fnB b i := ⟨_, rfl⟩
    obtain ⟨y, hy⟩ : ∃ y, y = if i = 0 then 0 else fnB b (i - 1) := ⟨_, rfl⟩
    rw [← hz] at hni hfi
    rw [← hy]
    have hall : (∀ c, c < 255 → fnB b c ≤ fnB b (c + 1)) ∧ pxN b ≤ 4096 → y ≤ z ∧ z ≤ 4096 := by
      rintro ⟨w1, w2⟩
      have mono : ∀ k c, c + k < 256 → fnB b c ≤ fnB b (c + k) := by
        intro k
        induction k with
        | zero => intro c _; exact Nat.le_refl _
        | succ k ih => intro c hc; exact Nat.le_trans (ih c (by omega)) (w1 (c + k) (by omega))
      refine ⟨?_, ?_⟩
      · rw [hy, hz]
        by_cases h0 : i = 0
        · rw [if_pos h0]; exact Nat.zero_le _
        · rw [if_neg h0]
          have := w1 (i - 1) (by omega)
          rwa [show i - 1 + 1 = i from by omega] at this
      · have := mono (255 - i) i (by omega)
        rw [show i + (255 - i) = 255 from by omega] at this
        rw [hz]
        exact Nat.le_trans this w2
    by_cases hyz : z < y
    · (repeat' first|refine kW ?_|refine kU fun bk=>?_|refine kV fun hc=>?_|refine kZ (fun hc=>?_) fun hc=>?_|fail)
      refine OW_callP rfl rfl rfl hni rfl ?_
      (repeat' first|refine kW ?_|refine kU fun bk=>?_|refine kV fun hc=>?_|refine kZ (fun hc=>?_) fun hc=>?_|fail)
      refine kR ?_
      exact ⟨L, iC, rfl, .inr ⟨fun w => by have := hall w; omega, rfl⟩⟩
    · by_cases hbig : z > 4096
      · (repeat' first|refine kW ?_|refine kU fun bk=>?_|refine kV fun hc=>?_|refine kZ (fun hc=>?_) fun hc=>?_|fail)
        refine OW_callP rfl rfl rfl hni rfl ?_
        (repeat' first|refine kW ?_|refine kU fun bk=>?_|refine kV fun hc=>?_|refine kZ (fun hc=>?_) fun hc=>?_|fail)
        refine kR ?_
        exact ⟨L, iC, rfl, .inr ⟨fun w => by have := hall w; omega, rfl⟩⟩
      · (repeat' first|refine kW ?_|refine kU fun bk=>?_|refine kV fun hc=>?_|refine kZ (fun hc=>?_) fun hc=>?_|fail)
        refine OW_callP rfl rfl rfl hni rfl ?_
        (repeat' first|refine kW ?_|refine kU fun bk=>?_|refine kV fun hc=>?_|refine kZ (fun hc=>?_) fun hc=>?_|fail)
        refine WQ_round (X := Nat) (μ := fun i => 256 - i) (x := i) (i + 1) (by omega) ⟨by omega, fun c hc => ?_, fun c hc => ?_⟩ (by rw [if_neg (by omega), Nat.add_sub_cancel, ← hz]; exact iS) (fun w h => h)
        · by_cases he : c + 1 = i
          · have e1 : y = fnB b c := by rw [hy, if_neg (by omega), show i - 1 = c from by omega]
            rw [← e1, he, ← hz]; omega
          · exact q2 c (by omega)
        · by_cases he : c = i
          · rw [he, ← hz]; omega
          · exact q3 c (by omega)
  · obtain rfl : i = 256 := by omega
    have hfi := hf 255 (by decide)
    rw [if_neg (by decide), show fnB b (256 - 1) = pxN b from rfl]
    obtain ⟨z, hz⟩ : ∃ z, z = pxN b := ⟨_, rfl⟩
    have hq : z ≤ 4096 := by rw [hz]; exact q3 255 (by decide)
    rw [← hz]
    (repeat' first|refine kW ?_|refine kU fun bk=>?_|refine kV fun hc=>?_|refine kZ (fun hc=>?_) fun hc=>?_|fail)
    refine kR ?_
    exact ⟨L, iC, rfl, .inl ⟨⟨fun c hc => q2 c (by omega), hq⟩, rfl⟩⟩
end
end Go.Proofs.Ytmhlmlkndabgmaa
namespace Go.Proofs.Ytmhlmlkndabgmaa
open Go Go.Vx Go.Pk Go.Ix
set_option linter.all false
set_option maxRecDepth 40000
section
variable [W0]
theorem iid_p (x : IxC) (b : List UInt8) (i : Nat) (L : List Chunk) (h : IxV L b x) (hi : i < pxN b) (hb : b.length ≤ 1000000) :
    Gv Try.prog 35 [.agg x.vs.toArray, .int .i64 (i : Int)].toArray L (fun r L' => Rs L 1 r (pxId b i).length (bsv (pxId b i)) ∧ L' = L) := by
  have hln := h.len
  have hl := pcB_len (b := b) (s := 1032) (k := 20 * pxN b) (by omega)
  have := iid_n x (pcB b 1032 (20 * pxN b)) i L h.i (by omega) (by omega)
  rwa [pcB_pc (by omega)] at this
theorem pxId_len {b : List UInt8} {i : Nat} (h : 1072 + 28 * pxN b ≤ b.length) (hi : i < pxN b) : (pxId b i).length = 20 := by unfold pxId; rw [List.length_take, List.length_drop]; omega
def IdF (b : List UInt8) : Prop := ∀ i, i < pxN b → (0 < i → Op.bytesLess (pxId b (i - 1)) (pxId b i) = true) ∧ pxLo b i ≤ i ∧ i < fnB b (pxH b i)
set_option maxHeartbeats 16000000 in
theorem iids_n (x : IxC) (b : List UInt8) (L : List Chunk) (h : IxV L b x) (hb : b.length ≤ 1000000) :
    Gv Try.prog 60 [.agg x.vs.toArray].toArray L (fun r L' => L' = L ∧ ((IdF b ∧ r = .bool true) ∨ (¬ IdF b ∧ r = .bool false))) := by
  have hln := h.len
  have hmo := h.most
  have hli := pcB_len (b := b) (s := 1032) (k := 20 * pxN b) (by omega)
  have hin : x.i.n = 20 * pxN b := by have := (sc_rs h.i).1; omega
  obtain ⟨⟨ca, cn, cc⟩, ⟨ia, i_n, ic⟩, ⟨ra, rn, rc⟩, ⟨oa, on, oc⟩, ⟨fa, fn, fc⟩, ⟨pa, pn, pc⟩⟩ := x
  obtain ⟨n, hn⟩ : ∃ n, n = pxN b := ⟨_, rfl⟩
  have hcnt := fun C => icount_n ⟨⟨ca, cn, cc⟩, ⟨ia, i_n, ic⟩, ⟨ra, rn, rc⟩, ⟨oa, on, oc⟩, ⟨fa, fn, fc⟩, ⟨pa, pn, pc⟩⟩ n (C :: L) (by rw [hn]; exact hin) (by omega)
  have hid := fun i hi C => iid_p ⟨⟨ca, cn, cc⟩, ⟨ia, i_n, ic⟩, ⟨ra, rn, rc⟩, ⟨oa, on, oc⟩, ⟨fa, fn, fc⟩, ⟨pa, pn, pc⟩⟩ b i (C :: L) h.up hi hb
  have hbt := fun c hc C => ibetween_n ⟨⟨ca, cn, cc⟩, ⟨ia, i_n, ic⟩, ⟨ra, rn, rc⟩, ⟨oa, on, oc⟩, ⟨fa, fn, fc⟩, ⟨pa, pn, pc⟩⟩ b c (C :: L) h.up hc hb
  have hfl : ∀ c, c < 256 → fnB b c < 4294967296 := fun c hc => nmB_lt (n := 4) (by omega)
  refine Gv.of_body (args := [.agg #[.slice ca cn cc, .slice ia i_n ic, .slice ra rn rc, .slice oa on oc, .slice fa fn fc, .slice pa pn pc]]) Try.func60 rfl rfl ?_
  (repeat' first|refine kW ?_|refine kU fun bk=>?_|refine kV fun hc=>?_|refine kZ (fun hc=>?_) fun hc=>?_|fail)
  revert bk; intro q
  refine OW_callP rfl rfl rfl (hcnt _) rfl ?_
  (repeat' first|refine kW ?_|refine kU fun bk=>?_|refine kV fun hc=>?_|refine kZ (fun hc=>?_) fun hc=>?_|fail)
  refine WC_loop (X := Nat) (fun i => [(1, .pointer (some ⟨q, 0, none⟩)), (7, .int .i64 (n : Int)), (8, .int .i64 (i : Int))]) (fun _ => [(q, cl [.slice ca cn cc, .slice ia i_n ic, .slice ra rn rc, .slice oa on oc, .slice fa fn fc, .slice pa pn pc] 61)] :: L)
    (fun i => i ≤ n ∧ ∀ j, j < i → (0 < j → Op.bytesLess (pxId b (j - 1)) (pxId b j) = true) ∧ pxLo b j ≤ j ∧ j < fnB b (pxH b j)) (fun i => n - i) 0 ⟨Nat.zero_le _, fun j hj => by omega⟩ iS (fun w h => h) ?_
  rintro i ⟨q1, q2⟩
  by_cases hlt : i < n
  · have hii : i < pxN b := by omega
    have hx20 := pxId_len (by omega : 1072 + 28 * pxN b ≤ b.length) hii
    obtain ⟨y, hy⟩ : ∃ y, (pxId b i)[0]? = some y := ⟨(pxId b i)[0], by simp [hx20]⟩
    have hH : pxH b i = y.toNat := by unfold pxH; rw [List.getD_eq_getElem?_getD, hy]; rfl
    have hy8 := y.toNat_lt
    have hbi := hbt y.toNat (by omega)
    obtain ⟨lo, hlo⟩ : ∃ lo, lo = pxLo b i := ⟨_, rfl⟩
    obtain ⟨hg, hhg⟩ : ∃ hg, hg = fnB b y.toNat := ⟨_, rfl⟩
    have hhg9 : hg < 4294967296 := by rw [hhg]; exact hfl _ (by omega)
    have hlo9 : lo < 4294967296 := by
      rw [hlo]; unfold pxLo; split
      · decide
      · exact hfl _ (by omega)
    have e0 : (if y.toNat = 0 then 0 else fnB b (y.toNat - 1)) = lo := by rw [hlo]; unfold pxLo; rw [hH]
    rw [e0, ← hhg] at hbi
    (repeat' first|refine kW ?_|refine kU fun bk=>?_|refine kV fun hc=>?_|refine kZ (fun hc=>?_) fun hc=>?_|fail)
    refine WC_drawAll [] mixed ?_
    (refine WR_t 0 ?_; refine WR_t 1 ?_; refine WR_t 2 ?_)
    (refine WR_one 3 (by kernel_rfl) rfl rfl ?_)
    refine OW_call rfl rfl rfl (hid i hii _) rfl (fun r L' hp => ?_)
    obtain ⟨qi, rfl⟩ := hp
    refine ⟨iC, ?_⟩
    obtain ⟨eb, eo, ec, ecc, eT, ef, w1, w2, w3⟩ := sl_at qi.sl (Go.Vx.bsv_get hy)
    subst w1
    (refine WR_take 4 rfl rfl (by kernel_rfl) iP iC (EV_indexAddr (j := 0) rfl rfl rfl (by omega)) (by rfl) ?_)
    (refine WR_take 5 rfl rfl (by kernel_rfl) iP iC (EV_load rfl w2 w3) (by rfl) ?_)
    (refine WR_one 6 (by kernel_rfl) rfl rfl ?_)
    refine OW_callP rfl rfl rfl (hbi _) rfl ?_
    refine ⟨iC, ?_⟩
    (refine WR_t 7 ?_; refine WR_t 8 ?_; refine WR_t 9 ?_; refine WR_t 10 ?_; refine WR_t 11 ?_)
    (refine WR_done (by kernel_rfl) ?_)
    have hrow : IdF b → (0 < i → Op.bytesLess (pxId b (i - 1)) (pxId b i) = true) ∧ lo ≤ i ∧ i < hg := fun w => by
      have := w i hii
      rw [hH, ← hhg, ← hlo] at this
      exact this
    by_cases c1 : i < lo
    · (repeat' first|refine kW ?_|refine kU fun bk=>?_|refine kV fun hc=>?_|refine kZ (fun hc=>?_) fun hc=>?_|fail)
      refine WC_drawAll [] mixed ?_
      (refine WR_t 0 ?_; refine WR_t 1 ?_)
      (refine WR_take 2 rfl rfl (by kernel_rfl) iP iC (EV_cmp (b := true) rfl rfl (congrArg some (decide_eq_true (by omega)))) (by rfl) ?_)
      (refine WR_t 3 ?_)
      (refine WR_v 4 ?_; refine WR_v 5 ?_; refine WR_v 6 ?_)
      (refine WR_t 7 ?_; refine WR_t 8 ?_)
      (refine WR_v 9 ?_; refine WR_v 10 ?_; refine WR_v 11 ?_)
      (refine WR_x 12 ?_; refine WR_x 13 ?_; refine WR_x 14 ?_; refine WR_x 15 ?_; refine WR_x 16 ?_; refine WR_x 17 ?_; refine WR_x 18 ?_; refine WR_x 19 ?_; refine WR_x 20 ?_)
      (refine WR_v 21 ?_)
      (refine WR_t 22 ?_)
      (refine WR_done (by kernel_rfl) ?_)
      (repeat' first|refine kW ?_|refine kU fun bk=>?_|refine kV fun hc=>?_|refine kZ (fun hc=>?_) fun hc=>?_|fail)
      refine kR ?_
      exact ⟨L, iC, rfl, .inr ⟨fun w => by have := hrow w; omega, rfl⟩⟩
    by_cases c2 : hg ≤ i
    · (repeat' first|refine kW ?_|refine kU fun bk=>?_|refine kV fun hc=>?_|refine kZ (fun hc=>?_) fun hc=>?_|fail)
      refine WC_drawAll [] mixed ?_
      (refine WR_t 0 ?_; refine WR_t 1 ?_)
      (refine WR_take 2 rfl rfl (by kernel_rfl) iP iC (EV_cmp (b := false) rfl rfl (congrArg some (decide_eq_false (by omega)))) (by rfl) ?_)
      (refine WR_t 3 ?_)
      (refine WR_u 4 ?_; refine WR_u 5 ?_)
      (refine WR_takeOn 6 rfl rfl rfl (by kernel_rfl) iP iC (EV_cmp (b := true) rfl rfl (congrArg some (decide_eq_true (by omega)))) (by rfl) ?_)
      (refine WR_t 7 ?_; refine WR_t 8 ?_)
      (refine WR_v 9 ?_; refine WR_v 10 ?_; refine WR_v 11 ?_)
      (refine WR_x 12 ?_; refine WR_x 13 ?_; refine WR_x 14 ?_; refine WR_x 15 ?_; refine WR_x 16 ?_; refine WR_x 17 ?_; refine WR_x 18 ?_; refine WR_x 19 ?_; refine WR_x 20 ?_)
      (refine WR_v 21 ?_)
      (refine WR_t 22 ?_)
      (refine WR_done (by kernel_rfl) ?_)
      (repeat' first|refine kW ?_|refine kU fun bk=>?_|refine kV fun hc=>?_|refine kZ (fun hc=>?_) fun hc=>?_|fail)
      refine kR ?_
      exact ⟨L, iC, rfl, .inr ⟨fun w => by have := hrow w; omega, rfl⟩⟩
    by_cases c3 : i = 0
    · (repeat' first|refine kW ?_|refine kU fun bk=>?_|refine kV fun hc=>?_|refine kZ (fun hc=>?_) fun hc=>?_|fail)
      refine WC_drawAll [] mixed ?_
      (refine WR_t 0 ?_; refine WR_t 1 ?_)
      (refine WR_take 2 rfl rfl (by kernel_rfl) iP iC (EV_cmp (b := false) rfl rfl (congrArg some (decide_eq_false (by omega)))) (by rfl) ?_)
      (refine WR_t 3 ?_)
      (refine WR_u 4 ?_; refine WR_u 5 ?_)
      (refine WR_takeOn 6 rfl rfl rfl (by kernel_rfl) iP iC (EV_cmp (b := false) rfl rfl (congrArg some (decide_eq_false (by omega)))) (by rfl) ?_)
      (refine WR_t 7 ?_; refine WR_t 8 ?_)
      (refine WR_u 9 ?_)
      (refine WR_takeOn 10 rfl rfl rfl (by kernel_rfl) iP iC (EV_cmp (b := false) rfl rfl (congrArg some (decide_eq_false (by omega)))) (by rfl) ?_)
      (refine WR_u 11 ?_)
      (refine WR_v 12 ?_; refine WR_v 13 ?_; refine WR_v 14 ?_; refine WR_v 15 ?_; refine WR_v 16 ?_; refine WR_v 17 ?_; refine WR_v 18 ?_; refine WR_v 19 ?_; refine WR_v 20 ?_)
      (refine WR_u 21 ?_)
      (refine WR_t 22 ?_)
      (refine WR_done (by kernel_rfl) ?_)
      (repeat' first|refine kW ?_|refine kU fun bk=>?_|refine kV fun hc=>?_|refine kZ (fun hc=>?_) fun hc=>?_|fail)
      refine WQ_round (X := Nat) (μ := fun i => n - i) (x := i) (i + 1) (by omega) ⟨by omega, fun j hj => ?_⟩ iS (fun w h => h)
      obtain rfl : j = i := by omega
      rw [hH, ← hhg, ← hlo]
      exact ⟨fun w => by omega, by omega, by omega⟩
    have hi1 : i - 1 < pxN b := by omega
    have hidp := hid (i - 1) hi1
    rw [show ((i - 1 : Nat) : Int) = (i : Int) - 1 from by omega] at hidp
    obtain ⟨cm, hcm⟩ : ∃ cm, cm = Lib.compareBytes (pxId b (i - 1)) (pxId b i) := ⟨_, rfl⟩
    have hcl : cm < 0 ↔ Op.bytesLess (pxId b (i - 1)) (pxId b i) = true := by rw [hcm]; exact cmpB_lt _ _
    by_cases c4 : cm < 0
    · (repeat' first|refine kW ?_|refine kU fun bk=>?_|refine kV fun hc=>?_|refine kZ (fun hc=>?_) fun hc=>?_|fail)
      refine WC_drawAll [] mixed ?_
      (refine WR_t 0 ?_; refine WR_t 1 ?_)
      (refine WR_take 2 rfl rfl (by kernel_rfl) iP iC (EV_cmp (b := false) rfl rfl (congrArg some (decide_eq_false (by omega)))) (by rfl) ?_)
      (refine WR_t 3 ?_)
      (refine WR_u 4 ?_; refine WR_u 5 ?_)
      (refine WR_takeOn 6 rfl rfl rfl (by kernel_rfl) iP iC (EV_cmp (b := false) rfl rfl (congrArg some (decide_eq_false (by omega)))) (by rfl) ?_)
      (refine WR_t 7 ?_; refine WR_t 8 ?_)
      (refine WR_u 9 ?_)
      (refine WR_takeOn 10 rfl rfl rfl (by kernel_rfl) iP iC (EV_cmp (b := true) rfl rfl (congrArg some (decide_eq_true (by omega)))) (by rfl) ?_)
      (refine WR_u 11 ?_; refine WR_u 12 ?_; refine WR_u 13 ?_; refine WR_u 14 ?_; refine WR_u 16 ?_; refine WR_u 17 ?_)
      (refine WR_oneOn 15 (by kernel_rfl) rfl rfl rfl ?_)
      refine OW_call rfl rfl rfl (hidp _) rfl (fun r L' hp => ?_)
      obtain ⟨qj, rfl⟩ := hp
      refine ⟨iC, ?_⟩
      (refine WR_oneOn 18 (by kernel_rfl) rfl rfl rfl ?_)
      refine OW_call rfl rfl rfl (hid i hii _) rfl (fun r L' hp => ?_)
      obtain ⟨qk, rfl⟩ := hp
      refine ⟨iC, ?_⟩
      have hbc := bcompare_n _ _ _ _ _ qj.sl qk.sl
      rw [← hcm] at hbc
      (refine WR_oneOn 19 (by kernel_rfl) rfl rfl rfl ?_)
      refine OW_callP rfl rfl rfl hbc rfl ?_
      refine ⟨iC, ?_⟩
      (refine WR_takeOn 20 rfl rfl rfl (by kernel_rfl) iP iC (EV_cmp (b := false) rfl rfl (congrArg some (decide_eq_false (by omega)))) (by rfl) ?_)
      (refine WR_u 21 ?_)
      (refine WR_t 22 ?_)
      (refine WR_done (by kernel_rfl) ?_)
      (repeat' first|refine kW ?_|refine kU fun bk=>?_|refine kV fun hc=>?_|refine kZ (fun hc=>?_) fun hc=>?_|fail)
      refine WQ_round (X := Nat) (μ := fun i => n - i) (x := i) (i + 1) (by omega) ⟨by omega, fun j hj => ?_⟩ iS (fun w h => h)
      by_cases hji : j = i
      · subst hji
        rw [hH, ← hhg, ← hlo]
        exact ⟨fun _ => hcl.1 c4, by omega, by omega⟩
      · exact q2 j (by omega)
    · (repeat' first|refine kW ?_|refine kU fun bk=>?_|refine kV fun hc=>?_|refine kZ (fun hc=>?_) fun hc=>?_|fail)
      refine WC_drawAll [] mixed ?_
      (refine WR_t 0 ?_; refine WR_t 1 ?_)
      (refine WR_take 2 rfl rfl (by kernel_rfl) iP iC (EV_cmp (b := false) rfl rfl (congrArg some (decide_eq_false (by omega)))) (by rfl) ?_)
      (refine WR_t 3 ?_)
      (refine WR_u 4 ?_; refine WR_u 5 ?_)
      (refine WR_takeOn 6 rfl rfl rfl (by kernel_rfl) iP iC (EV_cmp (b := false) rfl rfl (congrArg some (decide_eq_false (by omega)))) (by rfl) ?_)
      (refine WR_t 7 ?_; refine WR_t 8 ?_)
      (refine WR_u 9 ?_)
      (refine WR_takeOn 10 rfl rfl rfl (by kernel_rfl) iP iC (EV_cmp (b := true) rfl rfl (congrArg some (decide_eq_true (by omega)))) (by rfl) ?_)
      (refine WR_u 11 ?_; refine WR_u 12 ?_; refine WR_u 13 ?_; refine WR_u 14 ?_; refine WR_u 16 ?_; refine WR_u 17 ?_)
      (refine WR_oneOn 15 (by kernel_rfl) rfl rfl rfl ?_)
      refine OW_call rfl rfl rfl (hidp _) rfl (fun r L' hp => ?_)
      obtain ⟨qj, rfl⟩ := hp
      refine ⟨iC, ?_⟩
      (refine WR_oneOn 18 (by kernel_rfl) rfl rfl rfl ?_)
      refine OW_call rfl rfl rfl (hid i hii _) rfl (fun r L' hp => ?_)
      obtain ⟨qk, rfl⟩ := hp
      refine ⟨iC, ?_⟩
      have hbc := bcompare_n _ _ _ _ _ qj.sl qk.sl
      rw [← hcm] at hbc
      (refine WR_oneOn 19 (by kernel_rfl) rfl rfl rfl ?_)
      refine OW_callP rfl rfl rfl hbc rfl ?_
      refine ⟨iC, ?_⟩
      (refine WR_takeOn 20 rfl rfl rfl (by kernel_rfl) iP iC (EV_cmp (b := true) rfl rfl (congrArg some (decide_eq_true (by omega)))) (by rfl) ?_)
      (refine WR_u 21 ?_)
      (refine WR_t 22 ?_)
      (refine WR_done (by kernel_rfl) ?_)
      (repeat' first|refine kW ?_|refine kU fun bk=>?_|refine kV fun hc=>?_|refine kZ (fun hc=>?_) fun hc=>?_|fail)
      refine kR ?_
      exact ⟨L, iC, rfl, .inr ⟨fun w => by have := hcl.2 ((hrow w).1 (by omega)); omega, rfl⟩⟩
  · obtain rfl : i = n := by omega
    (repeat' first|refine kW ?_|refine kU fun bk=>?_|refine kV fun hc=>?_|refine kZ (fun hc=>?_) fun hc=>?_|fail)
    refine kR ?_
    exact ⟨L, iC, rfl, .inl ⟨fun j hj => q2 j (by omega), rfl⟩⟩
def OfF (b : List UInt8) : Prop := (∀ i, i < pxN b → pxF b i = true → pxP b i = 2147483648 + pxK b i ∧ 2147483648 ≤ pxAt b i ∧ pxAt b i ≤ 4611686018427387904) ∧ b.length = 1072 + 28 * pxN b + 8 * pxK b (pxN b)
set_option maxHeartbeats 16000000 in
theorem ioffs_n (x : IxC) (b : List UInt8) (L : List Chunk) (h : IxV L b x) (hb : b.length ≤ 1000000) :
    Gv Try.prog 61 [.agg x.vs.toArray].toArray L (fun r L' => L' = L ∧ ((OfF b ∧ r = .bool true) ∨ (¬ OfF b ∧ r = .bool false))) := by
  have hln := h.len
  have hmo := h.most
  have hli := pcB_len (b := b) (s := 1032) (k := 20 * pxN b) (by omega)
  have hin : x.i.n = 20 * pxN b := by have := (sc_rs h.i).1; omega
  obtain ⟨⟨ca, cn, cc⟩, ⟨ia, i_n, ic⟩, ⟨ra, rn, rc⟩, ⟨oa, on, oc⟩, ⟨fa, fn, fc⟩, ⟨pa, pn, pc⟩⟩ := x
  have ho := h.o
  have hf := h.f
  obtain ⟨hn, _⟩ := sc_rs ho
  simp only at hn
  subst hn
  obtain ⟨hn, _⟩ := sc_rs hf
  simp only at hn
  subst hn
  obtain ⟨n, hn⟩ : ∃ n, n = pxN b := ⟨_, rfl⟩
  have hcnt := fun C => icount_n ⟨⟨ca, cn, cc⟩, ⟨ia, i_n, ic⟩, ⟨ra, rn, rc⟩, ⟨oa, _, oc⟩, ⟨fa, _, fc⟩, ⟨pa, pn, pc⟩⟩ n (C :: L) (by rw [hn]; exact hin) (by omega)
  have hword := fun i (hi : i < pxN b) C => inum_p (.slice oa (pcB b (1032 + 24 * pxN b) (4 * pxN b)).length oc) b (1032 + 24 * pxN b) (4 * pxN b) i 4 _ (ho.there (C := C)) (.inl rfl) (by omega) (by omega) hb
  have hfar := fun k (hk : 8 * k + 8 ≤ b.length - 1072 - 28 * pxN b) C => inum_p (.slice fa (pcB b (1032 + 28 * pxN b) (b.length - 1072 - 28 * pxN b)).length fc) b (1032 + 28 * pxN b) (b.length - 1072 - 28 * pxN b) k 8 _ (hf.there (C := C)) (.inr rfl) (by omega) (by omega) hb
  change ∀ i, i < pxN b → ∀ C, GvP _ _ _ _ (.int .u64 (pxP b i : Int)) at hword
  have hlf := pcB_len (b := b) (s := 1032 + 28 * pxN b) (k := b.length - 1072 - 28 * pxN b) (by omega)
  have hlo := pcB_len (b := b) (s := 1032 + 24 * pxN b) (k := 4 * pxN b) (by omega)
  obtain ⟨m, hm⟩ : ∃ m, m = b.length - 1072 - 28 * pxN b := ⟨_, rfl⟩
  rw [← hm] at hlf hfar
  rw [hlo] at hword
  rw [hlf] at hfar
  refine Gv.of_body (args := [.agg #[.slice ca cn cc, .slice ia i_n ic, .slice ra rn rc, .slice oa (pcB b (1032 + 24 * pxN b) (4 * pxN b)).length oc, .slice fa (pcB b (1032 + 28 * pxN b) (b.length - 1072 - 28 * pxN b)).length fc, .slice pa pn pc]]) Try.func61 rfl rfl ?_
  rw [← hm, hlf, hlo]
  rw [← hm, hlf, hlo] at hcnt
  (repeat' first|refine kW ?_|refine kU fun bk=>?_|refine kV fun hc=>?_|refine kZ (fun hc=>?_) fun hc=>?_|fail)
  revert bk; intro q
  refine OW_callP rfl rfl rfl (hcnt _) rfl ?_
  (repeat' first|refine kW ?_|refine kU fun bk=>?_|refine kV fun hc=>?_|refine kZ (fun hc=>?_) fun hc=>?_|fail)
  have hkn := pxK_le b n
  refine WC_loop (X := Nat) (fun i => [(1, .pointer (some ⟨q, 0, none⟩)), (3, .int .i64 (pxK b i : Int)), (8, .int .i64 (n : Int)), (9, .int .i64 (i : Int))]) (fun _ => [(q, cl [.slice ca cn cc, .slice ia i_n ic, .slice ra rn rc, .slice oa (4 * pxN b) oc, .slice fa m fc, .slice pa pn pc] 61)] :: L)
    (fun i => i ≤ n ∧ ∀ j, j < i → pxF b j = true → pxP b j = 2147483648 + pxK b j ∧ 2147483648 ≤ pxAt b j ∧ pxAt b j ≤ 4611686018427387904) (fun i => n - i) 0 ⟨Nat.zero_le _, fun j hj => by omega⟩ iS (fun w h => h) ?_
  rintro i ⟨q1, q2⟩
  have hki := pxK_le b i
  by_cases hlt : i < n
  · have hii : i < pxN b := by omega
    have hwi := hword i hii
    have hP32 : pxP b i < 4294967296 := nmB_lt (n := 4) (by omega)
    have hrow : OfF b → pxF b i = true → pxP b i = 2147483648 + pxK b i ∧ 2147483648 ≤ pxAt b i ∧ pxAt b i ≤ 4611686018427387904 := fun w => w.1 i hii
    have hks := pxK_succ b i
    have hkm := pxK_mono (b := b) (show i + 1 ≤ pxN b by omega)
    obtain ⟨k, hk⟩ : ∃ k, k = pxK b i := ⟨_, rfl⟩
    obtain ⟨y, hy⟩ : ∃ y, y = pxP b i := ⟨_, rfl⟩
    rw [← hk] at hrow hks hki ⊢
    rw [← hy] at hwi hP32 hrow
    by_cases hF : 2147483648 ≤ y
    · have hFb : pxF b i = true := by unfold pxF; rw [← hy]; exact decide_eq_true hF
      rw [if_pos hFb] at hks
      have hA : pxAt b i = nmB b (1032 + 28 * pxN b + 8 * k) 8 := by unfold pxAt; rw [if_pos hFb, ← hk]
      by_cases c1 : y = 2147483648 + k
      · by_cases c2 : 8 * k + 8 ≤ m
        · have hfk := hfar k c2
          rw [← hA] at hfk
          obtain ⟨z, hz⟩ : ∃ z, z = pxAt b i := ⟨_, rfl⟩
          rw [← hz] at hfk hrow
          (repeat' first|refine kW ?_|refine kU fun bk=>?_|refine kV fun hc=>?_|refine kZ (fun hc=>?_) fun hc=>?_|fail)
          refine OW_callP rfl rfl rfl (hwi _) rfl ?_
          (repeat' first|refine kY ?_|refine kU fun bk=>?_|refine kV fun hc=>?_|refine kZ (fun hc=>?_) fun hc=>?_|fail)
          repeat refine WC_seq ?_
          refine WC_region ?_
          refine WL_plain rfl ?_
          refine OW_EV (EV_move rfl) rfl ?_
          refine WL_plain rfl ?_
          refine OW_EV (EV_cmp (b := false) rfl rfl (by show some (decide ((y : Int) < 2147483648)) = some false; rw [decide_eq_false (by omega)])) rfl ?_
          ((repeat' first|refine kW ?_|refine kU fun bk=>?_|refine kV fun hc=>?_|refine kZ (fun hc=>?_) fun hc=>?_|fail) <;> try exact absurd trivial hc)
          refine OW_EV (EV_nor' (k := .u64) k 1 31 rfl rfl rfl rfl rfl (by omega) (by show k + 1 * 2 ^ 31 < 2 ^ 64; omega)) rfl ?_
          refine WL_plain rfl ?_
          refine OW_EV (EV_cmp (b := false) rfl rfl (by show some ((y : Int) != ((k + 1 * 2 ^ 31 : Nat) : Int)) = some false; congr 1; simp; omega)) rfl ?_
          ((repeat' first|refine kW ?_|refine kU fun bk=>?_|refine kV fun hc=>?_|refine kZ (fun hc=>?_) fun hc=>?_|fail) <;> try exact absurd trivial hc)
          refine OW_EV (EV_quoN m 8 rfl rfl rfl rfl (by decide) (by omega)) rfl ?_
          ((repeat' first|refine kW ?_|refine kU fun bk=>?_|refine kV fun hc=>?_|refine kZ (fun hc=>?_) fun hc=>?_|fail) <;> try exact absurd trivial hc)
          refine OW_callP rfl rfl rfl (hfk _) rfl ?_
          by_cases c3 : z < 2147483648
          · (repeat' first|refine kY ?_|refine kU fun bk=>?_|refine kV fun hc=>?_|refine kZ (fun hc=>?_) fun hc=>?_|fail)
            repeat refine WC_seq ?_
            refine WC_region ?_
            refine WL_plain rfl ?_
            refine OW_EV (EV_move rfl) rfl ?_
            refine WL_plain rfl ?_
            refine OW_EV (EV_cmp (b := true) rfl rfl (by show some (decide ((z : Int) < 2147483648)) = some true; rw [decide_eq_true (by omega)])) rfl ?_
            ((repeat' first|refine kW ?_|refine kU fun bk=>?_|refine kV fun hc=>?_|refine kZ (fun hc=>?_) fun hc=>?_|fail) <;> try exact absurd trivial hc)
            refine kR ?_
            exact ⟨L, iC, rfl, .inr ⟨fun w => by have := hrow w hFb; omega, rfl⟩⟩
          by_cases c4 : z > 4611686018427387904
          · (repeat' first|refine kY ?_|refine kU fun bk=>?_|refine kV fun hc=>?_|refine kZ (fun hc=>?_) fun hc=>?_|fail)
            repeat refine WC_seq ?_
            refine WC_region ?_
            refine WL_plain rfl ?_
            refine OW_EV (EV_move rfl) rfl ?_
            refine WL_plain rfl ?_
            refine OW_EV (EV_cmp (b := false) rfl rfl (by show some (decide ((z : Int) < 2147483648)) = some false; rw [decide_eq_false (by omega)])) rfl ?_
            ((repeat' first|refine kW ?_|refine kU fun bk=>?_|refine kV fun hc=>?_|refine kZ (fun hc=>?_) fun hc=>?_|fail) <;> try exact absurd trivial hc)
            refine kR ?_
            exact ⟨L, iC, rfl, .inr ⟨fun w => by have := hrow w hFb; omega, rfl⟩⟩
          (repeat' first|refine kY ?_|refine kU fun bk=>?_|refine kV fun hc=>?_|refine kZ (fun hc=>?_) fun hc=>?_|fail)
          repeat refine WC_seq ?_
          refine WC_region ?_
          refine WL_plain rfl ?_
          refine OW_EV (EV_move rfl) rfl ?_
          refine WL_plain rfl ?_
          refine OW_EV (EV_cmp (b := false) rfl rfl (by show some (decide ((z : Int) < 2147483648)) = some false; rw [decide_eq_false (by omega)])) rfl ?_
          ((repeat' first|refine kW ?_|refine kU fun bk=>?_|refine kV fun hc=>?_|refine kZ (fun hc=>?_) fun hc=>?_|fail) <;> try exact absurd trivial hc)
          refine WQ_round (X := Nat) (μ := fun i => n - i) (x := i) (i + 1) (by omega) ⟨by omega, fun j hj hjF => ?_⟩ (by rw [hks]; exact iS) (fun w h => h)
          by_cases hji : j = i
          · subst hji; rw [← hy, ← hk, ← hz]; omega
          · exact q2 j (by omega) hjF
        · (repeat' first|refine kW ?_|refine kU fun bk=>?_|refine kV fun hc=>?_|refine kZ (fun hc=>?_) fun hc=>?_|fail)
          refine OW_callP rfl rfl rfl (hwi _) rfl ?_
          (repeat' first|refine kY ?_|refine kU fun bk=>?_|refine kV fun hc=>?_|refine kZ (fun hc=>?_) fun hc=>?_|fail)
          repeat refine WC_seq ?_
          refine WC_region ?_
          refine WL_plain rfl ?_
          refine OW_EV (EV_move rfl) rfl ?_
          refine WL_plain rfl ?_
          refine OW_EV (EV_cmp (b := false) rfl rfl (by show some (decide ((y : Int) < 2147483648)) = some false; rw [decide_eq_false (by omega)])) rfl ?_
          ((repeat' first|refine kW ?_|refine kU fun bk=>?_|refine kV fun hc=>?_|refine kZ (fun hc=>?_) fun hc=>?_|fail) <;> try exact absurd trivial hc)
          refine OW_EV (EV_nor' (k := .u64) k 1 31 rfl rfl rfl rfl rfl (by omega) (by show k + 1 * 2 ^ 31 < 2 ^ 64; omega)) rfl ?_
          refine WL_plain rfl ?_
          refine OW_EV (EV_cmp (b := false) rfl rfl (by show some ((y : Int) != ((k + 1 * 2 ^ 31 : Nat) : Int)) = some false; congr 1; simp; omega)) rfl ?_
          ((repeat' first|refine kW ?_|refine kU fun bk=>?_|refine kV fun hc=>?_|refine kZ (fun hc=>?_) fun hc=>?_|fail) <;> try exact absurd trivial hc)
          refine OW_EV (EV_quoN m 8 rfl rfl rfl rfl (by decide) (by omega)) rfl ?_
          ((repeat' first|refine kW ?_|refine kU fun bk=>?_|refine kV fun hc=>?_|refine kZ (fun hc=>?_) fun hc=>?_|fail) <;> try exact absurd trivial hc)
          refine kR ?_
          refine ⟨L, iC, rfl, .inr ⟨fun w => ?_, rfl⟩⟩
          have := w.2
          omega
      · (repeat' first|refine kW ?_|refine kU fun bk=>?_|refine kV fun hc=>?_|refine kZ (fun hc=>?_) fun hc=>?_|fail)
        refine OW_callP rfl rfl rfl (hwi _) rfl ?_
        (repeat' first|refine kY ?_|refine kU fun bk=>?_|refine kV fun hc=>?_|refine kZ (fun hc=>?_) fun hc=>?_|fail)
        repeat refine WC_seq ?_
        refine WC_region ?_
        refine WL_plain rfl ?_
        refine OW_EV (EV_move rfl) rfl ?_
        refine WL_plain rfl ?_
        refine OW_EV (EV_cmp (b := false) rfl rfl (by show some (decide ((y : Int) < 2147483648)) = some false; rw [decide_eq_false (by omega)])) rfl ?_
        ((repeat' first|refine kW ?_|refine kU fun bk=>?_|refine kV fun hc=>?_|refine kZ (fun hc=>?_) fun hc=>?_|fail) <;> try exact absurd trivial hc)
        refine OW_EV (EV_nor' (k := .u64) k 1 31 rfl rfl rfl rfl rfl (by omega) (by show k + 1 * 2 ^ 31 < 2 ^ 64; omega)) rfl ?_
        refine WL_plain rfl ?_
        refine OW_EV (EV_cmp (b := true) rfl rfl (by show some ((y : Int) != ((k + 1 * 2 ^ 31 : Nat) : Int)) = some true; congr 1; simp; omega)) rfl ?_
        ((repeat' first|refine kW ?_|refine kU fun bk=>?_|refine kV fun hc=>?_|refine kZ (fun hc=>?_) fun hc=>?_|fail) <;> try exact absurd trivial hc)
        refine kR ?_
        exact ⟨L, iC, rfl, .inr ⟨fun w => c1 (by have := (hrow w hFb).1; omega), rfl⟩⟩
    · have hFb : pxF b i = false := by unfold pxF; rw [← hy]; exact decide_eq_false hF
      rw [if_neg (by rw [hFb]; decide)] at hks
      (repeat' first|refine kW ?_|refine kU fun bk=>?_|refine kV fun hc=>?_|refine kZ (fun hc=>?_) fun hc=>?_|fail)
      refine OW_callP rfl rfl rfl (hwi _) rfl ?_
      (repeat' first|refine kY ?_|refine kU fun bk=>?_|refine kV fun hc=>?_|refine kZ (fun hc=>?_) fun hc=>?_|fail)
      repeat refine WC_seq ?_
      refine WC_region ?_
      refine WL_plain rfl ?_
      refine OW_EV (EV_move rfl) rfl ?_
      refine WL_plain rfl ?_
      refine OW_EV (EV_cmp (b := true) rfl rfl (by show some (decide ((y : Int) < 2147483648)) = some true; rw [decide_eq_true (by omega)])) rfl ?_
      ((repeat' first|refine kW ?_|refine kU fun bk=>?_|refine kV fun hc=>?_|refine kZ (fun hc=>?_) fun hc=>?_|fail) <;> try exact absurd trivial hc)
      refine WQ_round (X := Nat) (μ := fun i => n - i) (x := i) (i + 1) (by omega) ⟨by omega, fun j hj hjF => ?_⟩ (by rw [hks]; exact iS) (fun w h => h)
      by_cases hji : j = i
      · subst hji; rw [hFb] at hjF; cases hjF
      · exact q2 j (by omega) hjF
  · obtain rfl : i = n := by omega
    by_cases c : m = 8 * pxK b i
    · have hbq : ((m : Int) == (pxK b i : Int) * 8) = true := by simp; omega
      (repeat' first|refine kW ?_|refine kU fun bk=>?_|refine kV fun hc=>?_|refine kZ (fun hc=>?_) fun hc=>?_|fail)
      rw [hbq]
      refine kR ?_
      exact ⟨L, iC, rfl, .inl ⟨⟨fun j hj => q2 j (by omega), by rw [← hn]; omega⟩, rfl⟩⟩
    · have hbq : ((m : Int) == (pxK b i : Int) * 8) = false := by simp; omega
      (repeat' first|refine kW ?_|refine kU fun bk=>?_|refine kV fun hc=>?_|refine kZ (fun hc=>?_) fun hc=>?_|fail)
      rw [hbq]
      refine kR ?_
      exact ⟨L, iC, rfl, .inr ⟨fun w => by have := w.2; rw [← hn] at this; omega, rfl⟩⟩
end
end Go.Proofs.Ytmhlmlkndabgmaa
namespace Go.Proofs.Ytmhlmlkndabgmaa
open Go Go.Vx Go.Ob
variable [W0]
set_option linter.all false
set_option maxRecDepth 4000
theorem bytesequal_n (v1 v2 : Value) (a b : List UInt8) (L : List Chunk) (h1 : Sl L 1 v1 a.length (bsv a)) (h2 : Sl L 1 v2 b.length (bsv b)) : GvP Try.prog 62 [v1, v2].toArray L (.bool (decide (a = b))) := by
  refine Gv.of_body (args := [v1, v2]) Try.func62 rfl rfl ?_
  (repeat' first|refine kW ?_|refine kU fun bk=>?_|refine kV fun hc=>?_|refine kZ (fun hc=>?_) fun hc=>?_|fail)
  refine OW_EV (EV_convStr (b := a) rfl h1) rfl ?_
  (repeat' first|refine kW ?_|refine kU fun bk=>?_|refine kV fun hc=>?_|refine kZ (fun hc=>?_) fun hc=>?_|fail)
  refine OW_EV (EV_convStr (b := b) rfl h2) rfl ?_
  (repeat' first|refine kW ?_|refine kU fun bk=>?_|refine kV fun hc=>?_|refine kZ (fun hc=>?_) fun hc=>?_|fail)
  refine kR ?_
  refine ⟨_, iC, ?_, rfl⟩
  show Value.bool _ = Value.bool _
  congr 1
  rw [Bool.eq_iff_iff, decide_eq_true_eq, decide_eq_true_eq]
  exact str_inj
end Go.Proofs.Ytmhlmlkndabgmaa
namespace Go.Proofs.Ytmhlmlkndabgmaa
open Go Go.Vx Go.Pk Go.Ix
set_option linter.all false
set_option maxRecDepth 40000
section
variable [W0]
def CvOk (b : List UInt8) : Prop := b.take 8 = [255, 116, 79, 99, 0, 0, 0, 2] ∧ ((∀ c, c < 255 → fnB b c ≤ fnB b (c + 1)) ∧ pxN b ≤ 4096) ∧ 1072 + 28 * pxN b ≤ b.length
def nilS : Value := .slice none 0 0
theorem pcT {b : List UInt8} {m s k : Nat} (h : s + k ≤ m) : ((b.take m).drop s).take k = pcB b s k := by
  unfold pcB; rw [List.drop_take, List.take_take, Nat.min_eq_left (by omega)]
set_option maxHeartbeats 16000000 in
theorem icut_n (v : Value) (b : List UInt8) (S L : List Chunk) (hs : ∀ x ∈ S.flatten, x ∈ L.flatten) (h : Rs S 1 v (b.take (b.length - 20)).length (bsv (b.take (b.length - 20)))) (h1 : 1072 ≤ b.length) (hb : b.length ≤ 1000000) :
    Gv Try.prog 59 [v].toArray L (fun r L' => L' = L ∧ ((CvOk b ∧ ∃ x : IxC, IxV S b x ∧ r = .tuple #[.agg x.vs.toArray, .bool true]) ∨ (¬ CvOk b ∧ r = .tuple #[.agg #[nilS, nilS, nilS, nilS, nilS, nilS], .bool false]))) := by
  obtain ⟨va, vc, rfl⟩ := rs_val h
  obtain ⟨d, hd⟩ : ∃ d, d = b.take (b.length - 20) := ⟨_, rfl⟩
  rw [← hd] at h ⊢
  have hdl : d.length = b.length - 20 := by rw [hd, List.length_take]; omega
  refine Gv.of_body (args := [.slice va d.length vc]) Try.func59 rfl rfl ?_
  (repeat' first|refine kW ?_|refine kU fun bk=>?_|refine kV fun hc=>?_|refine kZ (fun hc=>?_) fun hc=>?_|fail)
  rename_i r2
  revert bk; intro r4
  refine OW_holds (L' := [(r4, cl [.slice none 0 0, .slice none 0 0, .slice none 0 0, .slice none 0 0, .slice none 0 0, .slice none 0 0] 61)] :: [(r2, cl [.slice none 0 0, .slice none 0 0, .slice none 0 0, .slice none 0 0, .slice none 0 0, .slice none 0 0] 61)] :: L) (fun w h => h) ?_
  refine OW_call rfl rfl rfl (isplit_n _ d 8 S _ h (by omega)) rfl (fun r L' hp => ?_)
  obtain ⟨v1, v2, rfl, q1, q2, rfl⟩ := hp
  obtain ⟨a1, c1, rfl⟩ := rs_val q1
  obtain ⟨a2, c2, rfl⟩ := rs_val q2
  (repeat' first|refine kW ?_|refine kU fun bk=>?_|refine kV fun hc=>?_|refine kZ (fun hc=>?_) fun hc=>?_|fail)
  refine OW_call rfl rfl rfl (isplit_n _ (d.drop 8) 1024 S _ q2 (by rw [List.length_drop]; omega)) rfl (fun r L' hp => ?_)
  obtain ⟨v3, v4, rfl, q3, q4, rfl⟩ := hp
  rw [hd, pcT (by omega)] at q3
  rw [List.drop_drop] at q4
  obtain ⟨a3, c3, rfl⟩ := rs_val q3
  obtain ⟨a4, c4, rfl⟩ := rs_val q4
  (repeat' first|refine kW ?_|refine kU fun bk=>?_|refine kV fun hc=>?_|refine kZ (fun hc=>?_) fun hc=>?_|fail)
  refine OW_call rfl rfl rfl (itotal_n (.slice a3 (pcB b 8 1024).length c3) b _ (by repeat (first | exact Rs.sub hs q3 | apply Rs.there)) (by omega) hb) rfl (fun r L' hp => ?_)
  obtain ⟨rfl, hp⟩ := hp
  rcases hp with ⟨ht, rfl⟩ | ⟨ht, rfl⟩
  rotate_left
  · (repeat' first|refine kW ?_|refine kU fun bk=>?_|refine kV fun hc=>?_|refine kZ (fun hc=>?_) fun hc=>?_|fail)
    first
      | (refine WQ_retC (vs := [.agg #[nilS, nilS, nilS, nilS, nilS, nilS], .bool false]) rfl (.agg ⟨by kernel_rfl, by kernel_rfl⟩ rfl (RdAt.cl' (vs := [nilS, nilS, nilS, nilS, nilS, nilS]) (by repeat (first | assumption | exact Fnd.here | refine Fnd.there ?_)) rfl) rfl (.tmp rfl .nil)) ?_
         exact ⟨L, fun w h => (iC : Inc L _).holds h, rfl, .inr ⟨fun w => ht w.2.1, rfl⟩⟩)
      | (refine WQ_endC (vs := [.agg #[nilS, nilS, nilS, nilS, nilS, nilS], .bool false]) rfl (.agg ⟨by kernel_rfl, by kernel_rfl⟩ rfl (RdAt.cl' (vs := [nilS, nilS, nilS, nilS, nilS, nilS]) (by repeat (first | assumption | exact Fnd.here | refine Fnd.there ?_)) rfl) rfl (.tmp rfl .nil)) ?_
         exact ⟨L, fun w h => (iC : Inc L _).holds h, rfl, .inr ⟨fun w => ht w.2.1, rfl⟩⟩)
  have ht8 : d.take 8 = b.take 8 := by rw [hd, List.take_take, Nat.min_eq_left (by omega)]
  have h4l : (d.drop (8 + 1024)).length = b.length - 1052 := by rw [List.length_drop, hdl]; omega
  have hmo := ht.2
  obtain ⟨n, hn⟩ : ∃ n, n = pxN b := ⟨_, rfl⟩
  rw [← hn] at hmo ⊢
  (repeat' first|refine kW ?_|refine kU fun bk=>?_|refine kV fun hc=>?_|refine kZ (fun hc=>?_) fun hc=>?_|fail)
  refine OW_EV (EV_convStr (b := d.take 8) (m := (d.take 8).length) rfl (by repeat (first | exact sl_sub hs q1.sl | apply sl_there))) rfl ?_
  (repeat' first|refine kW ?_|refine kU fun bk=>?_|refine kV fun hc=>?_|refine kZ (fun hc=>?_) fun hc=>?_|fail)
  · first
      | (refine WQ_retC (vs := [.agg #[nilS, nilS, nilS, nilS, nilS, nilS], .bool false]) rfl (.agg ⟨by kernel_rfl, by kernel_rfl⟩ rfl (RdAt.cl' (vs := [nilS, nilS, nilS, nilS, nilS, nilS]) (by repeat (first | assumption | exact Fnd.here | refine Fnd.there ?_)) rfl) rfl (.tmp rfl .nil)) ?_
         exact ⟨L, fun w h => (iC : Inc L _).holds h, rfl, .inr ⟨fun w => hc (by rw [ht8, w.1]), rfl⟩⟩)
      | (refine WQ_endC (vs := [.agg #[nilS, nilS, nilS, nilS, nilS, nilS], .bool false]) rfl (.agg ⟨by kernel_rfl, by kernel_rfl⟩ rfl (RdAt.cl' (vs := [nilS, nilS, nilS, nilS, nilS, nilS]) (by repeat (first | assumption | exact Fnd.here | refine Fnd.there ?_)) rfl) rfl (.tmp rfl .nil)) ?_
         exact ⟨L, fun w h => (iC : Inc L _).holds h, rfl, .inr ⟨fun w => hc (by rw [ht8, w.1]), rfl⟩⟩)
  · first
      | (refine WQ_retC (vs := [.agg #[nilS, nilS, nilS, nilS, nilS, nilS], .bool false]) rfl (.agg ⟨by kernel_rfl, by kernel_rfl⟩ rfl (RdAt.cl' (vs := [nilS, nilS, nilS, nilS, nilS, nilS]) (by repeat (first | assumption | exact Fnd.here | refine Fnd.there ?_)) rfl) rfl (.tmp rfl .nil)) ?_
         exact ⟨L, fun w h => (iC : Inc L _).holds h, rfl, .inr ⟨fun w => by have := w.2.2; rw [← hn] at this; omega, rfl⟩⟩)
      | (refine WQ_endC (vs := [.agg #[nilS, nilS, nilS, nilS, nilS, nilS], .bool false]) rfl (.agg ⟨by kernel_rfl, by kernel_rfl⟩ rfl (RdAt.cl' (vs := [nilS, nilS, nilS, nilS, nilS, nilS]) (by repeat (first | assumption | exact Fnd.here | refine Fnd.there ?_)) rfl) rfl (.tmp rfl .nil)) ?_
         exact ⟨L, fun w h => (iC : Inc L _).holds h, rfl, .inr ⟨fun w => by have := w.2.2; rw [← hn] at this; omega, rfl⟩⟩)
  rename_i hmg
  have hmg2 : b.take 8 = [255, 116, 79, 99, 0, 0, 0, 2] := by rw [← ht8]; exact congrArg (fun s : ByteArray => s.data.toList) hmg
  have hlen : 1072 + 28 * n ≤ b.length := by omega
  rw [show (n : Int) * 20 = ((n * 20 : Nat) : Int) from by omega]
  refine OW_call rfl rfl rfl (isplit_n _ (d.drop (8 + 1024)) (n * 20) S _ q4 (by omega)) rfl (fun r L' hp => ?_)
  obtain ⟨v5, v6, rfl, q5, q6, rfl⟩ := hp
  rw [hd, pcT (by omega), Nat.mul_comm n 20, show 8 + 1024 = 1032 from rfl] at q5
  rw [List.drop_drop] at q6
  obtain ⟨a5, c5, rfl⟩ := rs_val q5
  obtain ⟨a6, c6, rfl⟩ := rs_val q6
  (repeat' first|refine kW ?_|refine kU fun bk=>?_|refine kV fun hc=>?_|refine kZ (fun hc=>?_) fun hc=>?_|fail)
  rw [show (n : Int) * 4 = ((n * 4 : Nat) : Int) from by omega]
  refine OW_call rfl rfl rfl (isplit_n _ (d.drop (8 + 1024 + n * 20)) (n * 4) S _ q6 (by rw [List.length_drop]; omega)) rfl (fun r L' hp => ?_)
  obtain ⟨v7, v8, rfl, q7, q8, rfl⟩ := hp
  rw [hd, pcT (by omega), show 8 + 1024 + n * 20 = 1032 + 20 * n from by omega, Nat.mul_comm n 4] at q7
  rw [List.drop_drop] at q8
  obtain ⟨a7, c7, rfl⟩ := rs_val q7
  obtain ⟨a8, c8, rfl⟩ := rs_val q8
  (repeat' first|refine kW ?_|refine kU fun bk=>?_|refine kV fun hc=>?_|refine kZ (fun hc=>?_) fun hc=>?_|fail)
  rw [show (n : Int) * 4 = ((n * 4 : Nat) : Int) from by omega]
  refine OW_call rfl rfl rfl (isplit_n _ (d.drop (8 + 1024 + n * 20 + n * 4)) (n * 4) S _ q8 (by rw [List.length_drop]; omega)) rfl (fun r L' hp => ?_)
  obtain ⟨v9, v10, rfl, q9, q10, rfl⟩ := hp
  rw [hd, pcT (by omega), show 8 + 1024 + n * 20 + n * 4 = 1032 + 24 * n from by omega, Nat.mul_comm n 4] at q9
  rw [List.drop_drop] at q10
  obtain ⟨a9, c9, rfl⟩ := rs_val q9
  obtain ⟨a10, c10, rfl⟩ := rs_val q10
  have h10 : (d.drop (8 + 1024 + n * 20 + n * 4 + n * 4)).length = b.length - 1052 - 28 * n := by rw [List.length_drop]; omega
  (repeat' first|refine kW ?_|refine kU fun bk=>?_|refine kV fun hc=>?_|refine kZ (fun hc=>?_) fun hc=>?_|fail)
  rw [h10, show ((b.length - 1052 - 28 * n : Nat) : Int) - 20 = ((b.length - 1072 - 28 * n : Nat) : Int) from by omega, ← h10]
  refine OW_call rfl rfl rfl (isplit_n _ (d.drop (8 + 1024 + n * 20 + n * 4 + n * 4)) (b.length - 1072 - 28 * n) S _ q10 (by omega)) rfl (fun r L' hp => ?_)
  obtain ⟨v11, v12, rfl, q11, q12, rfl⟩ := hp
  rw [hd, pcT (by omega), show 8 + 1024 + n * 20 + n * 4 + n * 4 = 1032 + 28 * n from by omega] at q11
  have e12 : (d.drop (8 + 1024 + n * 20 + n * 4 + n * 4)).drop (b.length - 1072 - 28 * n) = pcB b (b.length - 40) 20 := by
    rw [List.drop_drop, hd]
    unfold pcB
    rw [List.drop_take]
    congr 1
    · omega
    · congr 1; omega
  rw [e12] at q12
  obtain ⟨a11, c11, rfl⟩ := rs_val q11
  obtain ⟨a12, c12, rfl⟩ := rs_val q12
  (repeat' first|refine kW ?_|refine kU fun bk=>?_|refine kV fun hc=>?_|refine kZ (fun hc=>?_) fun hc=>?_|fail)
  have hX : IxV S b ⟨⟨a3, (pcB b 8 1024).length, c3⟩, ⟨a5, (pcB b 1032 (20 * n)).length, c5⟩, ⟨a7, (pcB b (1032 + 20 * n) (4 * n)).length, c7⟩, ⟨a9, (pcB b (1032 + 24 * n) (4 * n)).length, c9⟩, ⟨a11, (pcB b (1032 + 28 * n) (b.length - 1072 - 28 * n)).length, c11⟩, ⟨a12, (pcB b (b.length - 40) 20).length, c12⟩⟩ :=
    ⟨by rw [← hn]; exact hlen, by rw [← hn]; exact hmo, q3, by rw [← hn]; exact q5, by rw [← hn]; exact q7, by rw [← hn]; exact q9, by rw [← hn]; exact q11, q12⟩
  have hC : CvOk b := ⟨hmg2, ht, by rw [← hn]; exact hlen⟩
  first
    | (refine WQ_retC (vs := [.agg ([.slice a3 (pcB b 8 1024).length c3, .slice a5 (pcB b 1032 (20 * n)).length c5, .slice a7 (pcB b (1032 + 20 * n) (4 * n)).length c7, .slice a9 (pcB b (1032 + 24 * n) (4 * n)).length c9, .slice a11 (pcB b (1032 + 28 * n) (b.length - 1072 - 28 * n)).length c11, .slice a12 (pcB b (b.length - 40) 20).length c12] : List Value).toArray, .bool true]) rfl (.agg ⟨by kernel_rfl, by kernel_rfl⟩ rfl (RdAt.cl' (vs := [.slice a3 (pcB b 8 1024).length c3, .slice a5 (pcB b 1032 (20 * n)).length c5, .slice a7 (pcB b (1032 + 20 * n) (4 * n)).length c7, .slice a9 (pcB b (1032 + 24 * n) (4 * n)).length c9, .slice a11 (pcB b (1032 + 28 * n) (b.length - 1072 - 28 * n)).length c11, .slice a12 (pcB b (b.length - 40) 20).length c12]) (by repeat (first | assumption | exact Fnd.here | refine Fnd.there ?_)) rfl) rfl (.tmp rfl .nil)) ?_
       exact ⟨L, fun w h => (iC : Inc L _).holds h, rfl, .inl ⟨hC, _, hX, rfl⟩⟩)
    | (refine WQ_endC (vs := [.agg ([.slice a3 (pcB b 8 1024).length c3, .slice a5 (pcB b 1032 (20 * n)).length c5, .slice a7 (pcB b (1032 + 20 * n) (4 * n)).length c7, .slice a9 (pcB b (1032 + 24 * n) (4 * n)).length c9, .slice a11 (pcB b (1032 + 28 * n) (b.length - 1072 - 28 * n)).length c11, .slice a12 (pcB b (b.length - 40) 20).length c12] : List Value).toArray, .bool true]) rfl (.agg ⟨by kernel_rfl, by kernel_rfl⟩ rfl (RdAt.cl' (vs := [.slice a3 (pcB b 8 1024).length c3, .slice a5 (pcB b 1032 (20 * n)).length c5, .slice a7 (pcB b (1032 + 20 * n) (4 * n)).length c7, .slice a9 (pcB b (1032 + 24 * n) (4 * n)).length c9, .slice a11 (pcB b (1032 + 28 * n) (b.length - 1072 - 28 * n)).length c11, .slice a12 (pcB b (b.length - 40) 20).length c12]) (by repeat (first | assumption | exact Fnd.here | refine Fnd.there ?_)) rfl) rfl (.tmp rfl .nil)) ?_
       exact ⟨L, fun w h => (iC : Inc L _).holds h, rfl, .inl ⟨hC, _, hX, rfl⟩⟩)
set_option maxHeartbeats 16000000 in
/-- An index opened: what it holds, or the error. -/
theorem iopen_n (v : Value) (b : List UInt8) (L : List Chunk) (h : Rs L 1 v b.length (bsv b)) (hb : b.length ≤ 1000000) :
    Gv Try.prog 29 [v].toArray L (fun r L' => L' = L ∧ ((pxE b = 0 ∧ PxOk b ∧ ∃ x : IxC, IxV L b x ∧ r = .tuple #[.agg x.vs.toArray, .int .i64 0]) ∨ (pxE b ≠ 0 ∧ r = .tuple #[.agg #[nilS, nilS, nilS, nilS, nilS, nilS], .int .i64 (pxE b : Int)]))) := by
  obtain ⟨va, vc, rfl⟩ := rs_val h
  refine Gv.of_body (args := [.slice va b.length vc]) Try.func29 rfl rfl ?_
  by_cases h1 : b.length < 1072
  · have he := pxE_torn h1
    (repeat' first|refine kW ?_|refine kU fun bk=>?_|refine kV fun hc=>?_|refine kZ (fun hc=>?_) fun hc=>?_|fail)
    first
      | (refine WQ_retC (vs := [.agg ([nilS, nilS, nilS, nilS, nilS, nilS] : List Value).toArray, .int .i64 4]) rfl (.agg ⟨by kernel_rfl, by kernel_rfl⟩ rfl (RdAt.cl' (vs := [nilS, nilS, nilS, nilS, nilS, nilS]) (by repeat (first | assumption | exact Fnd.here | refine Fnd.there ?_)) rfl) rfl (.tmp rfl .nil)) ?_
         exact ⟨L, fun w h => (iC : Inc L _).holds h, rfl, .inr ⟨by rw [he]; decide, by rw [he]; rfl⟩⟩)
      | (refine WQ_endC (vs := [.agg ([nilS, nilS, nilS, nilS, nilS, nilS] : List Value).toArray, .int .i64 4]) rfl (.agg ⟨by kernel_rfl, by kernel_rfl⟩ rfl (RdAt.cl' (vs := [nilS, nilS, nilS, nilS, nilS, nilS]) (by repeat (first | assumption | exact Fnd.here | refine Fnd.there ?_)) rfl) rfl (.tmp rfl .nil)) ?_
         exact ⟨L, fun w h => (iC : Inc L _).holds h, rfl, .inr ⟨by rw [he]; decide, by rw [he]; rfl⟩⟩)
  have hform : ¬ PxOk b → pxE b = 3 := pxE_form h1
  (repeat' first|refine kW ?_|refine kU fun bk=>?_|refine kV fun hc=>?_|refine kZ (fun hc=>?_) fun hc=>?_|fail)
  rename_i r2
  rw [show (b.length : Int) - 20 = ((b.length - 20 : Nat) : Int) from by omega]
  refine OW_call rfl rfl rfl (isplit_n _ b (b.length - 20) L _ h (by omega)) rfl (fun r L' hp => ?_)
  obtain ⟨v1, v2, rfl, q1, q2, rfl⟩ := hp
  obtain ⟨a1, c1, rfl⟩ := rs_val q1
  obtain ⟨a2, c2, rfl⟩ := rs_val q2
  (repeat' first|refine kW ?_|refine kU fun bk=>?_|refine kV fun hc=>?_|refine kZ (fun hc=>?_) fun hc=>?_|fail)
  refine OW_call rfl rfl rfl (icut_n (.slice a1 (b.take (b.length - 20)).length c1) b L _ iM q1 (by omega) hb) rfl (fun r L' hp => ?_)
  obtain ⟨rfl, hp⟩ := hp
  have hcv : PxOk b → CvOk b := fun w => ⟨w.mg, ⟨w.fan, w.most⟩, by have := w.len; omega⟩
  rcases hp with ⟨hC, x, hx, rfl⟩ | ⟨hC, rfl⟩
  rotate_left
  · have he := hform fun w => hC (hcv w)
    (repeat' first|refine kW ?_|refine kU fun bk=>?_|refine kV fun hc=>?_|refine kZ (fun hc=>?_) fun hc=>?_|fail)
    first
      | (refine WQ_retC (vs := [.agg ([nilS, nilS, nilS, nilS, nilS, nilS] : List Value).toArray, .int .i64 3]) rfl (.agg ⟨by kernel_rfl, by kernel_rfl⟩ rfl (RdAt.cl' (vs := [nilS, nilS, nilS, nilS, nilS, nilS]) (by repeat (first | assumption | exact Fnd.here | refine Fnd.there ?_)) rfl) rfl (.tmp rfl .nil)) ?_
         exact ⟨L, fun w h => (iC : Inc L _).holds h, rfl, .inr ⟨by rw [he]; decide, by rw [he]; rfl⟩⟩)
      | (refine WQ_endC (vs := [.agg ([nilS, nilS, nilS, nilS, nilS, nilS] : List Value).toArray, .int .i64 3]) rfl (.agg ⟨by kernel_rfl, by kernel_rfl⟩ rfl (RdAt.cl' (vs := [nilS, nilS, nilS, nilS, nilS, nilS]) (by repeat (first | assumption | exact Fnd.here | refine Fnd.there ?_)) rfl) rfl (.tmp rfl .nil)) ?_
         exact ⟨L, fun w h => (iC : Inc L _).holds h, rfl, .inr ⟨by rw [he]; decide, by rw [he]; rfl⟩⟩)
  obtain ⟨⟨ca, cn, cc⟩, ⟨ia, i_n, ic⟩, ⟨ra, rn, rc⟩, ⟨oa, on, oc⟩, ⟨fa, fn, fc⟩, ⟨pa, pn, pc⟩⟩ := x
  have hids := fun C D => iids_n _ b (C :: D :: L) hx.up.up hb
  have hofs := fun C D => ioffs_n _ b (C :: D :: L) hx.up.up hb
  simp only [IxC.vs, Sc.v] at hids hofs ⊢
  (repeat' first|refine kW ?_|refine kU fun bk=>?_|refine kV fun hc=>?_|refine kZ (fun hc=>?_) fun hc=>?_|fail)
  refine OW_call rfl rfl rfl (hids _ _) rfl (fun r L' hp => ?_)
  obtain ⟨rfl, hp⟩ := hp
  rcases hp with ⟨hI, rfl⟩ | ⟨hI, rfl⟩
  rotate_left
  · have he := hform fun w => hI fun i hi => ⟨(w.rows i hi).1, (w.rows i hi).2.1, (w.rows i hi).2.2.1⟩
    (repeat' first|refine kW ?_|refine kU fun bk=>?_|refine kV fun hc=>?_|refine kZ (fun hc=>?_) fun hc=>?_|fail)
    first
      | (refine WQ_retC (vs := [.agg ([nilS, nilS, nilS, nilS, nilS, nilS] : List Value).toArray, .int .i64 3]) rfl (.agg ⟨by kernel_rfl, by kernel_rfl⟩ rfl (RdAt.cl' (vs := [nilS, nilS, nilS, nilS, nilS, nilS]) (by repeat (first | assumption | exact Fnd.here | refine Fnd.there ?_)) rfl) rfl (.tmp rfl .nil)) ?_
         exact ⟨L, fun w h => (iC : Inc L _).holds h, rfl, .inr ⟨by rw [he]; decide, by rw [he]; rfl⟩⟩)
      | (refine WQ_endC (vs := [.agg ([nilS, nilS, nilS, nilS, nilS, nilS] : List Value).toArray, .int .i64 3]) rfl (.agg ⟨by kernel_rfl, by kernel_rfl⟩ rfl (RdAt.cl' (vs := [nilS, nilS, nilS, nilS, nilS, nilS]) (by repeat (first | assumption | exact Fnd.here | refine Fnd.there ?_)) rfl) rfl (.tmp rfl .nil)) ?_
         exact ⟨L, fun w h => (iC : Inc L _).holds h, rfl, .inr ⟨by rw [he]; decide, by rw [he]; rfl⟩⟩)
  (repeat' first|refine kW ?_|refine kU fun bk=>?_|refine kV fun hc=>?_|refine kZ (fun hc=>?_) fun hc=>?_|fail)
  refine OW_call rfl rfl rfl (hofs _ _) rfl (fun r L' hp => ?_)
  obtain ⟨rfl, hp⟩ := hp
  rcases hp with ⟨hF, rfl⟩ | ⟨hF, rfl⟩
  rotate_left
  · have he := hform fun w => hF ⟨fun i hi => (w.rows i hi).2.2.2, w.len⟩
    (repeat' first|refine kW ?_|refine kU fun bk=>?_|refine kV fun hc=>?_|refine kZ (fun hc=>?_) fun hc=>?_|fail)
    first
      | (refine WQ_retC (vs := [.agg ([nilS, nilS, nilS, nilS, nilS, nilS] : List Value).toArray, .int .i64 3]) rfl (.agg ⟨by kernel_rfl, by kernel_rfl⟩ rfl (RdAt.cl' (vs := [nilS, nilS, nilS, nilS, nilS, nilS]) (by repeat (first | assumption | exact Fnd.here | refine Fnd.there ?_)) rfl) rfl (.tmp rfl .nil)) ?_
         exact ⟨L, fun w h => (iC : Inc L _).holds h, rfl, .inr ⟨by rw [he]; decide, by rw [he]; rfl⟩⟩)
      | (refine WQ_endC (vs := [.agg ([nilS, nilS, nilS, nilS, nilS, nilS] : List Value).toArray, .int .i64 3]) rfl (.agg ⟨by kernel_rfl, by kernel_rfl⟩ rfl (RdAt.cl' (vs := [nilS, nilS, nilS, nilS, nilS, nilS]) (by repeat (first | assumption | exact Fnd.here | refine Fnd.there ?_)) rfl) rfl (.tmp rfl .nil)) ?_
         exact ⟨L, fun w h => (iC : Inc L _).holds h, rfl, .inr ⟨by rw [he]; decide, by rw [he]; rfl⟩⟩)
  have hok : PxOk b := ⟨hC.1, hC.2.1.1, hC.2.1.2, hF.2, fun i hi => ⟨(hI i hi).1, (hI i hi).2.1, (hI i hi).2.2, hF.1 i hi⟩⟩
  (repeat' first|refine kW ?_|refine kU fun bk=>?_|refine kV fun hc=>?_|refine kZ (fun hc=>?_) fun hc=>?_|fail)
  refine OW_call rfl rfl rfl (sha1_n (b.take (b.length - 20)) _ _ (by rw [List.length_take]; omega) ⟨by repeat (first | exact q1.sl | apply sl_there), q1.room⟩) rfl (fun r L' hp => ?_)
  obtain ⟨Ch, rfl, hoh⟩ := hp
  obtain ⟨ha, hca, rfl⟩ := ow_slc hoh
  (repeat' first|refine kW ?_|refine kU fun bk=>?_|refine kV fun hc=>?_|refine kZ (fun hc=>?_) fun hc=>?_|fail)
  refine OW_callP rfl rfl rfl (bytesequal_n _ _ (b.drop (b.length - 20)) (shaN (b.take (b.length - 20))) _ (by repeat (first | exact q2.sl | apply sl_there)) (by rw [shaN_length]; exact ow_sl hoh)) rfl ?_
  by_cases hs : pxSum b
  · have he := pxE_ok h1 hok hs
    rw [show decide (b.drop (b.length - 20) = shaN (b.take (b.length - 20))) = true from decide_eq_true hs.symm]
    (repeat' first|refine kW ?_|refine kU fun bk=>?_|refine kV fun hc=>?_|refine kZ (fun hc=>?_) fun hc=>?_|fail)
    first
      | (refine WQ_retC (vs := [.agg ([.slice ca cn cc, .slice ia i_n ic, .slice ra rn rc, .slice oa on oc, .slice fa fn fc, .slice pa pn pc] : List Value).toArray, .int .i64 0]) rfl (.agg ⟨by kernel_rfl, by kernel_rfl⟩ rfl (RdAt.cl' (vs := [.slice ca cn cc, .slice ia i_n ic, .slice ra rn rc, .slice oa on oc, .slice fa fn fc, .slice pa pn pc]) (by repeat (first | assumption | exact Fnd.here | refine Fnd.there ?_)) rfl) rfl (.tmp rfl .nil)) ?_
         exact ⟨L, fun w h => (iC : Inc L _).holds h, rfl, .inl ⟨he, hok, _, hx, rfl⟩⟩)
      | (refine WQ_endC (vs := [.agg ([.slice ca cn cc, .slice ia i_n ic, .slice ra rn rc, .slice oa on oc, .slice fa fn fc, .slice pa pn pc] : List Value).toArray, .int .i64 0]) rfl (.agg ⟨by kernel_rfl, by kernel_rfl⟩ rfl (RdAt.cl' (vs := [.slice ca cn cc, .slice ia i_n ic, .slice ra rn rc, .slice oa on oc, .slice fa fn fc, .slice pa pn pc]) (by repeat (first | assumption | exact Fnd.here | refine Fnd.there ?_)) rfl) rfl (.tmp rfl .nil)) ?_
         exact ⟨L, fun w h => (iC : Inc L _).holds h, rfl, .inl ⟨he, hok, _, hx, rfl⟩⟩)
  · have he := pxE_sum h1 hok hs
    rw [show decide (b.drop (b.length - 20) = shaN (b.take (b.length - 20))) = false from decide_eq_false fun w => hs w.symm]
    (repeat' first|refine kW ?_|refine kU fun bk=>?_|refine kV fun hc=>?_|refine kZ (fun hc=>?_) fun hc=>?_|fail)
    first
      | (refine WQ_retC (vs := [.agg ([nilS, nilS, nilS, nilS, nilS, nilS] : List Value).toArray, .int .i64 6]) rfl (.agg ⟨by kernel_rfl, by kernel_rfl⟩ rfl (RdAt.cl' (vs := [nilS, nilS, nilS, nilS, nilS, nilS]) (by repeat (first | assumption | exact Fnd.here | refine Fnd.there ?_)) rfl) rfl (.tmp rfl .nil)) ?_
         exact ⟨L, fun w h => (iC : Inc L _).holds h, rfl, .inr ⟨by rw [he]; decide, by rw [he]; rfl⟩⟩)
      | (refine WQ_endC (vs := [.agg ([nilS, nilS, nilS, nilS, nilS, nilS] : List Value).toArray, .int .i64 6]) rfl (.agg ⟨by kernel_rfl, by kernel_rfl⟩ rfl (RdAt.cl' (vs := [nilS, nilS, nilS, nilS, nilS, nilS]) (by repeat (first | assumption | exact Fnd.here | refine Fnd.there ?_)) rfl) rfl (.tmp rfl .nil)) ?_
         exact ⟨L, fun w h => (iC : Inc L _).holds h, rfl, .inr ⟨by rw [he]; decide, by rw [he]; rfl⟩⟩)
end
end Go.Proofs.Ytmhlmlkndabgmaa
namespace Go.Vx
open Go
set_option linter.all false
variable [W0]
theorem WR_any {P : Program} {n : Nat} {ops : List Oper} {Q : Exit → Act → World → Prop} {S : List Chunk} {T : List Nat} {fuel : Nat} {listed : Array Bool} {M : List (Nat × Value)} {L : List Chunk} (js : List Nat) (hr : Region.ready .any ops.toArray listed = js) (hne : js ≠ [])
    (h : ∀ j, j ∈ js → ∃ o, ops[j]? = some o ∧ o.guard = none ∧ OW P n o (WRk P n ops Q S T fuel (listed.setIfInBounds j true)) M L) : WR P n ops Q S T (fuel + 1) listed M L := ⟨fun a w ha hw => by
  refine ⟨fun h0 => absurd (hr ▸ h0) hne, fun j hj => ?_⟩
  rw [hr] at hj
  obtain ⟨o, hi, hg, ho⟩ := h j hj
  unfold wpOp
  simp only [List.getElem?_toArray, hi]
  rw [if_pos (by simp [Region.wanted, hg])]
  exact .inl (ho.out a w _ Q ha hw fun M' L' hk => ⟨fun a' w' ha' hw' => ⟨fun _ => hk.inc.holds hw', hk.out.out a' w' ha' hw'⟩⟩)⟩
end Go.Vx
namespace Go.Proofs.Ytmhlmlkndabgmaa
open Go Go.Vx Go.Pk Go.Ix
open Go.Ob (hshB)
set_option linter.all false
set_option maxRecDepth 40000
section
variable [W0]
set_option maxHeartbeats 8000000 in
/-- sort.Find with the closure of Find. -/
theorem sfind_n (N : Nat) (cm : Nat → Int) (cp : List Value) (L : List Chunk) (hN : N ≤ 1000000)
    (hc : ∀ j, j < N → GvP Try.prog 33 (Value.int .i64 (j : Int) :: cp).toArray L (.int .i64 (cm j)))
    (m1 : ∀ i j, i ≤ j → j < N → cm j > 0 → cm i > 0) (m2 : ∀ i j, i ≤ j → j < N → cm i < 0 → cm j < 0) :
    Gv Try.prog 32 [.int .i64 (N : Int), .func (.func 33) #[] cp.toArray].toArray L (fun r L' => L' = L ∧ ((∃ k, k < N ∧ cm k = 0 ∧ r = .tuple #[.int .i64 (k : Int), .bool true]) ∨ ((∀ k, k < N → cm k ≠ 0) ∧ ∃ k : Nat, r = .tuple #[.int .i64 (k : Int), .bool false]))) := by
  refine Gv.of_body (args := [.int .i64 (N : Int), .func (.func 33) #[] cp.toArray]) Try.func32 rfl rfl ?_
  (repeat' first|refine kW ?_|refine kU fun bk=>?_|refine kV fun hc=>?_|refine kZ (fun hc=>?_) fun hc=>?_|fail)
  refine WC_loop (X := Nat × Nat) (fun z => [(0, .int .i64 (N : Int)), (1, .func (.func 33) #[] cp.toArray), (4, .int .i64 (z.1 : Int)), (6, .int .i64 (z.2 : Int))]) (fun _ => L)
    (fun z => z.1 ≤ z.2 ∧ z.2 ≤ N ∧ (∀ k, k < z.1 → cm k > 0) ∧ ∀ k, z.2 ≤ k → k < N → cm k ≤ 0) (fun z => z.2 - z.1) (0, N) ⟨Nat.zero_le _, Nat.le_refl _, fun k hk => by omega, fun k h1 h2 => by omega⟩ iS (fun w h => h) ?_
  rintro ⟨i, j⟩ ⟨q1, q2, q3, q4⟩
  simp only at q1 q2 q3 q4 ⊢
  by_cases hlt : i < j
  · obtain ⟨h, hh⟩ : ∃ h, h = (i + j) / 2 := ⟨_, rfl⟩
    have hhN : h < N := by omega
    have hch := hc h hhN
    obtain ⟨c, hcm⟩ : ∃ c, c = cm h := ⟨_, rfl⟩
    rw [← hcm] at hch
    (repeat' first|refine kW ?_|refine kU fun bk=>?_|refine kV fun hc=>?_|refine kZ (fun hc=>?_) fun hc=>?_|fail)
    rw [show ((i : Int) + (j : Int)) / 2 = ((h : Nat) : Int) from by omega]
    refine OW_callP rfl rfl (by simp) hch rfl ?_
    (repeat' first|refine kW ?_|refine kU fun bk=>?_|refine kV fun hc=>?_|refine kZ (fun hc=>?_) fun hc=>?_|fail)
    · refine WQ_round (X := Nat × Nat) (μ := fun z => z.2 - z.1) (x := (i, j)) (h + 1, j) (by simp only; omega) ⟨by simp only; omega, q2, fun k hk => ?_, q4⟩ iS (fun w h => h)
      exact m1 k h (by simp only at hk; omega) hhN (by omega)
    · refine WQ_round (X := Nat × Nat) (μ := fun z => z.2 - z.1) (x := (i, j)) (i, h) (by simp only; omega) ⟨by simp only; omega, by simp only; omega, q3, fun k hk hkN => ?_⟩ iS (fun w h => h)
      simp only at hk
      rcases Int.lt_or_le 0 (cm k) with w | w
      · have := m1 h k hk hkN w; omega
      · exact w
  · obtain rfl : i = j := by omega
    by_cases hiN : i < N
    · have hch := hc i hiN
      obtain ⟨c, hcm⟩ : ∃ c, c = cm i := ⟨_, rfl⟩
      rw [← hcm] at hch
      have h4 := q4 i (Nat.le_refl _) hiN
      (repeat' first|refine kW ?_|refine kU fun bk=>?_|refine kV fun hc=>?_|refine kZ (fun hc=>?_) fun hc=>?_|fail)
      refine OW_callP rfl rfl (by simp) hch rfl ?_
      by_cases c0 : c = 0
      · have hb : (c == 0) = true := by simpa using c0
        (repeat' first|refine kW ?_|refine kU fun bk=>?_|refine kV fun hc=>?_|refine kZ (fun hc=>?_) fun hc=>?_|fail)
        rw [hb]
        refine kR ?_
        exact ⟨L, iC, rfl, .inl ⟨i, hiN, by omega, rfl⟩⟩
      · have hb : (c == 0) = false := by simpa using c0
        (repeat' first|refine kW ?_|refine kU fun bk=>?_|refine kV fun hc=>?_|refine kZ (fun hc=>?_) fun hc=>?_|fail)
        rw [hb]
        refine kR ?_
        refine ⟨L, iC, rfl, .inr ⟨fun k hk => ?_, i, rfl⟩⟩
        rcases Nat.lt_or_ge k i with w | w
        · have := q3 k w; omega
        · have := m2 i k w hk (by omega); omega
    · (repeat' first|refine kW ?_|refine kU fun bk=>?_|refine kV fun hc=>?_|refine kZ (fun hc=>?_) fun hc=>?_|fail)
      refine kR ?_
      exact ⟨L, iC, rfl, .inr ⟨fun k hk => by have := q3 k (by omega); omega, i, rfl⟩⟩
set_option maxHeartbeats 8000000 in
/-- The closure of Find. -/
theorem ifind1_n (p6 p8 p10 lo j : Nat) (ca ia ra oa fa pa ha : Option Addr) (cn cc i_n ic rn rc on oc fn fc pn pc hcp : Nat) (hs b : List UInt8) (Ch : Chunk) (L : List Chunk)
    (hx : IxV L b ⟨⟨ca, cn, cc⟩, ⟨ia, i_n, ic⟩, ⟨ra, rn, rc⟩, ⟨oa, on, oc⟩, ⟨fa, fn, fc⟩, ⟨pa, pn, pc⟩⟩) (hh : Sl (Ch :: L) 1 (.slice ha hs.length hcp) hs.length (bsv hs)) (hb : b.length ≤ 1000000) (hj : lo + j < pxN b) :
    GvP Try.prog 33 [.int .i64 (j : Int), .pointer (some ⟨p8, 0, none⟩), .pointer (some ⟨p6, 0, none⟩), .pointer (some ⟨p10, 0, none⟩)].toArray ([(p10, cl [.int .i64 (lo : Int)] 3)] :: [(p8, cl [.slice ha hs.length hcp] 24)] :: Ch :: [(p6, cl [.slice ca cn cc, .slice ia i_n ic, .slice ra rn rc, .slice oa on oc, .slice fa fn fc, .slice pa pn pc] 61)] :: L)
      (.int .i64 (Lib.compareBytes hs (pxId b (lo + j)))) := by
  have hmo := hx.most
  refine Gv.of_body (args := [.int .i64 (j : Int), .pointer (some ⟨p8, 0, none⟩), .pointer (some ⟨p6, 0, none⟩), .pointer (some ⟨p10, 0, none⟩)]) Try.func33 rfl rfl ?_
  have hid := iid_p _ b (lo + j) ([(p10, cl [.int .i64 (lo : Int)] 3)] :: [(p8, cl [.slice ha hs.length hcp] 24)] :: Ch :: [(p6, cl [.slice ca cn cc, .slice ia i_n ic, .slice ra rn rc, .slice oa on oc, .slice fa fn fc, .slice pa pn pc] 61)] :: L) hx.up.up.up.up hj hb
  simp only [IxC.vs, Sc.v] at hid
  have hhs : Sl ([(p10, cl [.int .i64 (lo : Int)] 3)] :: [(p8, cl [.slice ha hs.length hcp] 24)] :: Ch :: [(p6, cl [.slice ca cn cc, .slice ia i_n ic, .slice ra rn rc, .slice oa on oc, .slice fa fn fc, .slice pa pn pc] 61)] :: L) 1 (.slice ha hs.length hcp) hs.length (bsv hs) := sl_sub iM hh
  (repeat' first|refine kW ?_|refine kU fun bk=>?_|refine kV fun hc=>?_|refine kZ (fun hc=>?_) fun hc=>?_|fail)
  refine WC_drawAll [] mixed ?_
  (refine WR_t 0 ?_; refine WR_t 1 ?_; refine WR_t 2 ?_; refine WR_t 3 ?_; refine WR_t 4 ?_)
  rw [show (lo : Int) + (j : Int) = ((lo + j : Nat) : Int) from rfl]
  (refine WR_one 5 (by kernel_rfl) rfl rfl ?_)
  refine OW_call rfl rfl rfl hid rfl (fun r L' hp => ?_)
  obtain ⟨qi, rfl⟩ := hp
  refine ⟨iC, ?_⟩
  (refine WR_one 6 (by kernel_rfl) rfl rfl ?_)
  refine OW_callP rfl rfl rfl (bcompare_n _ _ hs (pxId b (lo + j)) _ hhs qi.sl) rfl ?_
  refine ⟨iC, ?_⟩
  (refine WR_t 7 ?_)
  (refine WR_done (by kernel_rfl) ?_)
  (repeat' first|refine kW ?_|refine kU fun bk=>?_|refine kV fun hc=>?_|refine kZ (fun hc=>?_) fun hc=>?_|fail)
  exact kE
theorem cmpB_gt (a b : List UInt8) : 0 < Lib.compareBytes a b ↔ Op.bytesLess b a = true := by
  have h1 := cmpB_lt a b
  have h2 := cmpB_eq a b
  constructor
  · intro h
    rcases bl_tot a b (fun w => by have := h2.2 w; omega) with w | w
    · have := h1.2 w; omega
    · exact w
  · intro h
    rcases Int.lt_trichotomy (Lib.compareBytes a b) 0 with w | w | w
    · have := bl_trans _ _ _ (h1.1 w) h
      rw [bl_irr] at this
      cases this
    · have := h2.1 w
      subst this
      rw [bl_irr] at h
      cases h
    · exact w
def FdR (b id : List UInt8) (r : Value) : Prop :=
  (∃ i, i < pxN b ∧ pxE b = 0 ∧ hshB id = true ∧ pxId b i = unL id ∧ r = .tuple #[.int .i64 (pxAt b i : Int), .bool true]) ∨
  (¬ (pxE b = 0 ∧ hshB id = true ∧ ∃ i, i < pxN b ∧ pxId b i = unL id) ∧ r = .tuple #[.int .i64 0, .bool false])
theorem pxId_lt {b : List UInt8} (h : PxOk b) : ∀ {i j : Nat}, i < j → j < pxN b → Op.bytesLess (pxId b i) (pxId b j) = true := by
  intro i j
  induction j with
  | zero => intro h1; omega
  | succ j ih =>
    intro h1 h2
    have h3 := (h.rows (j + 1) h2).1 (by omega)
    rw [Nat.add_sub_cancel] at h3
    by_cases hij : i = j
    · rw [hij]; exact h3
    · exact bl_trans _ _ _ (ih (by omega) (by omega)) h3
theorem fnB_mono {b : List UInt8} (h : PxOk b) : ∀ {c k : Nat}, c + k < 256 → fnB b c ≤ fnB b (c + k) := by
  intro c k
  induction k with
  | zero => intro _; exact Nat.le_refl _
  | succ k ih => intro hc; exact Nat.le_trans (ih (by omega)) (h.fan (c + k) (by omega))
set_option maxHeartbeats 16000000 in
theorem ifind_n (v : Value) (b id : List UInt8) (L : List Chunk) (h : Rs L 1 v b.length (bsv b)) (hb : b.length ≤ 1000000) (hl : id.length ≤ 140737488355328) :
    Gv Try.prog 10 [v, .string (str id)].toArray L (fun r L' => L' = L ∧ FdR b id r) := by
  obtain ⟨va, vc, rfl⟩ := rs_val h
  refine Gv.of_body (args := [.slice va b.length vc, .string (str id)]) Try.func10 rfl rfl ?_
  (repeat' first|refine kW ?_|refine kU fun bk=>?_|refine kV fun hc=>?_|refine kZ (fun hc=>?_) fun hc=>?_|fail)
  refine OW_callP rfl rfl rfl (hash_n id _ (by omega)) rfl ?_
  by_cases hq : hshB id = true
  rotate_left
  · rw [show hshB id = false from by simpa using hq]
    (repeat' first|refine kW ?_|refine kU fun bk=>?_|refine kV fun hc=>?_|refine kZ (fun hc=>?_) fun hc=>?_|fail)
    refine kR ?_
    exact ⟨L, iC, rfl, .inr ⟨fun w => hq w.2.1, rfl⟩⟩
  rw [hq]
  (repeat' first|refine kW ?_|refine kU fun bk=>?_|refine kV fun hc=>?_|refine kZ (fun hc=>?_) fun hc=>?_|fail)
  refine OW_call rfl rfl rfl (iopen_n _ b L h hb) rfl (fun r L' hp => ?_)
  obtain ⟨hL, hp⟩ := hp
  have hL := hL.symm
  subst hL
  rcases hp with ⟨he, hok, x, hx, rfl⟩ | ⟨he, rfl⟩
  rotate_left
  · obtain ⟨e, hee⟩ : ∃ e, e = pxE b := ⟨_, rfl⟩
    rw [← hee] at he ⊢
    (repeat' first|refine kW ?_|refine kU fun bk=>?_|refine kV fun hc=>?_|refine kZ (fun hc=>?_) fun hc=>?_|fail)
    refine kR ?_
    exact ⟨L, iC, rfl, .inr ⟨fun w => he (by rw [hee]; exact w.1), rfl⟩⟩
  obtain ⟨⟨ca, cn, cc⟩, ⟨ia, i_n, ic⟩, ⟨ra, rn, rc⟩, ⟨oa, on, oc⟩, ⟨fa, fn, fc⟩, ⟨pa, pn, pc⟩⟩ := x
  simp only [IxC.vs, Sc.v]
  (repeat' first|refine kW ?_|refine kU fun bk=>?_|refine kV fun hc=>?_|refine kZ (fun hc=>?_) fun hc=>?_|fail)
  revert bk; intro p6
  refine OW_call rfl rfl rfl (unhex_n id _ (by have h40 := hq; unfold Go.Ob.hshB at h40; rw [Bool.and_eq_true, decide_eq_true_iff] at h40; omega)) rfl (fun r L' hp => ?_)
  obtain ⟨hv, Ch, rfl, rfl, hoh⟩ := hp
  obtain ⟨ha, hcp, rfl⟩ := ow_slc hoh
  have hul := un_len hq
  (repeat' first|refine kY ?_|refine kU fun bk=>?_|refine kV fun hc=>?_|refine kZ (fun hc=>?_) fun hc=>?_|((fail_if_success (show WC _ _ (Code.seq (Code.region _ _ true) _) _ _ _)); refine WC_seq ?_)|fail)
  refine OW_holds (L' := [(bk, cl [.slice none 0 0] 24)] :: Ch :: [(p6, cl [.slice ca cn cc, .slice ia i_n ic, .slice ra rn rc, .slice oa on oc, .slice fa fn fc, .slice pa pn pc] 61)] :: L) (fun w h => h) ?_
  revert bk; intro p8
  (repeat' first|refine kY ?_|refine kU fun bk=>?_|refine kV fun hc=>?_|refine kZ (fun hc=>?_) fun hc=>?_|((fail_if_success (show WC _ _ (Code.seq (Code.region _ _ true) _) _ _ _)); refine WC_seq ?_)|fail)
  have hmo := hok.most
  have hlen := hok.len
  obtain ⟨hs, hhs⟩ : ∃ hs, hs = unL id := ⟨_, rfl⟩
  rw [← hhs] at hul hoh ⊢
  obtain ⟨y, hy⟩ : ∃ y, hs[0]? = some y := ⟨hs[0], by simp [hul]⟩
  have hy8 := y.toNat_lt
  have hbt := fun L hx => ibetween_n ⟨⟨ca, cn, cc⟩, ⟨ia, i_n, ic⟩, ⟨ra, rn, rc⟩, ⟨oa, on, oc⟩, ⟨fa, fn, fc⟩, ⟨pa, pn, pc⟩⟩ b y.toNat L hx (by omega) hb
  simp only [IxC.vs, Sc.v] at hbt
  obtain ⟨lo, hlo⟩ : ∃ lo, lo = if y.toNat = 0 then 0 else fnB b (y.toNat - 1) := ⟨_, rfl⟩
  obtain ⟨hi, hhi⟩ : ∃ hi, hi = fnB b y.toNat := ⟨_, rfl⟩
  have hlh : lo ≤ hi := by
    rw [hlo, hhi]
    split
    · exact Nat.zero_le _
    · have := fnB_mono hok (c := y.toNat - 1) (k := 1) (by omega)
      rwa [show y.toNat - 1 + 1 = y.toNat from by omega] at this
  have hhn : hi ≤ pxN b := by
    have := fnB_mono hok (c := y.toNat) (k := 255 - y.toNat) (by omega)
    rw [show y.toNat + (255 - y.toNat) = 255 from by omega] at this
    rw [hhi]; exact this
  rw [← hlo, ← hhi] at hbt
  refine WC_cut (X := Nat) (fun p => [(6, .pointer (some ⟨p6, 0, none⟩)), (8, .pointer (some ⟨p8, 0, none⟩)), (10, .pointer (some ⟨p, 0, none⟩)), (11, .int .i64 (hi : Int))]) (fun p => [(p, cl [.int .i64 (lo : Int)] 3)] :: [(p8, cl [.slice ha hs.length hcp] 24)] :: Ch :: [(p6, cl [.slice ca cn cc, .slice ia i_n ic, .slice ra rn rc, .slice oa on oc, .slice fa fn fc, .slice pa pn pc] 61)] :: L) (fun _ => True) ?_ ?_
  · refine WC_holds' (L' := [(p8, cl [.slice ha hs.length hcp] 24)] :: Ch :: [(p6, cl [.slice ca cn cc, .slice ia i_n ic, .slice ra rn rc, .slice oa on oc, .slice fa fn fc, .slice pa pn pc] 61)] :: L) (fun w h => h) ?_
    obtain ⟨eb, eo, ec, ecc, eT, ef, w1, w2, w3⟩ := sl_at (ow_sl (L := [(p6, cl [.slice ca cn cc, .slice ia i_n ic, .slice ra rn rc, .slice oa on oc, .slice fa fn fc, .slice pa pn pc] 61)] :: L) hoh) (Go.Vx.bsv_get hy)
    injection w1 with w4 w5 w6
    subst w4 w6
    refine WC_drawAll [] mixed ?_
    (refine WR_t 0 ?_; refine WR_t 1 ?_)
    (refine WR_take 2 rfl rfl (by kernel_rfl) iP iC (EV_indexAddr (j := 0) rfl rfl rfl (by omega)) (by rfl) ?_)
    (refine WR_take 3 rfl rfl (by kernel_rfl) iP iC (EV_load rfl (.there w2) w3) (by rfl) ?_)
    refine WR_any (js := [4, 8]) (by kernel_rfl) (by simp) (fun j hj => ?_)
    simp only [List.mem_cons, List.not_mem_nil, or_false] at hj
    rcases hj with rfl | rfl
    · refine ⟨_, rfl, rfl, ?_⟩
      refine OW_callP rfl rfl rfl (hbt _ (by repeat (first | exact hx | apply IxV.up))) rfl ?_
      refine ⟨iC, ?_⟩
      (refine WR_t 5 ?_; refine WR_t 6 ?_; refine WR_t 7 ?_)
      (refine WR_one 8 (by kernel_rfl) rfl rfl ?_)
      refine OW_alloc rfl (fun p => ?_)
      refine ⟨iC, ?_⟩
      (refine WR_one 9 (by kernel_rfl) rfl rfl ?_)
      refine OW_storeTo (l := [.int .i64 0]) [.int .i64 (lo : Int)] rfl rfl rfl rfl iU (by simp) ?_
      refine ⟨iC, ?_⟩
      (refine WR_t 10 ?_)
      (refine WR_done (by kernel_rfl) ?_)
      (repeat' first|refine kW ?_|refine kU fun bk=>?_|refine kV fun hc=>?_|refine kZ (fun hc=>?_) fun hc=>?_|fail)
      exact WQ_cut p trivial iS (fun w h => (iC : Inc ([(p, cl [.int .i64 (lo : Int)] 3)] :: [(p8, cl [.slice (some ⟨eb, eo, none⟩) hs.length hcp] 24)] :: Ch :: [(p6, cl [.slice ca cn cc, .slice ia i_n ic, .slice ra rn rc, .slice oa on oc, .slice fa fn fc, .slice pa pn pc] 61)] :: L) _).holds h)
    · refine ⟨_, rfl, rfl, ?_⟩
      refine OW_alloc rfl (fun p => ?_)
      refine ⟨iC, ?_⟩
      (refine WR_one 4 (by kernel_rfl) rfl rfl ?_)
      refine OW_callP rfl rfl rfl (hbt _ (by repeat (first | exact hx | apply IxV.up))) rfl ?_
      refine ⟨iC, ?_⟩
      (refine WR_t 5 ?_; refine WR_t 6 ?_; refine WR_t 7 ?_)
      (refine WR_one 9 (by kernel_rfl) rfl rfl ?_)
      refine OW_storeTo (l := [.int .i64 0]) [.int .i64 (lo : Int)] rfl rfl rfl rfl iU (by simp) ?_
      refine ⟨iC, ?_⟩
      (refine WR_t 10 ?_)
      (refine WR_done (by kernel_rfl) ?_)
      (repeat' first|refine kW ?_|refine kU fun bk=>?_|refine kV fun hc=>?_|refine kZ (fun hc=>?_) fun hc=>?_|fail)
      exact WQ_cut p trivial iS (fun w h => (iC : Inc ([(p, cl [.int .i64 (lo : Int)] 3)] :: [(p8, cl [.slice (some ⟨eb, eo, none⟩) hs.length hcp] 24)] :: Ch :: [(p6, cl [.slice ca cn cc, .slice ia i_n ic, .slice ra rn rc, .slice oa on oc, .slice fa fn fc, .slice pa pn pc] 61)] :: L) _).holds h)
  rintro p10 -
  (repeat' first|refine kW ?_|refine kU fun bk=>?_|refine kV fun hc=>?_|refine kZ (fun hc=>?_) fun hc=>?_|fail)
  obtain ⟨N, hN⟩ : ∃ N, N = hi - lo := ⟨_, rfl⟩
  rw [show (hi : Int) - (lo : Int) = ((N : Nat) : Int) from by omega]
  have hlt : ∀ {i j : Nat}, i < j → lo + j < pxN b → Op.bytesLess (pxId b (lo + i)) (pxId b (lo + j)) = true := fun h1 h2 => pxId_lt hok (by omega) h2
  refine OW_call rfl rfl rfl (sfind_n N (fun j => Lib.compareBytes hs (pxId b (lo + j))) [.pointer (some ⟨p8, 0, none⟩), .pointer (some ⟨p6, 0, none⟩), .pointer (some ⟨p10, 0, none⟩)] _ (by omega) (fun j hj => ifind1_n p6 p8 p10 lo j ca ia ra oa fa pa ha cn cc i_n ic rn rc on oc fn fc pn pc hcp hs b Ch L hx (ow_sl hoh) hb (by omega)) (fun i j h1 h2 h3 => ?_) (fun i j h1 h2 h3 => ?_)) rfl (fun r L' hp => ?_)
  · by_cases hij : i = j
    · rw [hij]; exact h3
    · have h4 := (cmpB_gt _ _).1 h3
      exact (cmpB_gt _ _).2 (bl_trans _ _ _ (hlt (by omega) (by omega)) h4)
  · by_cases hij : i = j
    · rw [← hij]; exact h3
    · have h4 := (cmpB_lt _ _).1 h3
      exact (cmpB_lt _ _).2 (bl_trans _ _ _ h4 (hlt (by omega) (by omega)))
  obtain ⟨rfl, hp⟩ := hp
  rcases hp with ⟨k, hk, hk0, rfl⟩ | ⟨hno, k, rfl⟩
  · have hki : lo + k < pxN b := by omega
    have hke := (cmpB_eq _ _).1 hk0
    have hat := fun L hx => iat_n ⟨⟨ca, cn, cc⟩, ⟨ia, i_n, ic⟩, ⟨ra, rn, rc⟩, ⟨oa, on, oc⟩, ⟨fa, fn, fc⟩, ⟨pa, pn, pc⟩⟩ b (lo + k) L hx hok hki hb
    simp only [IxC.vs, Sc.v] at hat
    (repeat' first|refine kW ?_|refine kU fun bk=>?_|refine kV fun hc=>?_|refine kZ (fun hc=>?_) fun hc=>?_|fail)
    rw [show (lo : Int) + (k : Int) = ((lo + k : Nat) : Int) from rfl]
    refine OW_callP rfl rfl rfl (hat _ (by repeat (first | exact hx | apply IxV.up))) rfl ?_
    obtain ⟨z, hz⟩ : ∃ z, z = pxAt b (lo + k) := ⟨_, rfl⟩
    rw [← hz]
    (repeat' first|refine kW ?_|refine kU fun bk=>?_|refine kV fun hc=>?_|refine kZ (fun hc=>?_) fun hc=>?_|fail)
    refine kR ?_
    exact ⟨L, iC, rfl, .inl ⟨lo + k, hki, he, hq, by rw [← hke, hhs], by rw [← hz]; rfl⟩⟩
  · (repeat' first|refine kW ?_|refine kU fun bk=>?_|refine kV fun hc=>?_|refine kZ (fun hc=>?_) fun hc=>?_|fail)
    refine kR ?_
    refine ⟨L, iC, rfl, .inr ⟨fun w => ?_, rfl⟩⟩
    obtain ⟨_, _, i, hi1, hi2⟩ := w
    rw [← hhs] at hi2
    have hrow := hok.rows i hi1
    have hH : pxH b i = y.toNat := by unfold pxH; rw [hi2, List.getD_eq_getElem?_getD, hy]; rfl
    have h1 := hrow.2.1
    have h2 := hrow.2.2.1
    unfold pxLo at h1
    rw [hH, ← hlo] at h1
    rw [hH, ← hhi] at h2
    exact hno (i - lo) (by omega) (by show Lib.compareBytes hs (pxId b (lo + (i - lo))) = 0; rw [show lo + (i - lo) = i from by omega, hi2]; exact (cmpB_eq _ _).2 rfl)
end
end Go.Proofs.Ytmhlmlkndabgmaa
namespace Go.Proofs.Ytmhlmlkndabgmaa
open Go Go.Shelf Go.Sort Go.RowKit Go.Lib Go.Proofs Go.Pk Go.Vx
set_option linter.all false
set_option maxRecDepth 4000
set_option maxHeartbeats 1000000 in
theorem bcs_c (a b : ByteArray) (w : World) : Calls Try.prog 53 #[.string a, .string b] w fun e w' => e = .returned (.int .i64 (Lib.compareBytes a.data.toList b.data.toList)) ∧ w' = w := by
  go_enter Try.func53, Try.ntmps53
  go_wp2
  rw [run_callFunc_extern Try.func77 (by kernel_rfl) (by kernel_rfl) (by kernel_rfl) (e := Extern.BytealgCompare.compare) (by kernel_rfl), Lib.run_compareString]
  simp only [Result.andThen]
  rw [Oper.upon_value]
  go_wp2
  go_ret
  exact ⟨rfl, rfl⟩
set_option maxHeartbeats 1000000 in
theorem scs_c (a b : ByteArray) (w : World) : Calls Try.prog 26 #[.string a, .string b] w fun e w' => e = .returned (.int .i64 (Lib.compareBytes a.data.toList b.data.toList)) ∧ w' = w := by
  go_enter Try.func26, Try.ntmps26
  go_wp2_with (go_at_call 53; refine (bcs_c _ _ _).mono ?_; rintro e w' ⟨rfl, rfl⟩)
  go_ret
  exact ⟨rfl, rfl⟩
set_option maxHeartbeats 4000000 in
theorem iclo_c (k1 : Int) (b1 : Value) (i1 : ByteArray) (a1 c1 k2 : Int) (b2 : Value) (i2 : ByteArray) (a2 c2 : Int) (hx : b1.oneCell' = true) (hy : b2.oneCell' = true) (W : World) :
    Calls Try.prog 25 #[.agg [.int .i64 k1, b1, .string i1, .int .i64 a1, .int .u32 c1].toArray, .agg [.int .i64 k2, b2, .string i2, .int .i64 a2, .int .u32 c2].toArray] W fun e w' => e = .returned (.int .i64 (Lib.compareBytes i1.data.toList i2.data.toList)) ∧ ∃ q os', w' = grow (W.drewN q) os' := by
  go_enter Try.func25, Try.ntmps25
  go_wp2_with (go_at_call 26; refine (scs_c _ _ _).mono ?_; rintro e w' ⟨rfl, rfl⟩)
  go_ret
  refine ⟨rfl, ?_⟩
  exact ⟨0, _, by rw [alloc_eq_grow, alloc_eq_grow, grow_grow]; rfl⟩
def cfI (x y : Obv) : Int := Lib.compareBytes x.1.1.id y.1.1.id
theorem cfI_lt (x y : Obv) : ltOf cfI x y = Op.bytesLess x.1.1.id y.1.1.id := by
  unfold ltOf cfI
  rw [Bool.eq_iff_iff, decide_eq_true_iff]
  exact cmpB_lt _ _
theorem swo_I : SWO (ltOf cfI) where
  irrefl x := by rw [cfI_lt]; exact bl_irr _
  trans x y z h1 h2 := by rw [cfI_lt] at *; exact bl_trans _ _ _ h1 h2
  ntrans x y z h1 h2 := by rw [cfI_lt] at *; exact bl_ntrans h1 h2
theorem icmp_lays (b n : Nat) (w : World) : CmpLays Try.prog 25 #[] enO 5 cfI b 0 n w := fun m os dk _ x y =>
  iclo_c x.1.1.kind x.1.2 (str x.1.1.id) x.1.1.at_ (x.1.1.crc.toNat : Int) y.1.1.kind y.1.2 (str y.1.1.id) y.1.1.at_ (y.1.1.crc.toNat : Int) x.one y.one _
section
variable [W0]
theorem isort_n (b cap : Nat) (l : List Obv) (rest : List Value) (T : TypeId) (L : List Chunk) (hl : l.length ≤ 1000000) :
    Gv Try.prog 24 [.slice (some ⟨b, 0, none⟩) l.length cap, .func (.func 25) #[] #[]].toArray ([(b, cl (l.flatMap enO ++ rest) T)] :: L)
      (fun r L' => r = .tuple #[] ∧ ∃ l' : List Obv, l'.Perm l ∧ SrtI l' ∧ L' = [(b, cl (l'.flatMap enO ++ rest) T)] :: L) := ⟨fun w hw => by
  have hf : w.heap[b]? = some (cl (l.flatMap enO ++ rest) T) := (Fnd.here : Fnd ([(b, _)] :: L) b _).get hw
  have hbs : b < w.heap.size := (Array.getElem?_eq_some_iff.1 hf).1
  have hfl : (l.flatMap enO).length = l.length * 5 := flat_len enO 5 enO_len l
  have hH : HoldsK enO 5 w b 0 l.toArray := by
    intro j hj
    have hj' : j < l.length * 5 := by simpa using hj
    have e1 := flatK_list enO 5 (by decide) enO_len l.toArray
    have e2 : (flatK enO 5 l.toArray)[j]! = (l.flatMap enO)[j]'(by omega) := by
      rw [getElem!_pos (flatK enO 5 l.toArray) j hj, ← Array.getElem_toList]
      congr 1
    constructor
    · rw [Nat.zero_add, cell_of hf, e2, List.getElem?_toArray, List.getElem?_append_left (by omega), List.getElem?_eq_getElem (by omega)]
      rfl
    · simp [World.frozen?, hf, cl]
  have hc := AnyQ.slices_SortFunc sh_o 5 (fun w => isAgg_true (by kernel_rfl) w) (fun w => sizeOf_run (by kernel_rfl) w) enO enO_len enO_one cfI swo_I 25 #[] b 0 cap l.toArray w
    (fun args w => rfl) (icmp_lays b _ w) hH hbs (by simp; omega)
  refine Calls.mono hc ?_
  rintro e w' ⟨rfl, d', n, os, hp, hs, rfl⟩
  have hsz : d'.size = l.length := by simpa using hp.1
  have hperm : d'.toList.Perm l := by
    have := hp.2.2
    rwa [List.size_toArray, Array.extract_eq_self_of_le (by omega), show l.toArray.extract 0 l.length = l.toArray from Array.extract_eq_self_of_le (by simp)] at this
  have hfd : (d'.toList.flatMap enO).length = l.length * 5 := by rw [flat_len enO 5 enO_len, Array.length_toList, hsz]
  have h1 : Holds (putRowK enO 5 (Sort.ahead w n) b 0 d') ([(b, cl (d'.toList.flatMap enO ++ rest) T)] :: L) := by
    refine hw.upd .here ?_ ?_ rfl rfl
    · show (w.heap.modify b _)[b]? = _
      rw [Array.getElem?_modify, if_pos rfl, hf]
      show some (Obj.cells (putCells id 0 _ _) _ _) = _
      rw [putCells_all (d'.toList.flatMap enO) (l.flatMap enO) rest _ (flatK_list enO 5 (by decide) enO_len d') (by omega)]
      rfl
    · intro c hc
      show (w.heap.modify b _)[c]? = _
      rw [Array.getElem?_modify, if_neg (Ne.symm hc)]
  refine ⟨.tuple #[], _, rfl, ⟨rfl, d'.toList, hperm, ?_, rfl⟩, h1.1, fun x hx => ?_, h1.2.2.1, h1.2.2.2⟩
  · show d'.toList.Pairwise _
    rw [List.pairwise_iff_getElem]
    intro i j hi hj hij
    have := hs i j (Nat.zero_le _) hij (by simpa [hsz] using hj)
    rw [cfI_lt, getElem!_pos _ _ (by simpa using hj), getElem!_pos _ _ (by simpa using hi)] at this
    exact this
  · have := h1.2.1 x hx
    show (_ ++ os)[x.1]? = _
    rw [Array.getElem?_append_left (Array.getElem?_eq_some_iff.1 this).1]
    exact this⟩
end
end Go.Proofs.Ytmhlmlkndabgmaa
namespace Go.Hf
set_option linter.all false
def hv (w t : Nat) : Nat → Nat
  | 0 => 0
  | n + 1 => 2 * hv w t n + w / 2 ^ (t + n) % 2
end Go.Hf
namespace Go.Hf
set_option linter.all false
def smb (l : List Nat) (i n : Nat) : List Nat := (List.range i).filter fun j => l.getD j 0 == n && decide (0 < n)
theorem smb_succ (l : List Nat) (i n : Nat) : smb l (i + 1) n = smb l i n ++ (if l.getD i 0 = n ∧ 0 < n then [i] else []) := by
  unfold smb
  rw [List.range_succ, List.filter_append]
  congr 1
  by_cases h : l.getD i 0 = n ∧ 0 < n
  · rw [if_pos h, List.filter_cons, if_pos (by simp only [Bool.and_eq_true, beq_iff_eq, decide_eq_true_eq]; exact h)]; rfl
  · rw [if_neg h, List.filter_cons, if_neg (by simp only [Bool.and_eq_true, beq_iff_eq, decide_eq_true_eq]; exact h)]; rfl
end Go.Hf
namespace Go.Proofs.Ytmhlmlkndabgmaa
open Go Go.Vx Go.Hf
variable [W0]
set_option maxRecDepth 4000
set_option linter.all false
omit [W0] in
/-- The lists of symbols, one a length. -/
structure SyR (l : List Nat) (i : Nat) (vs : List Value) (Cs : List Chunk) : Prop where
  lv : vs.length = 16
  lc : Cs.length = 16
  at_ : ∀ n, n < 16 → ∃ v C, vs[n]? = some v ∧ Cs[n]? = some C ∧ Ow 3 1 v (smb l i n).length (ivn (smb l i n)) C
theorem SyR.new (l : List Nat) : SyR l 0 (List.replicate 16 (.slice none 0 0)) (List.replicate 16 []) := by
  refine ⟨by simp, by simp, fun n hn => ⟨_, _, ?_, ?_, .inl ⟨rfl, rfl, rfl, rfl⟩⟩⟩
  · rw [List.getElem?_replicate, if_pos hn]
  · rw [List.getElem?_replicate, if_pos hn]
theorem SyR.step {l : List Nat} {i : Nat} {vs : List Value} {Cs : List Chunk} (h : SyR l i vs Cs) {v' : Value} {C' : Chunk} (h0 : 0 < l.getD i 0) (h15 : l.getD i 0 < 16)
    (ho : Ow 3 1 v' ((smb l i (l.getD i 0)).length + 1) (ivn (smb l i (l.getD i 0)) ++ ivn [i]) C') : SyR l (i + 1) (vs.set (l.getD i 0) v') (Cs.set (l.getD i 0) C') := by
  refine ⟨by rw [List.length_set]; exact h.lv, by rw [List.length_set]; exact h.lc, fun n hn => ?_⟩
  by_cases he : l.getD i 0 = n
  · subst he
    refine ⟨v', C', List.getElem?_set_self (by rw [h.lv]; exact hn), List.getElem?_set_self (by rw [h.lc]; exact hn), ?_⟩
    rw [smb_succ, if_pos ⟨rfl, h0⟩, List.length_append]
    have e : ivn (smb l i (l.getD i 0) ++ [i]) = ivn (smb l i (l.getD i 0)) ++ ivn [i] := by simp [ivn]
    rw [e]
    exact ho
  · obtain ⟨v, C, h1, h2, h3⟩ := h.at_ n hn
    refine ⟨v, C, by rw [List.getElem?_set_ne he]; exact h1, by rw [List.getElem?_set_ne he]; exact h2, ?_⟩
    rw [smb_succ, if_neg (fun hh => he hh.1), List.append_nil]
    exact h3
theorem SyR.skip {l : List Nat} {i : Nat} {vs : List Value} {Cs : List Chunk} (h : SyR l i vs Cs) (h0 : l.getD i 0 = 0) : SyR l (i + 1) vs Cs := by
  refine ⟨h.lv, h.lc, fun n hn => ?_⟩
  obtain ⟨v, C, h1, h2, h3⟩ := h.at_ n hn
  refine ⟨v, C, h1, h2, ?_⟩
  rw [smb_succ, if_neg (fun hh => by omega), List.append_nil]
  exact h3
end Go.Proofs.Ytmhlmlkndabgmaa
namespace Go.Df
open Go.Vx Go.If
set_option linter.all false
def lenB (v : Nat) : Nat := if v = 0 then 0 else Nat.log2 v + 1
theorem lenB_b {v k : Nat} (h1 : 2 ^ k ≤ v) (h2 : v < 2 ^ (k + 1)) : lenB v = k + 1 := by
  have h0 : v ≠ 0 := by have : 0 < 2 ^ k := Nat.pow_pos (by decide); omega
  unfold lenB
  rw [if_neg h0, show Nat.log2 v = k from (Nat.log2_eq_iff h0).2 ⟨h1, h2⟩]
end Go.Df
namespace Go.Df
open Go.Vx Go.If
set_option linter.all false
theorem tabQ (s : ByteArray) (h : (List.range 256).all (fun i => s[i]? == some (UInt8.ofNat (lenB i))) = true) {w : Nat} (hw : w < 256) : s[w]? = some (UInt8.ofNat (lenB w)) := by
  rw [List.all_eq_true] at h
  have := h w (by simpa using hw)
  simpa using this
theorem lenB_le : ∀ w, w < 256 → lenB w ≤ 8 := by decide +kernel
theorem lenB_256 {v : Nat} (h1 : 256 ≤ v) (h2 : v < 65536) : lenB v = 8 + lenB (v / 256) := by
  have h0 : v / 256 ≠ 0 := by omega
  have h3 := (Nat.log2_eq_iff h0).1 rfl
  obtain ⟨k, hk⟩ : ∃ k, k = Nat.log2 (v / 256) := ⟨_, rfl⟩
  rw [← hk] at h3
  have e1 : lenB (v / 256) = k + 1 := lenB_b h3.1 h3.2
  have a1 : 2 ^ k * 256 ≤ v := (Nat.le_div_iff_mul_le (by decide)).1 h3.1
  have a2 : v < 2 ^ (k + 1) * 256 := (Nat.div_lt_iff_lt_mul (by decide)).1 h3.2
  have e2 : lenB v = k + 8 + 1 := lenB_b (by rw [Nat.pow_add]; exact a1) (by rw [show k + 8 + 1 = (k + 1) + 8 from by omega, Nat.pow_add]; exact a2)
  omega
end Go.Df
namespace Go.Proofs.Ytmhlmlkndabgmaa
open Go Go.Vx Go.Hf Go.If Go.Df
variable [W0]
set_option maxRecDepth 4000
set_option linter.all false
set_option maxHeartbeats 2000000 in
theorem len64_n (v : Nat) (L : List Chunk) (h : v < 65536) : GvP Try.prog 76 [.int .u64 (v : Int)].toArray L (.int .i64 ((lenB v : Nat) : Int)) := by
  refine Gv.of_body Try.func76 rfl rfl ?_
  (repeat' first|refine kW ?_|refine kU fun bk=>?_|refine kV fun hc=>?_|refine kZ (fun hc=>?_) fun hc=>?_|fail)
  · rw [lenB_256 (by omega) h]
    obtain ⟨w, hw9⟩ : ∃ w, w = v / 256 := ⟨_, rfl⟩
    have hw : w < 256 := by omega
    rw [← hw9]
    have hle := lenB_le w hw
    refine OW_EV (EV_indexStr (j := w) (u := UInt8.ofNat (lenB w)) rfl rfl (by rw [wrap_u8]; omega) (tabQ _ (by kernel_rfl) hw)) rfl ?_
    rw [show ((UInt8.ofNat (lenB w)).toNat : Int) = ((lenB w : Nat) : Int) from by rw [UInt8.toNat_ofNat', Nat.mod_eq_of_lt (by omega)]]
    generalize lenB w = z at hle ⊢
    refine jA ?_
    refine OW_EV (EV_convII (r := (z : Int)) rfl (wrap_i64 (by omega) (by omega))) rfl ?_
    (repeat' first|refine kW ?_|refine kU fun bk=>?_|refine kV fun hc=>?_|refine kZ (fun hc=>?_) fun hc=>?_|fail)
    refine kR ?_
    exact ⟨_, iC, by rw [Int.natCast_add]; rfl, rfl⟩
  · have hw : v < 256 := by omega
    have hle := lenB_le v hw
    refine OW_EV (EV_indexStr (j := v) (u := UInt8.ofNat (lenB v)) rfl rfl (by rw [wrap_u8]; omega) (tabQ _ (by kernel_rfl) hw)) rfl ?_
    rw [show ((UInt8.ofNat (lenB v)).toNat : Int) = ((lenB v : Nat) : Int) from by rw [UInt8.toNat_ofNat', Nat.mod_eq_of_lt (by omega)]]
    generalize lenB v = z at hle ⊢
    refine jA ?_
    refine OW_EV (EV_convII (r := (z : Int)) rfl (wrap_i64 (by omega) (by omega))) rfl ?_
    (repeat' first|refine kW ?_|refine kU fun bk=>?_|refine kV fun hc=>?_|refine kZ (fun hc=>?_) fun hc=>?_|fail)
    refine kR ?_
    exact ⟨_, iC, by simp [tupled], rfl⟩
theorem len_n (v : Nat) (L : List Chunk) (h : v < 65536) : GvP Try.prog 52 [.int .u64 (v : Int)].toArray L (.int .i64 ((lenB v : Nat) : Int)) := by
  refine Gv.of_body Try.func52 rfl rfl ?_
  have h6 := len64_n v L h
  (repeat' first|refine kW ?_|refine kU fun bk=>?_|refine kV fun hc=>?_|refine kZ (fun hc=>?_) fun hc=>?_|fail)
  refine OW_callP rfl rfl rfl h6 rfl ?_
  (repeat' first|refine kW ?_|refine kU fun bk=>?_|refine kV fun hc=>?_|refine kZ (fun hc=>?_) fun hc=>?_|fail)
  refine kR ?_
  exact ⟨_, iC, rfl, rfl⟩
end Go.Proofs.Ytmhlmlkndabgmaa
namespace Go.Proofs.Ytmhlmlkndabgmaa
open Go Go.Vx
variable [W0]
set_option maxRecDepth 4000
set_option linter.all false
theorem inssort_nil (f : Value) (hf : f.oneCell' = true) (L : List Chunk) : GvP Try.prog 67 [.slice none 0 0, .int .i64 0, .int .i64 0, f].toArray L (.tuple #[]) := by
  refine Gv.of_body (args := [.slice none 0 0, .int .i64 0, .int .i64 0, f]) Try.func67 rfl rfl ?_
  (repeat' first|refine kW ?_|refine kU fun bk=>?_|refine kV fun hc=>?_|refine kZ (fun hc=>?_) fun hc=>?_|fail)
  refine WC_loop (X := Unit) (fun _ => [(2, .int .i64 0), (8, .int .i64 1)]) (fun _ => L) (fun _ => True) (fun _ => 0) () trivial iS (fun w h => h) ?_
  intro _ _
  ((repeat' first|refine kW ?_|refine kU fun bk=>?_|refine kV fun hc=>?_|refine kZ (fun hc=>?_) fun hc=>?_|fail) <;> try exact absurd trivial hc)
  exact kE
theorem pdq_nil (f : Value) (hf : f.oneCell' = true) (l : Int) (L : List Chunk) : GvP Try.prog 51 [.slice none 0 0, .int .i64 0, .int .i64 0, .int .i64 l, f].toArray L (.tuple #[]) := by
  refine Gv.of_body (args := [.slice none 0 0, .int .i64 0, .int .i64 0, .int .i64 l, f]) Try.func51 rfl rfl ?_
  (repeat' first|refine kW ?_|refine kU fun bk=>?_|refine kV fun hc=>?_|refine kZ (fun hc=>?_) fun hc=>?_|fail)
  refine WC_loop (X := Unit) (fun _ => [(0, .slice none 0 0), (1, .int .i64 0), (2, .int .i64 0), (3, .int .i64 l), (4, f)]) (fun _ => L) (fun _ => True) (fun _ => 0) () trivial iS (fun w h => h) ?_
  intro _ _
  ((repeat' first|refine kW ?_|refine kU fun bk=>?_|refine kV fun hc=>?_|refine kZ (fun hc=>?_) fun hc=>?_|fail) <;> try exact absurd trivial hc)
  refine OW_callP rfl rfl rfl (inssort_nil f hf L) rfl ?_
  ((repeat' first|refine kW ?_|refine kU fun bk=>?_|refine kV fun hc=>?_|refine kZ (fun hc=>?_) fun hc=>?_|fail) <;> try exact absurd trivial hc)
  exact kE
theorem sort_nil (f : Value) (hf : f.oneCell' = true) (L : List Chunk) : GvP Try.prog 24 [.slice none 0 0, f].toArray L (.tuple #[]) := by
  refine Gv.of_body (args := [.slice none 0 0, f]) Try.func24 rfl rfl ?_
  (repeat' first|refine kW ?_|refine kU fun bk=>?_|refine kV fun hc=>?_|refine kZ (fun hc=>?_) fun hc=>?_|fail)
  refine OW_callP rfl rfl rfl (len_n 0 L (by decide)) rfl ?_
  (repeat' first|refine kW ?_|refine kU fun bk=>?_|refine kV fun hc=>?_|refine kZ (fun hc=>?_) fun hc=>?_|fail)
  refine OW_callP rfl rfl rfl (pdq_nil f hf _ L) rfl ?_
  (repeat' first|refine kW ?_|refine kU fun bk=>?_|refine kV fun hc=>?_|refine kZ (fun hc=>?_) fun hc=>?_|fail)
  exact kE
end Go.Proofs.Ytmhlmlkndabgmaa
namespace Go.Proofs.Ytmhlmlkndabgmaa
open Go Go.Vx Go.Pk Go.Ix
open Go.Ob (hshB)
set_option linter.all false
set_option maxRecDepth 40000
section
variable [W0]
theorem sl_col {L : List Chunk} {s : List Obv} {p : List UInt8} {x : IxC} {C1 C2 C3 C4 C5 C6 : Chunk} (h1 : Ow 5 1 x.c.v (ixF s 256).length (bsv (ixF s 256)) C1) (h2 : Ow 5 1 x.i.v (ixR s).length (bsv (ixR s)) C2)
    (h3 : Ow 5 1 x.r.v (ixC s).length (bsv (ixC s)) C3) (h4 : Ow 5 1 x.o.v (ixO 0 s).length (bsv (ixO 0 s)) C4) (h5 : Ow 5 1 x.f.v (ixL s).length (bsv (ixL s)) C5) (h6 : Ow 5 1 x.p.v (unL p).length (bsv (unL p)) C6) :
    ColW (C1 :: C2 :: C3 :: C4 :: C5 :: C6 :: L) s p x :=
  ⟨ow_sl h1, sl_there (ow_sl h2), sl_there (sl_there (ow_sl h3)), sl_there (sl_there (sl_there (ow_sl h4))), sl_there (sl_there (sl_there (sl_there (ow_sl h5)))), sl_there (sl_there (sl_there (sl_there (sl_there (ow_sl h6)))))⟩
def BdR (l : List Obv) (p : List UInt8) (L : List Chunk) (r : Value) (L' : List Chunk) : Prop :=
  (¬ IxOk l p ∧ r = .tuple #[.slice none 0 0, .int .i64 1] ∧ L' = L) ∨
  (IxOk l p ∧ ∃ (s : List Obv) (bv : Value) (C : Chunk), s.Perm l ∧ SrtI s ∧ r = .tuple #[bv, .int .i64 0] ∧ Ow 5 1 bv (ixW s p).length (bsv (ixW s p)) C ∧ L' = C :: L)
theorem isorted_n (v : Value) (l : List Obv) (C : Chunk) (L : List Chunk) (h : Ow 30 5 v l.length (l.flatMap enO) C) (hl : l.length ≤ 1000000) :
    Gv Try.prog 24 [v, .func (.func 25) #[] #[]].toArray (C :: L) (fun r L' => r = .tuple #[] ∧ ∃ (s : List Obv) (C' : Chunk), s.Perm l ∧ SrtI s ∧ Ow 30 5 v s.length (s.flatMap enO) C' ∧ L' = C' :: L) := by
  rcases h with ⟨rfl, e2, _, rfl⟩ | ⟨q, cap, rest, rfl, rfl, e3, e4, e5, e6⟩
  · obtain rfl : l = [] := List.length_eq_zero_iff.1 e2
    refine (sort_nil _ rfl ([] :: L)).mono fun r L' hp => ?_
    obtain ⟨rfl, rfl⟩ := hp
    exact ⟨rfl, [], [], List.Perm.nil, List.Pairwise.nil, .inl ⟨rfl, rfl, rfl, rfl⟩, rfl⟩
  · refine (isort_n q cap l rest 30 L hl).mono fun r L' hp => ?_
    obtain ⟨rfl, s, hp, hs, rfl⟩ := hp
    have hsl := hp.length_eq
    refine ⟨rfl, s, _, hp, hs, .inr ⟨q, cap, rest, by rw [hsl], rfl, flat_len enO 5 enO_len s, by rw [hsl]; exact e4, by omega, e6⟩, rfl⟩
set_option maxHeartbeats 16000000 in
theorem ibuild_n (v : Value) (l : List Obv) (p : List UInt8) (L : List Chunk) (hv : Sl L 5 v l.length (l.flatMap enO)) (hl : l.length ≤ 9223372036854775807) (hp : p.length ≤ 140737488355328) (hi : ∀ x ∈ l, x.1.1.id.length ≤ 140737488355328) :
    Gv Try.prog 9 [v, .string (str p)].toArray L (BdR l p L) := by
  obtain ⟨va, vc, rfl⟩ := sl_slice hv
  refine Gv.of_body (args := [.slice va l.length vc, .string (str p)]) Try.func9 rfl rfl ?_
  by_cases h96 : 4096 < l.length
  · have hno : ¬ IxOk l p := fun h => by have := h.len; omega
    (repeat' first|refine kW ?_|refine kU fun bk=>?_|refine kV fun hc=>?_|refine kZ (fun hc=>?_) fun hc=>?_|fail)
    refine kR ?_
    exact ⟨L, iC, .inl ⟨hno, rfl, rfl⟩⟩
  by_cases hall : l.all okIB = true
  rotate_left
  · have hno : ¬ IxOk l p := fun h => hall (List.all_eq_true.2 fun x hx => okIB_t.2 (h.ok x hx))
    have hcn := icontains_n _ l L hv (by omega) hi
    rw [Bool.eq_false_iff.2 hall] at hcn
    (repeat' first|refine kW ?_|refine kU fun bk=>?_|refine kV fun hc=>?_|refine kZ (fun hc=>?_) fun hc=>?_|fail)
    refine OW_callP rfl rfl rfl hcn rfl ?_
    (repeat' first|refine kW ?_|refine kU fun bk=>?_|refine kV fun hc=>?_|refine kZ (fun hc=>?_) fun hc=>?_|fail)
    refine kR ?_
    exact ⟨L, iC, .inl ⟨hno, rfl, rfl⟩⟩
  have hcn := icontains_n _ l L hv (by omega) hi
  rw [hall] at hcn
  by_cases hpk : hshB p = true
  rotate_left
  · have hno : ¬ IxOk l p := fun h => hpk h.pk
    have hpn := hash_n p L (by omega)
    rw [Bool.eq_false_iff.2 hpk] at hpn
    (repeat' first|refine kW ?_|refine kU fun bk=>?_|refine kV fun hc=>?_|refine kZ (fun hc=>?_) fun hc=>?_|fail)
    refine OW_callP rfl rfl rfl hcn rfl ?_
    (repeat' first|refine kW ?_|refine kU fun bk=>?_|refine kV fun hc=>?_|refine kZ (fun hc=>?_) fun hc=>?_|fail)
    refine OW_callP rfl rfl rfl hpn rfl ?_
    (repeat' first|refine kW ?_|refine kU fun bk=>?_|refine kV fun hc=>?_|refine kZ (fun hc=>?_) fun hc=>?_|fail)
    refine kR ?_
    exact ⟨L, iC, .inl ⟨hno, rfl, rfl⟩⟩
  have hpn := hash_n p L (by omega)
  rw [hpk] at hpn
  (repeat' first|refine kW ?_|refine kU fun bk=>?_|refine kV fun hc=>?_|refine kZ (fun hc=>?_) fun hc=>?_|fail)
  refine OW_callP rfl rfl rfl hcn rfl ?_
  (repeat' first|refine kW ?_|refine kU fun bk=>?_|refine kV fun hc=>?_|refine kZ (fun hc=>?_) fun hc=>?_|fail)
  refine OW_callP rfl rfl rfl hpn rfl ?_
  (repeat' first|refine kW ?_|refine kU fun bk=>?_|refine kV fun hc=>?_|refine kZ (fun hc=>?_) fun hc=>?_|fail)
  refine OW_call rfl rfl rfl (oclone_n _ l _ hv (by omega)) rfl (fun r L' hp => ?_)
  obtain ⟨C0, ho0, rfl⟩ := hp
  have hone0 := ow_one ho0
  obtain ⟨sa, sc, rfl⟩ := ow_slc ho0
  (repeat' first|refine kW ?_|refine kU fun bk=>?_|refine kV fun hc=>?_|refine kZ (fun hc=>?_) fun hc=>?_|fail)
  refine OW_call rfl rfl rfl (isorted_n (.slice sa l.length sc) l C0 L ho0 (by omega)) rfl (fun r L' hp => ?_)
  obtain ⟨rfl, s, C1, hsp, hss, ho1, rfl⟩ := hp
  have hsl := hsp.length_eq
  rw [← hsl] at h96 ⊢
  rw [← hsl] at ho1
  have hpk40 : p.length = 40 := by unfold Go.Ob.hshB at hpk; rw [Bool.and_eq_true, decide_eq_true_iff] at hpk; exact hpk.1
  have hok : ∀ x ∈ s, okI x := fun x hx => okIB_t.1 (List.all_eq_true.1 hall x (hsp.mem_iff.1 hx))
  have hrow : ∀ (i : Nat) (x : Obv), s[i]? = some x → ∃ b off, sa = some ⟨b, off, none⟩ ∧ RdAt (C1 :: L) ⟨b, off + i * 5, none⟩ (enO x) := fun i x hx => by
    obtain ⟨b1, o1, c1, hvv, hr⟩ := row_at enO_len (ow_sl (L := L) ho1) hx (by decide)
    injection hvv with w1 w2 w3
    exact ⟨b1, o1, w1, hr⟩
  (repeat' first|refine kY ?_|refine kU fun bk=>?_|refine kV fun hc=>?_|refine kZ (fun hc=>?_) fun hc=>?_|fail)
  refine WC_cut (X := Unit) (fun _ => [(0, .slice sa s.length sc), (1, .string (str p))]) (fun _ => C1 :: L) (fun _ => IxOk l p) ?_ ?_
  · (repeat' first|refine kW ?_|refine kU fun bk=>?_|refine kV fun hc=>?_|refine kZ (fun hc=>?_) fun hc=>?_|fail)
    refine WC_loop (X := Nat) (fun i => [(0, .slice sa s.length sc), (1, .string (str p)), (6, .int .i64 (i : Int))]) (fun _ => C1 :: L) (fun i => 1 ≤ i ∧ (i ≤ s.length ∨ i = 1) ∧ ∀ (j : Nat) (a b : Obv), j + 1 < i → s[j]? = some a → s[j + 1]? = some b → b.1.1.id ≠ a.1.1.id) (fun i => s.length - i) 1 ⟨Nat.le_refl _, .inr rfl, fun j a b hj => by omega⟩ iS (fun w h => h) ?_
    rintro i ⟨h1, h2, h3⟩
    by_cases hlt : i < s.length
    · obtain ⟨x, hx⟩ : ∃ x, s[i]? = some x := ⟨s[i], by simp [hlt]⟩
      obtain ⟨y, hy⟩ : ∃ y, s[i - 1]? = some y := ⟨s[i - 1]'(by omega), by rw [List.getElem?_eq_getElem]⟩
      obtain ⟨b1, o1, hsa, hrx⟩ := hrow i x hx
      obtain ⟨b2, o2, hsa2, hry⟩ := hrow (i - 1) y hy
      rw [hsa] at hsa2
      injection hsa2 with f0
      injection f0 with f1 f2
      subst f1 f2
      obtain ⟨bp, bn, bc, hbs, hcs⟩ := enO_lit x
      obtain ⟨yp, yn, yc, hys, hcy⟩ := enO_lit y
      rw [hcs] at hrx
      rw [hcy] at hry
      obtain ⟨cb, Tb, fb, gb1, gb2⟩ := RdAt.cellAt hrx (j := 2) (u := .string (str x.1.1.id)) rfl
      obtain ⟨ca, Ta, fa, ga1, ga2⟩ := RdAt.cellAt hry (j := 2) (u := .string (str y.1.1.id)) rfl
      obtain ⟨k, hk⟩ : ∃ k, k = decide (str y.1.1.id = str x.1.1.id) := ⟨_, rfl⟩
      subst hsa
      ((repeat' first|refine kW ?_|refine kU fun bk=>?_|refine kV fun hc=>?_|refine kZ (fun hc=>?_) fun hc=>?_|fail) <;> try exact absurd trivial hc)
      refine WC_drawAll [] mixed ?_
      (refine WR_t 0 ?_; refine WR_t 1 ?_; refine WR_t 2 ?_)
      (refine WR_take 3 rfl rfl (by kernel_rfl) iP iC (EV_indexAddr (j := i - 1) rfl rfl (by omega) (by omega)) (by rfl) ?_)
      (refine WR_t 4 ?_)
      (refine WR_take 5 rfl rfl (by kernel_rfl) iP iC (EV_load rfl ga1 ga2) (by rfl) ?_)
      (refine WR_t 6 ?_; refine WR_t 7 ?_)
      (refine WR_take 8 rfl rfl (by kernel_rfl) iP iC (EV_indexAddr (j := i) rfl rfl rfl hlt) (by rfl) ?_)
      (refine WR_t 9 ?_)
      (refine WR_take 10 rfl rfl (by kernel_rfl) iP iC (EV_load rfl gb1 gb2) (by rfl) ?_)
      (refine WR_t 11 ?_)
      rw [← hk]
      (refine WR_done (by kernel_rfl) ?_)
      cases k with
      | true =>
        have he : x.1.1.id = y.1.1.id := (Go.Ob.str_inj.1 (of_decide_eq_true hk.symm)).symm
        have hno : ¬ IxOk l p := fun h => by
          have hnd : (s.map fun x => x.1.1.id).Nodup := (hsp.map _).nodup_iff.2 h.one
          have hlt1 : i - 1 < s.length := by omega
          have e1 : (s.map fun x => x.1.1.id)[i]? = some x.1.1.id := by rw [List.getElem?_map, hx]; rfl
          have e2 : (s.map fun x => x.1.1.id)[i - 1]? = some x.1.1.id := by rw [List.getElem?_map, hy, he]; rfl
          have := (List.getElem?_inj (by rw [List.length_map]; exact hlt) hnd).1 (e1.trans e2.symm)
          omega
        ((repeat' first|refine kW ?_|refine kU fun bk=>?_|refine kV fun hc=>?_|refine kZ (fun hc=>?_) fun hc=>?_|fail) <;> try exact absurd trivial hc)
        (first | refine WQ_retH rfl rfl ?_ | refine WQ_endH rfl rfl ?_)
        exact ⟨L, fun w h => (iC : Inc L _).holds h, .inl ⟨hno, rfl, rfl⟩⟩
      | false =>
        have he : x.1.1.id ≠ y.1.1.id := fun w => of_decide_eq_false hk.symm (by rw [w])
        ((repeat' first|refine kW ?_|refine kU fun bk=>?_|refine kV fun hc=>?_|refine kZ (fun hc=>?_) fun hc=>?_|fail) <;> try exact absurd trivial hc)
        refine WQ_round (X := Nat) (μ := fun i => s.length - i) (x := i) (i + 1) (by omega) ⟨by omega, .inl (by omega), fun j a b hj ha hb => ?_⟩ iS (fun w h => h)
        by_cases w : j + 1 = i
        · subst w
          rw [Nat.add_sub_cancel] at hy
          rw [hy] at ha; rw [hx] at hb
          injection ha with ha; injection hb with hb
          subst ha hb
          exact he
        · exact h3 j a b (by omega) ha hb
    · ((repeat' first|refine kW ?_|refine kU fun bk=>?_|refine kV fun hc=>?_|refine kZ (fun hc=>?_) fun hc=>?_|fail) <;> try exact absurd trivial hc)
      refine WQ_cut () ⟨by omega, hpk, fun x hx => okIB_t.1 (List.all_eq_true.1 hall x hx), ?_⟩ iS (fun w h => h)
      refine (hsp.map _).nodup_iff.1 (adj_nodup hss fun j a b ha hb => h3 j a b ?_ ha hb)
      have := (List.getElem?_eq_some_iff.1 hb).1
      omega
  intro _ hix
  have hS := IxS.of hix hsp hss
  (repeat' first|refine kW ?_|refine kU fun bk=>?_|refine kV fun hc=>?_|refine kZ (fun hc=>?_) fun hc=>?_|fail)
  refine OW_call rfl rfl rfl (icolumns_n _ s p _ (ow_sl ho1) hS) rfl (fun r L' hp => ?_)
  obtain ⟨x, D1, D2, D3, D4, D5, D6, rfl, g1, g2, g3, g4, g5, g6, rfl⟩ := hp
  refine WL_holds (L' := D1 :: D2 :: D3 :: D4 :: D5 :: D6 :: C1 :: L) (fun w h => h) ?_
  have hby := ibytes_n x s p (D1 :: D2 :: D3 :: D4 :: D5 :: D6 :: C1 :: L) hS (sl_col g1 g2 g3 g4 g5 g6)
  obtain ⟨⟨ca, cn, cc⟩, ⟨ia, i_n, ic⟩, ⟨ra, rn, rc⟩, ⟨oa, on, oc⟩, ⟨fa, fn, fc⟩, ⟨pa, pn, pc⟩⟩ := x
  simp only [IxC.vs, Sc.v] at hby ⊢
  (repeat' first|refine kW ?_|refine kU fun bk=>?_|refine kV fun hc=>?_|refine kZ (fun hc=>?_) fun hc=>?_|fail)
  refine OW_call rfl rfl rfl hby rfl (fun r L' hp => ?_)
  obtain ⟨Cw, how, rfl⟩ := hp
  have hone := ow_one how
  (repeat' first|refine kW ?_|refine kU fun bk=>?_|refine kV fun hc=>?_|refine kZ (fun hc=>?_) fun hc=>?_|fail)
  refine kR ?_
  exact ⟨Cw :: L, iC, .inr ⟨hix, s, _, Cw, hsp, hss, rfl, how, rfl⟩⟩
end
end Go.Proofs.Ytmhlmlkndabgmaa
namespace Go.Proofs.Ytmhlmlkndabgmaa
open Go Go.Vx Go.Pk Go.Ix
set_option linter.all false
set_option maxRecDepth 40000
section
variable [W0]
def PxQ (b : List UInt8) (r : Value) (C : Chunk) : Prop :=
  (pxE b ≠ 0 ∧ r = .tuple #[.slice none 0 0, .string .empty, .int .i64 (pxE b : Int)] ∧ C = []) ∨
  (pxE b = 0 ∧ ∃ v, r = .tuple #[v, .string (str (pxPk b)), .int .i64 0] ∧ Ow 30 5 v (pxL b).length ((pxL b).flatMap enO) C)
set_option maxHeartbeats 16000000 in
theorem iparse_n (v : Value) (b : List UInt8) (L : List Chunk) (h : Rs L 1 v b.length (bsv b)) (hb : b.length ≤ 1000000) :
    Gv Try.prog 14 [v].toArray L (fun r L' => ∃ C, PxQ b r C ∧ L' = C :: L) := by
  obtain ⟨va, vc, rfl⟩ := rs_val h
  refine Gv.of_body (args := [.slice va b.length vc]) Try.func14 rfl rfl ?_
  (repeat' first|refine kW ?_|refine kU fun bk=>?_|refine kV fun hc=>?_|refine kZ (fun hc=>?_) fun hc=>?_|fail)
  refine OW_call rfl rfl rfl (iopen_n _ b L h hb) rfl (fun r L' hp => ?_)
  obtain ⟨hL, hp⟩ := hp
  have hL := hL.symm
  subst hL
  rcases hp with ⟨he, hok, x, hx, rfl⟩ | ⟨he, rfl⟩
  rotate_left
  · obtain ⟨e, hee⟩ : ∃ e, e = pxE b := ⟨_, rfl⟩
    rw [← hee] at he ⊢
    (repeat' first|refine kW ?_|refine kU fun bk=>?_|refine kV fun hc=>?_|refine kZ (fun hc=>?_) fun hc=>?_|fail)
    refine WQ_holds (L' := [] :: L) (fun w h => Holds.nil.2 ((iC : Inc L _).holds h)) ?_
    refine kR ?_
    exact ⟨[] :: L, iC, [], .inl ⟨by rw [← hee]; exact he, by rw [← hee]; rfl, rfl⟩, rfl⟩
  have hmo := hok.most
  have hlen := hok.len
  obtain ⟨n, hn⟩ : ∃ n, n = pxN b := ⟨_, rfl⟩
  have hli := pcB_len (b := b) (s := 1032) (k := 20 * pxN b) (by omega)
  have hin : x.i.n = 20 * n := by have := (sc_rs hx.i).1; omega
  have hxp := hx.p
  have hpl := pcB_len (b := b) (s := b.length - 40) (k := 20) (by omega)
  have hcnt := fun L => icount_n x n L hin (by omega)
  have hid := fun i hi C D => iid_p x b i (C :: D :: L) hx.up.up hi hb
  have hat := fun i hi C D => iat_n x b i (C :: D :: L) hx.up.up hok hi hb
  have hcr := fun i hi C D => icrc_n x b i (C :: D :: L) hx.up.up hi hb
  obtain ⟨⟨ca, cn, cc⟩, ⟨ia, i_n, ic⟩, ⟨ra, rn, rc⟩, ⟨oa, on, oc⟩, ⟨fa, fn, fc⟩, ⟨pa, pn, pc⟩⟩ := x
  simp only [IxC.vs, Sc.v] at hcnt hid hat hcr ⊢
  have hpn : pn = (pcB b (b.length - 40) 20).length := (sc_rs hxp).1
  subst hpn
  (repeat' first|refine kW ?_|refine kU fun bk=>?_|refine kV fun hc=>?_|refine kZ (fun hc=>?_) fun hc=>?_|fail)
  refine OW_callP rfl rfl rfl (hcnt _) rfl ?_
  (repeat' first|refine kW ?_|refine kU fun bk=>?_|refine kV fun hc=>?_|refine kZ (fun hc=>?_) fun hc=>?_|fail)
  revert bk; intro q
  refine WC_loop (X := Nat × Value × Chunk) (fun z => [(2, z.2.1), (5, .pointer (some ⟨q, 0, none⟩)), (16, .int .i64 (n : Int)), (17, .int .i64 (z.1 : Int))]) (fun z => [(q, cl [.slice ca cn cc, .slice ia i_n ic, .slice ra rn rc, .slice oa on oc, .slice fa fn fc, .slice pa (pcB b (b.length - 40) 20).length pc] 61)] :: z.2.2 :: L)
    (fun z => z.1 ≤ n ∧ Ow 30 5 z.2.1 z.1 (((List.range z.1).map (pxO b)).flatMap enO) z.2.2) (fun z => n - z.1) (0, .slice none 0 0, []) ⟨Nat.zero_le _, .inl ⟨rfl, rfl, rfl, rfl⟩⟩ iS (fun w h => (iC : Inc ([(q, cl [.slice ca cn cc, .slice ia i_n ic, .slice ra rn rc, .slice oa on oc, .slice fa fn fc, .slice pa (pcB b (b.length - 40) 20).length pc] 61)] :: [] :: L) ([] :: [(q, cl [.slice ca cn cc, .slice ia i_n ic, .slice ra rn rc, .slice oa on oc, .slice fa fn fc, .slice pa (pcB b (b.length - 40) 20).length pc] 61)] :: L)).holds (Holds.nil.2 h)) ?_
  rintro ⟨i, lv, Ci⟩ ⟨q1, q2⟩
  simp only at q1 q2 ⊢
  by_cases hlt : i < n
  · have hii : i < pxN b := by omega
    obtain ⟨la, lc, rfl⟩ := ow_slc q2
    have hati := hat i hii
    have hidi := hid i hii
    have hcri := hcr i hii
    have hil := pxId_len (by omega : 1072 + 28 * pxN b ≤ b.length) hii
    have hrow := hok.rows i hii
    obtain ⟨xa, hxa⟩ : ∃ xa, xa = pxAt b i := ⟨_, rfl⟩
    rw [← hxa] at hati
    (repeat' first|refine kW ?_|refine kU fun bk=>?_|refine kV fun hc=>?_|refine kZ (fun hc=>?_) fun hc=>?_|fail)
    refine WC_drawAll [13, 14] mixed ?_
    (refine WR_t 0 ?_; refine WR_t 1 ?_; refine WR_t 2 ?_; refine WR_t 5 ?_; refine WR_t 6 ?_; refine WR_t 8 ?_; refine WR_t 9 ?_)
    (refine WR_one 3 (by kernel_rfl) rfl rfl ?_)
    refine OW_call rfl rfl rfl (hidi _ _) rfl (fun r L' hp => ?_)
    obtain ⟨qi, rfl⟩ := hp
    refine ⟨iC, ?_⟩
    (refine WR_one 4 (by kernel_rfl) rfl rfl ?_)
    refine OW_callP rfl rfl rfl (hex_n (pxId b i) _ _ (by omega) ⟨qi.sl, qi.room⟩) rfl ?_
    refine ⟨iC, ?_⟩
    (refine WR_one 7 (by kernel_rfl) rfl rfl ?_)
    refine OW_callP rfl rfl rfl (hati _ _) rfl ?_
    refine ⟨iC, ?_⟩
    (refine WR_one 10 (by kernel_rfl) rfl rfl ?_)
    refine OW_callP rfl rfl rfl (hcri _ _) rfl ?_
    refine ⟨iC, ?_⟩
    (refine WR_t 11 ?_)
    (refine WR_one 12 (by kernel_rfl) rfl rfl ?_)
    refine OW_buildSlice (cs := enO (pxO b i)) rfl (by rfl) (by rw [hxa]; first | rfl | (simp [fillL, patch, Value.cells, zeros]; done) | (simp [fillL, patch, Value.cells, zeros]; rfl)) (by omega) rfl rfl (fun b2 => ?_)
    refine ⟨iC, ?_⟩
    (refine WR_last 13 (by kernel_rfl) rfl rfl rfl ?_)
    refine OW_append rfl rfl q2 (sl_cells (k := 5) (c := (enO (pxO b i)).toArray) (xs := enO (pxO b i)) (m := 1) Fnd.here rfl rfl) (by repeat (first | exact Zip.here _ | apply Zip.there)) rfl rfl (by omega) (by unfold maxLen; omega) rfl (fun v1 C1 g2 _ _ => ?_)
    have hsn : ((List.range i).map (pxO b)).flatMap enO ++ enO (pxO b i) = ((List.range (i + 1)).map (pxO b)).flatMap enO := by rw [List.range_succ, List.map_append, List.flatMap_append]; simp
    rw [hsn] at g2
    have hone := ow_one g2
    (refine WR_last 14 (by kernel_rfl) rfl rfl rfl ?_)
    refine OW_EV (EV_assign rfl) rfl ?_
    (refine WR_done (by kernel_rfl) ?_)
    (repeat' first|refine kW ?_|refine kU fun bk=>?_|refine kV fun hc=>?_|refine kZ (fun hc=>?_) fun hc=>?_|fail)
    exact WQ_round (X := Nat × Value × Chunk) (μ := fun z => n - z.1) (x := (i, .slice la i lc, Ci)) (i + 1, v1, C1) (by simp only; omega) ⟨by simp only; omega, g2⟩ iS (fun w h => (iC : Inc ([(q, cl [.slice ca cn cc, .slice ia i_n ic, .slice ra rn rc, .slice oa on oc, .slice fa fn fc, .slice pa (pcB b (b.length - 40) 20).length pc] 61)] :: C1 :: L) _).holds h)
  · obtain rfl : i = n := by omega
    obtain ⟨la, lc, rfl⟩ := ow_slc q2
    have hpl2 : (pxL b).length = i := by unfold pxL; rw [List.length_map, List.length_range, ← hn]
    have hpl3 : (pxL b).flatMap enO = ((List.range i).map (pxO b)).flatMap enO := by unfold pxL; rw [← hn]
    have hog2 : Ow 30 5 (.slice la i lc) (pxL b).length ((pxL b).flatMap enO) Ci := by rw [hpl2, hpl3]; exact q2
    (repeat' first|refine kW ?_|refine kU fun bk=>?_|refine kV fun hc=>?_|refine kZ (fun hc=>?_) fun hc=>?_|fail)
    refine OW_callP rfl rfl rfl (hex_n (pcB b (b.length - 40) 20) _ _ (by omega) ⟨by repeat (first | exact hxp.sl | apply sl_there), hxp.room⟩) rfl ?_
    (repeat' first|refine kW ?_|refine kU fun bk=>?_|refine kV fun hc=>?_|refine kZ (fun hc=>?_) fun hc=>?_|fail)
    refine kR ?_
    exact ⟨Ci :: L, iC, Ci, .inr ⟨he, .slice la i lc, rfl, hog2⟩, rfl⟩
end
end Go.Proofs.Ytmhlmlkndabgmaa
namespace Go.Proofs.Ytmhlmlkndabgmaa
open Go Go.Vx Go.Pk Go.Ix
open Go.Ob (hshB zrL)
set_option linter.all false
set_option maxRecDepth 40000
section
variable [W0]
theorem EV_strSame {P : Program} {n d : Nat} {M : List (Nat × Value)} {L : List Chunk} {x y : Operand} {ty : TypeId} {ps : String} {af : Array Edge} {g : Option (Nat × Bool)} {t u : TypeId} {s r : ByteArray} (h : s = r) (hx : ev M x = some (.string s)) (hy : ev M y = some (.string r)) :
    EV P n ⟨some d, .binOp .eql t x y u, ty, ps, af, g⟩ M L d (.bool true) := by
  subst h
  have := EV_strEq (P := P) (n := n) (M := M) (L := L) (d := d) (ty := ty) (ps := ps) (af := af) (g := g) (t := t) (u := u) hx hy
  rwa [decide_eq_true rfl] at this
theorem zero12_n (L : List Chunk) : GvP Try.prog 37 [].toArray L (.string (str zrL)) := by
  refine Gv.of_body Try.func37 rfl rfl ?_
  (repeat' first|refine kW ?_|refine kU fun bk=>?_|refine kV fun hc=>?_|refine kZ (fun hc=>?_) fun hc=>?_|fail)
  exact kE
theorem ixok_nil : IxOk [] zrL := ⟨by decide, by decide +kernel, fun x hx => by simp at hx, by simp⟩
set_option maxHeartbeats 8000000 in
theorem awake12_n (L : List Chunk) : GvP Try.prog 12 [].toArray L (.bool true) := by
  have hz : zrL.length = 40 := rfl
  have hb := fun L => ibuild_n (.slice none 0 0) [] zrL L (.inl ⟨0, rfl, rfl, rfl⟩) (by decide) (by omega) (fun x hx => by simp at hx)
  refine Gv.of_body (args := []) Try.func12 rfl rfl ?_
  (repeat' first|refine kW ?_|refine kU fun bk=>?_|refine kV fun hc=>?_|refine kZ (fun hc=>?_) fun hc=>?_|fail)
  refine OW_callP rfl rfl rfl (zero12_n _) rfl ?_
  (repeat' first|refine kW ?_|refine kU fun bk=>?_|refine kV fun hc=>?_|refine kZ (fun hc=>?_) fun hc=>?_|fail)
  refine OW_call rfl rfl rfl (hb _) rfl (fun r L' hp => ?_)
  rcases hp with ⟨hno, _⟩ | ⟨hix, s, bv, C, hsp, hss, rfl, how, rfl⟩
  · exact absurd ixok_nil hno
  have hS := IxS.of hix hsp hss
  obtain rfl : s = [] := List.length_eq_zero_iff.1 hsp.length_eq
  have hW := ixW_len hS
  rw [show farK ([] : List Obv) = 0 from rfl] at hW
  have hn := px_n hS
  have he := px_e hS
  obtain ⟨W, hWW⟩ : ∃ W, W = ixW [] zrL := ⟨_, rfl⟩
  rw [← hWW] at how hW hn he
  have hW2 : W.length = 1072 := hW
  obtain ⟨ba, bc, rfl⟩ := ow_slc how
  (repeat' first|refine kW ?_|refine kU fun bk=>?_|refine kV fun hc=>?_|refine kZ (fun hc=>?_) fun hc=>?_|fail)
  refine OW_callP rfl rfl rfl (zero12_n _) rfl ?_
  (repeat' first|refine kW ?_|refine kU fun bk=>?_|refine kV fun hc=>?_|refine kZ (fun hc=>?_) fun hc=>?_|fail)
  refine OW_call rfl rfl rfl (ifind_n _ W zrL _ (Rs.ow how) (by omega) (by omega)) rfl (fun r L' hp => ?_)
  obtain ⟨rfl, hp⟩ := hp
  rcases hp with ⟨i, hi, _⟩ | ⟨_, rfl⟩
  · rw [hn] at hi; exact absurd hi (Nat.not_lt_zero _)
  (repeat' first|refine kW ?_|refine kU fun bk=>?_|refine kV fun hc=>?_|refine kZ (fun hc=>?_) fun hc=>?_|fail)
  refine OW_call rfl rfl rfl (iparse_n _ W _ (Rs.ow how) (by omega)) rfl (fun r L' hp => ?_)
  obtain ⟨D, hp, rfl⟩ := hp
  rcases hp with ⟨h0, _⟩ | ⟨_, lv, rfl, hlo⟩
  · exact absurd he h0
  obtain ⟨la, lc, rfl⟩ := ow_slc hlo
  (repeat' first|refine kW ?_|refine kU fun bk=>?_|refine kV fun hc=>?_|refine kZ (fun hc=>?_) fun hc=>?_|fail)
  exact kE
set_option maxHeartbeats 8000000 in
theorem idxbuilds_n (v : Value) (l : List Obv) (p : List UInt8) (L : List Chunk) (hv : Sl L 5 v l.length (l.flatMap enO)) (hl : l.length ≤ 140737488355328) (hp : p.length ≤ 140737488355328) (hi : ∀ x ∈ l, x.1.1.id.length ≤ 140737488355328) :
    GvP Try.prog 4 [v, .string (str p)].toArray L (.bool true) := by
  have hsub : ∀ {C : Chunk} {L' : List Chunk} {v : Value}, Sl L 5 v l.length (l.flatMap enO) → Sl (C :: L) 5 v l.length (l.flatMap enO) := fun h => sl_there h
  obtain ⟨va, vc, rfl⟩ := sl_slice hv
  refine Gv.of_body (args := [.slice va l.length vc, .string (str p)]) Try.func4 rfl rfl ?_
  by_cases h1 : 100 < l.length ∧ l.length ≤ 4096
  · obtain ⟨h1, h2⟩ := h1
    (repeat' first|refine kW ?_|refine kU fun bk=>?_|refine kV fun hc=>?_|refine kZ (fun hc=>?_) fun hc=>?_|fail)
    refine OW_callP rfl rfl rfl (awake12_n _) rfl ?_
    (repeat' first|refine kW ?_|refine kU fun bk=>?_|refine kV fun hc=>?_|refine kZ (fun hc=>?_) fun hc=>?_|fail)
    exact kE
  have hcond : ¬ (100 < l.length) ∨ 4096 < l.length := by omega
  have hb := ibuild_n _ l p L hv (by omega) hp hi
  have hp0 := hp
  clear hsub
  (repeat' first|refine kY ?_|refine kU fun bk=>?_|refine kV fun hc=>?_|refine kZ (fun hc=>?_) fun hc=>?_|fail)
  refine WC_seq ?_
  (repeat' first|refine kY ?_|refine kU fun bk=>?_|refine kV fun hc=>?_|refine kZ (fun hc=>?_) fun hc=>?_|fail)
  refine WC_cut (X := Unit) (fun _ => [(0, .slice va l.length vc), (1, .string (str p))]) (fun _ => L) (fun _ => True) ?_ ?_
  · rcases hcond with hc1 | hc1
    · (repeat' first|refine kW ?_|refine kU fun bk=>?_|refine kV fun hc=>?_|refine kZ (fun hc=>?_) fun hc=>?_|fail)
      exact WQ_cut () trivial iS (fun w h => h)
    · (repeat' first|refine kW ?_|refine kU fun bk=>?_|refine kV fun hc=>?_|refine kZ (fun hc=>?_) fun hc=>?_|fail)
      exact WQ_cut () trivial iS (fun w h => h)
  intro _ _
  (repeat' first|refine kW ?_|refine kU fun bk=>?_|refine kV fun hc=>?_|refine kZ (fun hc=>?_) fun hc=>?_|fail)
  refine OW_call rfl rfl rfl hb rfl (fun r L' hp => ?_)
  rcases hp with ⟨hno, rfl, rfl⟩ | ⟨hix, s, bv, C, hsp, hss, rfl, how, rfl⟩
  · (repeat' first|refine kW ?_|refine kU fun bk=>?_|refine kV fun hc=>?_|refine kZ (fun hc=>?_) fun hc=>?_|fail)
    refine OW_call rfl rfl rfl (refbuild_n _ l p _ hv hl hp0 hi) rfl (fun r L' hp => ?_)
    rcases hp with ⟨_, rfl, rfl⟩ | ⟨hix, _⟩
    rotate_left
    · exact absurd hix hno
    (repeat' first|refine kW ?_|refine kU fun bk=>?_|refine kV fun hc=>?_|refine kZ (fun hc=>?_) fun hc=>?_|fail)
    refine OW_EV (EV_convStr (b := []) (m := 0) rfl (.inl ⟨0, rfl, rfl, rfl⟩)) rfl ?_
    (repeat' first|refine kW ?_|refine kU fun bk=>?_|refine kV fun hc=>?_|refine kZ (fun hc=>?_) fun hc=>?_|fail)
    refine OW_EV (EV_convStr (b := []) (m := 0) rfl (.inl ⟨0, rfl, rfl, rfl⟩)) rfl ?_
    refine WL_plain rfl ?_
    refine OW_EV (EV_strSame rfl rfl rfl) rfl ?_
    (repeat' first|refine kW ?_|refine kU fun bk=>?_|refine kV fun hc=>?_|refine kZ (fun hc=>?_) fun hc=>?_|fail)
    refine OW_callP rfl rfl rfl (awake12_n _) rfl ?_
    (repeat' first|refine kW ?_|refine kU fun bk=>?_|refine kV fun hc=>?_|refine kZ (fun hc=>?_) fun hc=>?_|fail)
    exact kE
  · obtain ⟨ba, bc, rfl⟩ := ow_slc how
    (repeat' first|refine kW ?_|refine kU fun bk=>?_|refine kV fun hc=>?_|refine kZ (fun hc=>?_) fun hc=>?_|fail)
    refine OW_call rfl rfl rfl (refbuild_n _ l p _ (sl_there hv) hl hp0 hi) rfl (fun r L' hp => ?_)
    rcases hp with ⟨hno, _⟩ | ⟨_, s2, b2, C2, hsp2, hss2, rfl, how2, rfl⟩
    · exact absurd hix hno
    obtain ⟨b2a, b2c, rfl⟩ := ow_slc how2
    have hS := IxS.of hix hsp hss
    have hse : s = s2 := srt_uniq hss hss2 (hsp.trans hsp2.symm) hS.one
    rw [← hse] at how2 ⊢
    obtain ⟨W, hW⟩ : ∃ W, W = ixW s p := ⟨_, rfl⟩
    rw [← hW] at how how2 ⊢
    (repeat' first|refine kW ?_|refine kU fun bk=>?_|refine kV fun hc=>?_|refine kZ (fun hc=>?_) fun hc=>?_|fail)
    refine OW_EV (EV_convStr (b := W) (m := W.length) rfl (by repeat (first | exact ow_sl how | apply sl_there))) rfl ?_
    (repeat' first|refine kW ?_|refine kU fun bk=>?_|refine kV fun hc=>?_|refine kZ (fun hc=>?_) fun hc=>?_|fail)
    refine OW_EV (EV_convStr (b := W) (m := W.length) rfl (by repeat (first | exact ow_sl how2 | apply sl_there))) rfl ?_
    refine WL_plain rfl ?_
    refine OW_EV (EV_strSame rfl rfl rfl) rfl ?_
    (repeat' first|refine kW ?_|refine kU fun bk=>?_|refine kV fun hc=>?_|refine kZ (fun hc=>?_) fun hc=>?_|fail)
    refine OW_callP rfl rfl rfl (awake12_n _) rfl ?_
    (repeat' first|refine kW ?_|refine kU fun bk=>?_|refine kV fun hc=>?_|refine kZ (fun hc=>?_) fun hc=>?_|fail)
    exact kE
end
end Go.Proofs.Ytmhlmlkndabgmaa
namespace Go.Proofs.Ytmhlmlkndabgmaa
open Go Go.Vx Go.ChangeShapes Go.WideShapes Go.ChangeAt Go.RowKit
set_option maxRecDepth 4000
set_option linter.all false
theorem flat_atK {α β : Type} {f : α → List β} {K : Nat} (hK : 0 < K) (hf : ∀ x, (f x).length = K) : ∀ (l : List α) (j : Nat), (l.flatMap f)[j]? = (l[j / K]?).bind fun x => (f x)[j % K]?
  | [], j => by simp
  | x :: l, j => by
    rw [List.flatMap_cons]
    rcases Nat.lt_or_ge j K with h | h
    · rw [List.getElem?_append_left (by rw [hf]; exact h), Nat.div_eq_of_lt h, Nat.mod_eq_of_lt h]
      rfl
    · rw [List.getElem?_append_right (by rw [hf]; exact h), hf, flat_atK hK hf l (j - K)]
      have e2 : j % K = (j - K) % K := by
        conv => lhs; rw [← Nat.sub_add_cancel h]
        simp
      rw [e2]
      have e3 : j / K = (j - K) / K + 1 := by
        conv => lhs; rw [← Nat.sub_add_cancel h]
        exact Nat.add_div_right _ hK
      rw [e3, List.getElem?_cons_succ]
theorem add_two (x : Addr) (a b : Nat) : (x.add a).add b = x.add (a + b) := by
  unfold Addr.add
  by_cases hb : b = 0
  · subst hb; simp
  · by_cases ha : a = 0
    · subst ha; simp [hb]
    · simp [ha, hb, Nat.add_assoc]
theorem open_slK {H : Type} {enc : TypeId × Value → H} {W : World} {t e fuel K : Nat} {cs : List Value} {y : DataW H × List MemPlace} {α : Type} (f : α → List Value) (dat : α → DataW H) (ht : Try.prog.underlying t = some (.slice e)) (hK : Try.prog.cellsOf e = K) (hK0 : 0 < K)
    (hf : ∀ x, (f x).length = K) (hel : ∀ n cs y, DataW.trod enc Try.prog W 0 (fun _ => true) true n e cs = some y → ∃ x, cs = f x ∧ y.1 = dat x)
    (h : DataW.trod enc Try.prog W 0 (fun _ => true) true fuel t cs = some y) :
    ∃ (v : Value) (l : List α), cs = [v] ∧ v.oneCell' = true ∧ Sl [blks W] K v l.length (l.flatMap f) ∧ ((y.1 = .nil ∧ l = []) ∨ ∃ sp, y.1 = .slice (l.map dat) sp) := by
  letI : W0 := ⟨W.os, W.output⟩
  rcases DataW.trod_slice ht h with ⟨rfl, rfl⟩ | ⟨x, len, cap, elems, rest, n, _, rfl, rfl, _, hl, _, hle, hat, _, _⟩
  · exact ⟨_, [], rfl, rfl, .inl ⟨_, rfl, rfl, rfl⟩, .inl ⟨rfl, rfl⟩⟩
  · rw [hK] at hat
    have key : ∀ i, i < len → ∃ q : α, (elems[i]?).map (·.1) = some (dat q) ∧ ∀ j, j < K → W.cell? (x.add (i * K + j)) = (f q)[j]? := by
      intro i hi
      have h1 := hat i hi
      rw [List.getElem?_eq_getElem (by omega)] at h1
      obtain ⟨cs, h2, h3⟩ := Option.bind_eq_some_iff.1 h1
      obtain ⟨_, h4, h5⟩ := World.cells?_some h2
      obtain ⟨q, rfl, hq⟩ := hel _ _ _ h3
      refine ⟨q, by rw [List.getElem?_eq_getElem (by omega), Option.map_some, hq], fun j hj => ?_⟩
      have h6 := h5 j hj
      rw [← h6, add_two]
    have hex : ∀ m, m ≤ len → ∃ l : List α, l.length = m ∧ ∀ i q, l[i]? = some q → (elems[i]?).map (·.1) = some (dat q) ∧ ∀ j, j < K → W.cell? (x.add (i * K + j)) = (f q)[j]? := by
      intro m
      induction m with
      | zero => intro _; exact ⟨[], rfl, fun i o h => by simp at h⟩
      | succ m ih =>
        intro hm
        obtain ⟨l, g1, g2⟩ := ih (by omega)
        obtain ⟨b, r1⟩ := key m (by omega)
        refine ⟨l ++ [b], by simp [g1], fun i o ho => ?_⟩
        rcases Nat.lt_or_ge i l.length with h' | h'
        · rw [List.getElem?_append_left h'] at ho; exact g2 i o ho
        · rw [List.getElem?_append_right h'] at ho
          have hi0 : i = m := by
            rcases Nat.eq_zero_or_pos (i - l.length) with h3 | h3
            · omega
            · rw [List.getElem?_eq_none (by simp; omega)] at ho; simp at ho
          subst hi0
          rw [g1] at ho
          simp at ho
          subst ho
          exact r1
    obtain ⟨l, g1, g2⟩ := hex len (Nat.le_refl _)
    refine ⟨_, l, rfl, rfl, ?_, .inr ⟨rest.map (·.1), ?_⟩⟩
    · rw [g1]
      refine .inr ⟨x, cap, rfl, ?_, ?_⟩
      · rcases Nat.eq_zero_or_pos len with h0 | h0
        · left
          rw [List.eq_nil_of_length_eq_zero (g1.trans h0)]
          rfl
        · right
          have hq0 : ∃ u, W.cell? (x.add 0) = some u := by
            obtain ⟨q, _, r⟩ := key 0 h0
            have := r 0 hK0
            rw [List.getElem?_eq_getElem (by rw [hf]; exact hK0)] at this
            exact ⟨_, by simpa using this⟩
          obtain ⟨u0, hu0⟩ := hq0
          obtain ⟨b, off, spot⟩ := x
          have hspot : spot = none := by simpa [Addr.add] using World.cell?_spot hu0
          subst hspot
          have hblk : ∃ C T fr, W.heap[b]? = some (.cells C T fr) := by
            have : (⟨b, off, none⟩ : Addr).add 0 = ⟨b, off, none⟩ := by simp [Addr.add]
            rw [this] at hu0
            unfold World.cell? at hu0
            split at hu0
            · rename_i C T fr hb; exact ⟨C, T, fr, hb⟩
            · cases hu0
          obtain ⟨C, T, fr, hb⟩ := hblk
          refine ⟨b, off, C, T, fr, rfl, by simpa [Fnd] using blks_mem.2 hb, fun j u hj => ?_⟩
          rw [flat_atK hK0 hf] at hj
          obtain ⟨q, hq, hu⟩ := Option.bind_eq_some_iff.1 hj
          obtain ⟨_, r⟩ := g2 _ _ hq
          have := r (j % K) (Nat.mod_lt _ hK0)
          rw [hu, Nat.mul_comm, Nat.div_add_mod, addr_add, cell_of hb] at this
          exact this
      · have : ∀ l : List α, (l.flatMap f).length = l.length * K := fun l => by
          induction l with
          | nil => simp
          | cons a l ih => rw [List.flatMap_cons, List.length_append, hf, ih, List.length_cons, Nat.add_mul, Nat.one_mul, Nat.add_comm]
        rw [this, g1]
    · have : elems.map (·.1) = l.map dat := by
        refine List.ext_getElem? fun i => ?_
        rw [List.getElem?_map, List.getElem?_map]
        rcases Nat.lt_or_ge i len with hi | hi
        · obtain ⟨q, hq⟩ : ∃ q, l[i]? = some q := ⟨l[i], by simp [show i < l.length by omega]⟩
          rw [(g2 i q hq).1, hq]
          rfl
        · rw [List.getElem?_eq_none (by omega), List.getElem?_eq_none (by omega)]
          rfl
      rw [← this]
end Go.Proofs.Ytmhlmlkndabgmaa
namespace Go.Proofs.Ytmhlmlkndabgmaa
open Go Go.Vx Go.ChangeShapes Go.WideShapes Go.ChangeAt Go.RowKit Go.Pk
set_option maxRecDepth 4000
set_option linter.all false
theorem take_oneI {cs : List Value} {i : Nat} {v : Value} (h : (cs.drop i).take 1 = [v]) : cs[i]? = some v := by
  have : ((cs.drop i).take 1)[0]? = some v := by rw [h]; rfl
  simpa using this
theorem open_cellI {H : Type} {enc : TypeId × Value → H} {P : Program} {W : World} {t e fuel : Nat} {cs : List Value} {x : DataW H × List MemPlace} (ht : P.underlying t = some (.slice e)) (he : P.underlying e = some (.int .u8)) (hc : P.cellsOf e = 1)
    (h : DataW.trod enc P W 0 (fun _ => true) true fuel t cs = some x) : ∃ a len cap, cs = [.slice a len cap] := by
  rcases open_ints ht he hc h with ⟨h1, _⟩ | ⟨y, l, c, zs, h1, _⟩
  · exact ⟨_, _, _, h1⟩
  · exact ⟨_, _, _, h1⟩
theorem open_objI {H : Type} {enc : TypeId × Value → H} {W : World} {fuel : Nat} {cs : List Value} {x : DataW H × List MemPlace} (h : DataW.trod enc Try.prog W 0 (fun _ => true) true fuel 30 cs = some x) :
    ∃ o : Obv, cs = enO o ∧ o.1.1.id.length ∈ DataW.weights Try.prog 30 x.1 := by
  obtain ⟨xs, n, rfl, rfl, hl, hxl, hf⟩ := DataW.trod_struct Try.underlying30 h
  have hxl : xs.length = 5 := hxl
  have hl : cs.length = 5 := by rw [hl]; kernel_rfl
  have c0 : Try.prog.cellsOf 3 = 1 := by kernel_rfl
  have c1 : Try.prog.cellsOf 24 = 1 := by kernel_rfl
  have c2 : Try.prog.cellsOf 9 = 1 := by kernel_rfl
  have c3 := c0
  have c4 : Try.prog.cellsOf 28 = 1 := by kernel_rfl
  obtain ⟨y0, m0, t0⟩ : ∃ y, y ∈ xs ∧ DataW.trod enc Try.prog W 0 (fun _ => true) true n 3 ((cs.drop 0).take (Try.prog.cellsOf 3)) = some y := by
    have := hf 0 _ rfl
    rw [List.getElem?_eq_getElem (by omega)] at this
    exact ⟨_, List.getElem_mem _, this⟩
  rw [c0] at t0
  obtain ⟨y1, m1, t1⟩ : ∃ y, y ∈ xs ∧ DataW.trod enc Try.prog W 0 (fun _ => true) true n 24 ((cs.drop 1).take (Try.prog.cellsOf 24)) = some y := by
    have := hf 1 _ rfl
    rw [List.getElem?_eq_getElem (by omega)] at this
    exact ⟨_, List.getElem_mem _, this⟩
  rw [c1] at t1
  obtain ⟨y2, m2, t2⟩ : ∃ y, xs[2]? = some y ∧ DataW.trod enc Try.prog W 0 (fun _ => true) true n 9 ((cs.drop 2).take (Try.prog.cellsOf 9)) = some y := by
    have := hf 2 _ rfl
    rw [List.getElem?_eq_getElem (by omega)] at this
    exact ⟨_, List.getElem?_eq_getElem (by omega), this⟩
  rw [c2] at t2
  obtain ⟨y3, m3, t3⟩ : ∃ y, y ∈ xs ∧ DataW.trod enc Try.prog W 0 (fun _ => true) true n 3 ((cs.drop 3).take (Try.prog.cellsOf 3)) = some y := by
    have := hf 3 _ rfl
    rw [List.getElem?_eq_getElem (by omega)] at this
    exact ⟨_, List.getElem_mem _, this⟩
  rw [c3] at t3
  obtain ⟨y4, m4, t4⟩ : ∃ y, y ∈ xs ∧ DataW.trod enc Try.prog W 0 (fun _ => true) true n 28 ((cs.drop 4).take (Try.prog.cellsOf 28)) = some y := by
    have := hf 4 _ rfl
    rw [List.getElem?_eq_getElem (by omega)] at this
    exact ⟨_, List.getElem_mem _, this⟩
  rw [c4] at t4
  obtain ⟨u0, e0, _⟩ := DataW.trod_int Try.underlying3 t0
  obtain ⟨a1, l1, k1, e1⟩ := open_cellI Try.underlying24 Try.underlying5 (by kernel_rfl) t1
  obtain ⟨s2, e2, q2', w2⟩ := DataW.trod_string Try.underlying9 t2
  obtain ⟨u3, e3, _⟩ := DataW.trod_int Try.underlying3 t3
  obtain ⟨u4, e4, _, w4⟩ := DataW.trod_int Try.underlying28 t4
  refine ⟨⟨(⟨u0, [], s2.data.toList, u3, BitVec.ofNat 32 u4.toNat⟩, .slice a1 l1 k1), _, _, _, rfl⟩, ?_, ?_⟩
  · have q0 := take_oneI e0
    have q1 := take_oneI e1
    have q2 := take_oneI e2
    have q3 := take_oneI e3
    have q4 := take_oneI e4
    have hw : w32 (BitVec.ofNat 32 u4.toNat) = .int .u32 u4 := by
      have hw := w4
      simp [Lit.wf, IntKind.min, IntKind.max, IntKind.signed, IntKind.bits] at hw
      unfold w32
      rw [BitVec.toNat_ofNat, Nat.mod_eq_of_lt (by omega), Int.toNat_of_nonneg (by omega)]
    match cs, hl with
    | [z0, z1, z2, z3, z4], _ =>
      simp at q0 q1 q2 q3 q4
      subst q0 q1 q2 q3 q4
      show [_, _, _, _, _] = [_, _, _, _, _]
      rw [hw]
      rfl
  · show s2.data.toList.length ∈ _
    unfold DataW.weights
    rw [Try.underlying30]
    refine DataW.weights_mem_each (j := 2) (t := 9) (d := y2.1) rfl (by rw [List.getElem?_map, m2]; rfl) _ ?_
    rw [q2']
    simp [DataW.weights]
theorem open_obsI {H : Type} {enc : TypeId × Value → H} {W : World} {a : Option Addr} {len cap : Nat} {d : DataW H} {ps : List MemPlace} (h : DataW.Trod enc Try.prog W 0 (fun _ => true) true 23 (.slice a len cap) d ps) :
    ∃ l : List Obv, Sl [blks W] 5 (.slice a len cap) l.length (l.flatMap enO) ∧ l.length = len ∧ (∀ x ∈ l, x.1.1.id.length ∈ DataW.weights Try.prog 23 d) ∧ (len = 0 ∨ ∃ el sp, d = .slice el sp ∧ el.length = len) := by
  obtain ⟨fuel, hf⟩ := h
  obtain ⟨v, l, hv, _, hs, hd⟩ := open_slK (K := 5) (α := {q : Obv × DataW H // q.1.1.1.id.length ∈ DataW.weights Try.prog 30 q.2}) (fun q => enO q.1.1) (fun q => q.1.2) Try.underlying23 (by kernel_rfl) (by decide) (fun q => rfl)
    (fun n cs y hy => by obtain ⟨o, h1, h2⟩ := open_objI hy; exact ⟨⟨(o, y.1), h2⟩, h1, rfl⟩) hf
  have hv' : v = .slice a len cap := by simpa [Value.cells] using hv.symm
  subst hv'
  have hll : l.length = len := by
    rcases hs with ⟨k, e, h0, _⟩ | ⟨x, k, e, _⟩
    · injection e with _ e2 _; rw [h0, e2]
    · injection e with _ e2 _; exact e2.symm
  refine ⟨l.map (fun q => q.1.1), ?_, by simpa using hll, fun x hx => ?_, ?_⟩
  · rw [List.length_map, List.flatMap_map]; exact hs
  · obtain ⟨q, hq, rfl⟩ := List.mem_map.1 hx
    rcases hd with ⟨_, rfl⟩ | ⟨sp, hd⟩
    · simp at hq
    · have hd' : d = .slice (l.map fun q => q.1.2) sp := hd
      rw [hd']
      unfold DataW.weights
      rw [Try.underlying23]
      refine List.mem_cons_of_mem _ (List.mem_append_left _ ?_)
      have key : ∀ (m : List {q : Obv × DataW H // q.1.1.1.id.length ∈ DataW.weights Try.prog 30 q.2}), q ∈ m → q.1.1.1.1.id.length ∈ DataW.weightsAll Try.prog 30 (m.map fun q => q.1.2) := by
        intro m
        induction m with
        | nil => intro h; simp at h
        | cons z m ih =>
          intro h
          rw [List.map_cons]
          unfold DataW.weightsAll
          rcases List.mem_cons.1 h with h | h
          · subst h; exact List.mem_append_left _ q.2
          · exact List.mem_append_right _ (ih h)
      exact key l hq
  · rcases hd with ⟨_, rfl⟩ | ⟨sp, hd⟩
    · left; simpa using hll.symm
    · exact .inr ⟨_, _, hd, by rw [List.length_map]; exact hll⟩
theorem reach_obsI {H : Type} {ts : List TypeId} {ds : List (DataW H)} (h : (DataW.weightsEach Try.prog ts ds).all (· ≤ reachBytes) = true) {j : Nat} {d : DataW H} {len : Nat} (ht : ts[j]? = some 23) (hd : ds[j]? = some d)
    (hl : len = 0 ∨ ∃ el sp, d = .slice el sp ∧ el.length = len) {l : List Obv} (hi : ∀ x ∈ l, x.1.1.id.length ∈ DataW.weights Try.prog 23 d) : len ≤ 140737488351232 ∧ ∀ x ∈ l, x.1.1.id.length ≤ 140737488351232 := by
  have h3 : reachBytes = 140737488351232 := rfl
  refine ⟨?_, fun x hx => ?_⟩
  · rcases hl with rfl | ⟨el, sp, rfl, rfl⟩
    · omega
    · have := sized_slice h ht hd Try.underlying23
      have hb : 1 ≤ Try.prog.bytesOf 30 := by decide +kernel
      have h4 : (el.length + sp.length) * 1 ≤ (el.length + sp.length) * Try.prog.bytesOf 30 := Nat.mul_le_mul_left _ hb
      omega
  · have := List.all_eq_true.1 h _ (DataW.weights_mem_each ht hd _ (hi x hx))
    have h2 : x.1.1.id.length ≤ reachBytes := by simpa using this
    omega
theorem reach_strI {H : Type} {ts : List TypeId} {ds : List (DataW H)} (h : (DataW.weightsEach Try.prog ts ds).all (· ≤ reachBytes) = true) {j : Nat} {t : TypeId} {s : ByteArray} (ht : ts[j]? = some t) (hd : ds[j]? = some (.lit (.string s.data.toList))) : s.data.toList.length ≤ 140737488351232 := by
  have := sized_string h ht hd
  have h3 : reachBytes = 140737488351232 := rfl
  omega
end Go.Proofs.Ytmhlmlkndabgmaa
namespace Go.Proofs.Ytmhlmlkndabgmaa
open Go Go.Vx Go.ChangeShapes Go.WideShapes Go.ChangeAt Go.RowKit
set_option linter.all false
set_option maxRecDepth 4000
theorem top_row (H : Type) (enc : TypeId × Value → H) (W : World) (base : Nat) (args : Array Value) (ds gs : List (DataW H)) (before : List MemPlace)
    (hval : ∀ (j : Nat) t v, Try.f4.params[j]? = some t → args[j]? = some v → Value.okWide Try.prog W .any base t v)
    (hW : DataW.Whole enc Try.prog Try.f4.params.toList Rows.idxBuildsSpec.vars false W args.toList ds gs before)
    (hz : (DataW.weightsEach Try.prog (Try.f4.params.toList ++ Rows.idxBuildsSpec.plain.varTypes Try.prog) (ds ++ gs)).all (· ≤ reachBytes) = true) (hL : laidMetH Try.prog [] W) :
    Calls Try.prog 4 args W fun e W' => ∃ v, e = .returned v ∧ Rows.idxBuildsSpec.post enc Try.prog Try.f4 false true false false W args v W' := by
  have hW' := hW
  obtain ⟨p, q, hA0, hV, rfl, hfz, hnd⟩ := hW
  have hA : DataW.TrodAll enc Try.prog W 0 (fun _ => true) true Try.f4.params.toList args.toList ds p := hA0
  rw [Try.params4] at hA hval hz
  obtain ⟨v0, vs0, d0, ds0, p0, q0, hargs, rfl, rfl, h0, r0⟩ := trodAll_cons hA
  obtain ⟨v1, vs1, d1, ds1, p1, q1, rfl, rfl, rfl, h1, r1⟩ := trodAll_cons r0
  obtain ⟨rfl, rfl, rfl⟩ := trodAll_nil r1
  obtain rfl : args = #[v0, v1] := by cases args; simp_all
  obtain ⟨rfl, rfl⟩ := trodVars_none hV
  obtain ⟨a0, l0, c0, rfl⟩ := okWide_slice Try.underlying23 (hval 0 _ v0 rfl rfl)
  obtain ⟨x0, s0, rfl, i0, g0⟩ := open_obsI h0
  obtain ⟨m0, j0⟩ := reach_obsI hz (j := 0) rfl rfl g0 i0
  obtain ⟨t1, rfl, rfl, rfl, w1⟩ := ChangeMaps.open_string Try.underlying9 (hval 1 _ v1 rfl rfl) h1
  have r1s : t1.data.toList.length ≤ 140737488351232 := reach_strI hz (j := 1) rfl rfl
  clear hA0
  have lt0 : ∀ x ∈ p0, x.block < W.heap.size := by obtain ⟨m, hm⟩ := h0; exact DataW.trod_lt m _ _ _ hm
  have hc : Calls Try.prog 4 #[.slice a0 x0.length c0, .string t1] W fun e W' => e = .returned (.bool true) ∧ Kept W W' := by
    refine bridge (fun {i} => ?_)
    exact idxbuilds_n _ x0 t1.data.toList _ s0 (by omega) (by omega) (fun x hx => Nat.le_trans (j0 x hx) (by decide))
  refine hc.mono fun e W' ⟨he, bel⟩ => ?_
  subst he
  exact ⟨_, rfl, _, _, _, [], _, [], hW', trodAll_mk1 (shut_bool Try.underlying4 _), (trodAll_cons_mk (Kept.trod Try.laidOut (by kernel_rfl) (of_decide_eq_true (by kernel_rfl)) h0 bel lt0) (trodAll_cons_mk (ChangeMaps.shut_string Try.underlying9 w1) trodAll_mk0)), rfl, bel.frame _, fun h => by cases h⟩
theorem reads (os : Os) {H : Type} (enc : TypeId × Value → H) : ∃ places, DataW.whole enc Try.prog ((World.holding Try.prog os ⟨#[], #[], []⟩).forCall (fun _ _ => 0) ⟨#[], #[.slice none 0 0, .string .empty], []⟩).memory Try.f4.params.toList Rows.idxBuildsSpec.vars false #[.slice none 0 0, .string .empty].toList 8 = some ([.nil, .lit (.string [])], [], places) :=
  ⟨[], by kernel_rfl⟩
set_option maxRecDepth 100000 in
theorem top_lifted (os : Os) (started : os.Started) (H : Type) (enc : TypeId × Value → H) (F : Stop.Interp) :
    ReturnsInHanded {} Try.checked os 4 .any ((OpenSpec.ofChange Rows.idxBuildsSpec).preRow enc Try.prog Try.f4 Rows.idxBuildsRow.domain false Rows.idxBuildsRow.laid) (((OpenSpec.ofChange Rows.idxBuildsSpec).at F).post enc Try.prog Try.f4 false true false false) := by
  obtain ⟨places, hx⟩ := reads os enc
  refine returnsInHanded_of_row (C := Try.checked) (s := (OpenSpec.ofChange Rows.idxBuildsSpec)) Try.own started (by kernel_rfl) Try.func4
    (witness_row_at (enc := enc) (C := Try.checked) false (World.holding Try.prog os ⟨#[], #[], []⟩) #[.slice none 0 0, .string .empty] rfl (by kernel_rfl) (by kernel_rfl) (by kernel_rfl)
      (OpenSpec.preRow_of_cond 8 hx (by kernel_rfl) (fun k hk => by cases hk) (by kernel_rfl) (laidMet_of_run' 8 (by kernel_rfl) (by kernel_rfl)))) ?_
  intro W base args ds gs before hval hW _ hcond hz hL _ _
  exact top_row H enc W base args ds gs before hval hW hz hL
theorem top_over : Rows.IdxBuildsSaid :=
  OpenClaim.holds_of_cond 4 Try.f4 rfl rfl rfl rfl rfl rfl rfl ⟨rfl, rfl, rfl, rfl, rfl⟩ rfl rfl rfl rfl rfl (by kernel_rfl) Try.func4 (by kernel_rfl)
    (of_decide_eq_true (by kernel_rfl)) (by unfold Func.isWrapper; first | (rw [if_pos (by decide +kernel)]; kernel_rfl) | (rw [if_neg (by decide +kernel)]; exact ⟨rfl, rfl⟩))
    (fun os started H enc _ F => by rw [OpenClaim.pre_eq_preRow]; exact top_lifted os started H enc F)
theorem top_holds : Rows.IdxBuildsSaid := top_over
end Go.Proofs.Ytmhlmlkndabgmaa
