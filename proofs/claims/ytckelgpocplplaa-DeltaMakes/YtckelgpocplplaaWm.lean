/- DeltaChains' body. It proves no statement by itself. No conditions. -/
import Derived.Test.YtckelgpocplplaaPg
import Derived.Test.YtckelgpocplplaaRo
namespace Go.Proofs.Ytckelgpocplplaa
open Go Go.Vx Go.Dl
variable [W0]
set_option maxRecDepth 4000
set_option linter.all false
/-- A slice of slices of bytes that came in. -/
structure LlZ (L : List Chunk) (v : Value) (ls : List (List UInt8)) : Prop where
  hd : ∃ a c, v = .slice a ls.length c
  el : ∀ i b, ls[i]? = some b → ∃ bb off cap cc T fr u, v = .slice (some ⟨bb, off, none⟩) ls.length cap ∧ Fnd L bb (.cells cc T fr) ∧ cc[off + i * 1]? = some u ∧ Rz L u b
theorem ne_self (n : Nat) : ((n : Int) != (n : Int)) = false := by simp
set_option maxHeartbeats 16000000 in
theorem deltachains_n (a : Option Addr) (c : Nat) (ls : List (List UInt8)) (L : List Chunk) (h : LlZ L (.slice a ls.length c) ls) (hm : MxAt L) :
    GvP Try.prog 3 [.slice a ls.length c].toArray L (.bool true) := by
  refine Gv.of_body (args := [.slice a ls.length c]) Try.func3 rfl rfl ?_
  ((repeat' first|refine kW ?_|refine kU fun bk=>?_|refine kV fun hc=>?_|refine kZ (fun hc=>?_) fun hc=>?_|fail) <;> try exact absurd trivial hc)
  refine WC_loop (X := Nat × List UInt8 × Value × Chunk) (fun x => [(0, .slice a ls.length c), (3, x.2.2.1), (4, .int .i64 (x.1 : Int))]) (fun x => x.2.2.2 :: L)
    (fun x => x.1 ≤ 10 ∧ x.1 ≤ ls.length ∧ x.2.1.length ≤ 3000 ∧ (x.1 = 0 → x.2.1 = []) ∧ (0 < x.1 → ls[x.1 - 1]? = some x.2.1) ∧ Ow 5 1 x.2.2.1 x.2.1.length (bsv x.2.1) x.2.2.2) (fun x => 10 - x.1) (0, [], .slice none 0 0, [])
    ⟨by simp, by simp, by simp, fun _ => rfl, fun h => absurd h (by simp), .inl ⟨rfl, rfl, rfl, rfl⟩⟩ iS (fun w h => Holds.nil.2 h) ?_
  rintro ⟨i, p, v, C⟩ ⟨h1, h2, h3, h4, h5, ho⟩
  simp only at h1 h2 h3 h4 h5 ho ⊢
  obtain ⟨va, vc, rfl⟩ := ow_slc ho
  by_cases hgo : i < ls.length ∧ i < 10
  · obtain ⟨g1, g2⟩ := hgo
    obtain ⟨x, hx⟩ : ∃ x, ls[i]? = some x := ⟨ls[i], List.getElem?_eq_getElem g1⟩
    obtain ⟨bb, off, cap, cc, T, fr, u, hve, hfn, hcell, hu⟩ := h.el i x hx
    injection hve with q1 q2 q3
    subst q1 q3
    clear q2
    obtain ⟨ua, uc, rfl⟩ := rs_val hu.rs
    ((repeat' first|refine kW ?_|refine kU fun bk=>?_|refine kV fun hc=>?_|refine kZ (fun hc=>?_) fun hc=>?_|fail) <;> try exact absurd trivial hc)
    refine OW_EV (EV_indexAddr (j := i) rfl rfl rfl g1) rfl ?_
    ((repeat' first|refine kW ?_|refine kU fun bk=>?_|refine kV fun hc=>?_|refine kZ (fun hc=>?_) fun hc=>?_|fail) <;> try exact absurd trivial hc)
    refine OW_EV (EV_load rfl hfn.there hcell) rfl ?_
    ((repeat' first|refine kW ?_|refine kU fun bk=>?_|refine kV fun hc=>?_|refine kZ (fun hc=>?_) fun hc=>?_|fail) <;> try exact absurd trivial hc)
    · refine OW_callP rfl rfl rfl (awake10_n _) rfl ?_
      ((repeat' first|refine kW ?_|refine kU fun bk=>?_|refine kV fun hc=>?_|refine kZ (fun hc=>?_) fun hc=>?_|fail) <;> try exact absurd trivial hc)
      exact kE
    apply OW_buildSlice (parts := []) rfl (by rfl) (by simp [fillL]; rfl) (by omega) rfl rfl (fun b0 => ?_)
    (repeat' first|refine kY ?_|refine kU fun bk=>?_|refine kV fun hc=>?_|refine kZ (fun hc=>?_) fun hc=>?_|fail)
    refine WC_cut (X := Value) (fun vf => [(0, .slice (some ⟨bb, off, none⟩) ls.length c), (3, .slice va p.length vc), (4, .int .i64 (i : Int)), (5, vf)]) (fun _ => [(b0, cl [] 5)] :: C :: L) (fun vf => Rz ([(b0, cl [] 5)] :: C :: L) vf p) ?_ ?_
    · by_cases hi0 : i = 0
      · obtain rfl := h4 hi0
        ((repeat' first|refine kW ?_|refine kU fun bk=>?_|refine kV fun hc=>?_|refine kZ (fun hc=>?_) fun hc=>?_|fail) <;> try exact absurd trivial hc)
        exact WQ_cut (Value.slice (some ⟨b0, 0, none⟩) 0 0) (Rz.ow (e := 5) (.inr ⟨b0, 0, [], rfl, rfl, rfl, rfl, Nat.le_refl _, by simp [maxLen]⟩)) iS (fun w h => h)
      · have hp := h5 (by omega)
        obtain ⟨bb2, off2, cap2, cc2, T2, fr2, u2, hve2, hfn2, hcell2, hu2⟩ := h.el (i - 1) p hp
        injection hve2 with q1 q2 q3
        injection q1 with q4
        injection q4 with q5 q6
        subst q5 q6
        have o2 := hu2.rs.one
        ((repeat' first|refine kW ?_|refine kU fun bk=>?_|refine kV fun hc=>?_|refine kZ (fun hc=>?_) fun hc=>?_|fail) <;> try exact absurd trivial hc)
        refine OW_EV (EV_indexAddr (j := i - 1) rfl rfl (by omega) (by omega)) rfl ?_
        ((repeat' first|refine kW ?_|refine kU fun bk=>?_|refine kV fun hc=>?_|refine kZ (fun hc=>?_) fun hc=>?_|fail) <;> try exact absurd trivial hc)
        refine OW_EV (EV_load rfl hfn2.there.there hcell2) rfl ?_
        ((repeat' first|refine kW ?_|refine kU fun bk=>?_|refine kV fun hc=>?_|refine kZ (fun hc=>?_) fun hc=>?_|fail) <;> try exact absurd trivial hc)
        exact WQ_cut u2 hu2.there.there iS (fun w h => h)
    intro vf hvf
    obtain ⟨fa, fc, rfl⟩ := rs_val hvf.rs
    have l1 : (num p.length).length ≤ 3 := num_le 2 _ (by omega)
    have l2 : (num x.length).length ≤ 3 := num_le 2 _ (by omega)
    ((repeat' first|refine kW ?_|refine kU fun bk=>?_|refine kV fun hc=>?_|refine kZ (fun hc=>?_) fun hc=>?_|fail) <;> try exact absurd trivial hc)
    refine OW_EV (EV_indexAddr (j := i) rfl rfl rfl g1) rfl ?_
    ((repeat' first|refine kW ?_|refine kU fun bk=>?_|refine kV fun hc=>?_|refine kZ (fun hc=>?_) fun hc=>?_|fail) <;> try exact absurd trivial hc)
    refine OW_EV (EV_load rfl hfn.there.there hcell) rfl ?_
    ((repeat' first|refine kW ?_|refine kU fun bk=>?_|refine kV fun hc=>?_|refine kZ (fun hc=>?_) fun hc=>?_|fail) <;> try exact absurd trivial hc)
    refine OW_call rfl rfl rfl (dmake_n (.slice fa p.length fc) (.slice ua x.length uc) p x _ hvf hu.rs.there.there hm.there.there (by omega) (by omega)) rfl (fun r L' hp => ?_)
    obtain ⟨D, C4, ⟨hmk, hdl, _⟩, o4, rfl⟩ := hp
    obtain ⟨s1, s2, s3, _⟩ := szF_num (n := p.length) (m := x.length) D (by omega) (by omega)
    have e1 : apP p (num p.length ++ (num x.length ++ D)) (3000 : Int).toNat = (x, 0) := apP_mk (by omega) (by omega) hmk (by show x.length ≤ 3000; omega)
    obtain ⟨d, hd⟩ : ∃ d, d = num p.length ++ (num x.length ++ D) := ⟨_, rfl⟩
    have hdlen : d.length ≤ 100000 := by rw [hd, List.length_append, List.length_append]; omega
    rw [← hd] at o4 e1 s1 s2 s3
    obtain ⟨da, dc, rfl⟩ := ow_slc o4
    have hS := fun L h => Sizes_n (.slice da d.length dc) d L h (by omega)
    rw [s1, s2, s3] at hS
    have hA := fun L h1 h2 => dapply_n (.slice va p.length vc) (.slice da d.length dc) p d 3000 L h1 h2 (by omega) (by omega)
    rw [e1] at hA
    ((repeat' first|refine kW ?_|refine kU fun bk=>?_|refine kV fun hc=>?_|refine kZ (fun hc=>?_) fun hc=>?_|fail) <;> try exact absurd trivial hc)
    refine OW_callP rfl rfl rfl (hS _ (Rs.ow o4)) rfl ?_
    ((repeat' first|refine kW ?_|refine kU fun bk=>?_|refine kV fun hc=>?_|refine kZ (fun hc=>?_) fun hc=>?_|fail) <;> try exact absurd trivial hc)
    refine OW_call rfl rfl rfl (hA _ (Rs.ow ho).there.there (Rs.ow o4)) rfl (fun r L' hp => ?_)
    obtain ⟨v6, C6, rfl, o6, rfl⟩ := hp
    obtain ⟨xa, xc, rfl⟩ := ow_slc o6
    ((repeat' first|refine kW ?_|refine kU fun bk=>?_|refine kV fun hc=>?_|refine kZ (fun hc=>?_) fun hc=>?_|fail) <;> try exact absurd trivial hc)
    have hfn5 : Fnd (C6 :: C4 :: [(b0, cl [] 5)] :: C :: L) bb (.cells cc T fr) := hfn.there.there.there.there
    have hsx : Sl (C6 :: C4 :: [(b0, cl [] 5)] :: C :: L) 1 (.slice xa x.length xc) x.length (bsv x) := ow_sl o6
    have hsu : Sl (C6 :: C4 :: [(b0, cl [] 5)] :: C :: L) 1 (.slice ua x.length uc) x.length (bsv x) := hu.rs.there.there.there.there.sl
    refine WC_drawAll [] mixed ?_
    (refine WR_t 0 ?_; refine WR_t 1 ?_; refine WR_t 2 ?_)
    (refine WR_u 3 ?_; refine WR_u 4 ?_)
    (refine WR_t 5 ?_; refine WR_t 6 ?_)
    (refine WR_u 7 ?_; refine WR_u 8 ?_; refine WR_u 9 ?_; refine WR_u 10 ?_)
    rw [ne_self]
    (refine WR_t 11 ?_; refine WR_t 12 ?_)
    (refine WR_u 13 ?_; refine WR_u 14 ?_; refine WR_u 15 ?_)
    (refine WR_takeOn 16 rfl rfl rfl (by kernel_rfl) iP iC (EV_indexAddr (j := i) rfl rfl rfl g1) (by rfl) ?_)
    (refine WR_takeOn 17 rfl rfl rfl (by kernel_rfl) iP iC (EV_load rfl hfn5 hcell) (by rfl) ?_)
    (refine WR_u 18 ?_; refine WR_u 19 ?_)
    rw [ne_self]
    (refine WR_t 20 ?_; refine WR_t 21 ?_)
    (refine WR_u 22 ?_)
    (refine WR_takeOn 23 rfl rfl rfl (by kernel_rfl) iP iC (EV_convStr (b := x) rfl (by exact hsx)) (by rfl) ?_)
    (refine WR_u 24 ?_; refine WR_u 25 ?_)
    (refine WR_takeOn 26 rfl rfl rfl (by kernel_rfl) iP iC (EV_indexAddr (j := i) rfl rfl rfl g1) (by rfl) ?_)
    (refine WR_takeOn 27 rfl rfl rfl (by kernel_rfl) iP iC (EV_load rfl hfn5 hcell) (by rfl) ?_)
    (refine WR_takeOn 28 rfl rfl rfl (by kernel_rfl) iP iC (EV_convStr (b := x) rfl (by exact hsu)) (by rfl) ?_)
    (refine WR_u 29 ?_)
    rw [dec_eq]
    (refine WR_t 30 ?_)
    (refine WR_done (by kernel_rfl) ?_)
    ((repeat' first|refine kW ?_|refine kU fun bk=>?_|refine kV fun hc=>?_|refine kZ (fun hc=>?_) fun hc=>?_|fail) <;> try exact absurd trivial hc)
    refine WQ_round (X := Nat × List UInt8 × Value × Chunk) (μ := fun x => 10 - x.1) (x := (i, p, .slice va p.length vc, C)) (i + 1, x, .slice xa x.length xc, C6) (by simp only; omega) ⟨by simp only; omega, by simp only; omega, by simp only; omega, fun h => by simp at h, fun _ => hx, o6⟩ iS (fun w h => iH h)
  · ((repeat' first|refine kW ?_|refine kU fun bk=>?_|refine kV fun hc=>?_|refine kZ (fun hc=>?_) fun hc=>?_|fail) <;> try exact absurd trivial hc)
    all_goals
      refine OW_callP rfl rfl rfl (awake10_n _) rfl ?_
      ((repeat' first|refine kW ?_|refine kU fun bk=>?_|refine kV fun hc=>?_|refine kZ (fun hc=>?_) fun hc=>?_|fail) <;> try exact absurd trivial hc)
      exact kE
end Go.Proofs.Ytckelgpocplplaa
