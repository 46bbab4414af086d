/- NameBack returns true and leaves its arguments as they were, for every argument; the table that the program reads is tied to its text (the card). No conditions beyond the row's. -/
import Derived.Test.YtehpnblbkldojaaDoorSE1
namespace Go.Proofs.YtehpnblbkldojaaDoor
open Go Go.Vx Go.Nm Go.Ob Go.Lib
set_option linter.all false
set_option maxRecDepth 4000
section
variable [W0]
theorem count1_n (s : List UInt8) (c : UInt8) (L : List Chunk) : GvP Tryd.prog 46 [.string (str s), .string (str [c])].toArray L (.int .i64 (s.count c : Nat)) := by
  refine Gv.of_body (args := [.string (str s), .string (str [c])]) Tryd.func46 rfl rfl ?_
  have z2 : (str [c]).size = 1 := rfl
  have e : Lib.countByte (str s).data.toList ((c.toNat : Int).toNat.toUInt8) = s.count c := by
    rw [Int.toNat_natCast, show c.toNat.toUInt8 = c from by simp]
    rfl
  (repeat' first|refine kW ?_|refine kU fun bk=>?_|refine kV fun hc=>?_|refine kZ (fun hc=>?_) fun hc=>?_|fail)
  refine OW_EV (EV_indexStr (j := 0) (u := c) rfl rfl rfl rfl) rfl ?_
  (repeat' first|refine kW ?_|refine kU fun bk=>?_|refine kV fun hc=>?_|refine kZ (fun hc=>?_) fun hc=>?_|fail)
  refine OW_EV (OW_extern (f := 57) (v := .int .i64 (s.count c : Nat)) rfl rfl Tryd.func57 (by kernel_rfl) (by kernel_rfl) (by kernel_rfl) rfl (fun w _ => by rw [← e]; exact Lib.run_countString (str s) (c.toNat : Int) w)) rfl ?_
  (repeat' first|refine kW ?_|refine kU fun bk=>?_|refine kV fun hc=>?_|refine kZ (fun hc=>?_) fun hc=>?_|fail)
  exact kE
set_option maxHeartbeats 4000000 in
theorem replace_nn (s x : List UInt8) (L : List Chunk) (hs : s.length ≤ 140737488351232) (hx : s.length + x.length ≤ 140737488355328) (hne : 42 ∈ s → 2 ≤ s.length + x.length) :
    GvP Tryd.prog 37 [.string (str s), .string (str [42]), .string (str x), .int .i64 1].toArray L (.string (str (rp1 s x))) := by
  have zs := str_size s
  have zx := str_size x
  have zo : (str [42]).size = 1 := rfl
  refine Gv.of_body (args := [.string (str s), .string (str [42]), .string (str x), .int .i64 1]) Tryd.func37 rfl rfl ?_
  have hcn := count1_n s 42 L
  by_cases hx42 : x = [42]
  · have e : rp1 s x = s := by
      rw [hx42]
      rcases star_cases s with h | ⟨u, v, rfl, hu⟩
      · rw [rp1_none h]
      · rw [rp1_app hu]; simp
    rw [e]
    have he : str [42] = str x := by rw [hx42]
    (repeat' first|refine kW ?_|refine kU fun bk=>?_|refine kV fun hc=>?_|refine kZ (fun hc=>?_) fun hc=>?_|fail)
    any_goals contradiction
    exact kE
  have hne2 : ¬ str [42] = str x := fun h => hx42 (str_inj.1 h).symm
  by_cases hm : 42 ∈ s
  rotate_left
  · rw [rp1_none hm]
    rw [List.count_eq_zero_of_not_mem hm] at hcn
    (repeat' first|refine kW ?_|refine kU fun bk=>?_|refine kV fun hc=>?_|refine kZ (fun hc=>?_) fun hc=>?_|fail)
    any_goals contradiction
    refine OW_callP rfl rfl rfl hcn rfl ?_
    (repeat' first|refine kW ?_|refine kU fun bk=>?_|refine kV fun hc=>?_|refine kZ (fun hc=>?_) fun hc=>?_|fail)
    exact kE
  obtain ⟨cn, hcn1⟩ : ∃ c, c = s.count 42 := ⟨_, rfl⟩
  have hcp : 1 ≤ cn := by rw [hcn1]; exact List.count_pos_iff.2 hm
  rw [← hcn1] at hcn
  clear hcn1
  obtain ⟨k, hk1, hk2, hk3⟩ : ∃ k, k < s.length ∧ ixS 42 s = (k : Int) ∧ rp1 s x = s.take k ++ x ++ s.drop (k + 1) := by
    rcases ix_cases 42 s with h | ⟨k, h1, h2, h3, h4⟩
    · exact absurd hm h.1
    · refine ⟨k, h1, h2, ?_⟩
      unfold rp1
      rw [h2, if_neg (by omega), Int.toNat_natCast]
  rw [hk3]
  have hlen := hne hm
  (repeat' first|refine kW ?_|refine kU fun bk=>?_|refine kV fun hc=>?_|refine kZ (fun hc=>?_) fun hc=>?_|fail)
  any_goals contradiction
  refine OW_callP rfl rfl rfl hcn rfl ?_
  (repeat' first|refine kW ?_|refine kU fun bk=>?_|refine kV fun hc=>?_|refine kZ (fun hc=>?_) fun hc=>?_|fail)
  obtain ⟨N, hN⟩ : ∃ N : Nat, N + 1 = s.length + x.length := ⟨s.length + x.length - 1, by omega⟩
  rw [show ((str s).size : Int) + 1 * (((str x).size : Int) - ((str [42]).size : Int)) = (N : Int) from by omega]
  revert bk; intro q
  refine OW_call rfl rfl rfl (Gv.take (bgrow_nn q N L (by omega) (by omega)) (by repeat (first | exact Take.here | apply Take.there))) rfl (fun r L' hp => ?_)
  obtain ⟨b, cs, rfl, c1, c2, rfl⟩ := hp
  have ho0 : OwG 5 (.slice (some ⟨b, 0, none⟩) 0 cs.length) 0 [] [(b, cl cs 5)] := .inr ⟨b, cs.length, cs, (0, 0), rfl, rfl, rfl, by simp, Nat.zero_le _, c2, FrOk.zero _⟩
  generalize (Value.slice (some ⟨b, 0, none⟩) 0 cs.length) = v0 at ho0 ⊢
  generalize [(b, cl cs 5)] = C0 at ho0 ⊢
  clear c1 c2
  (repeat' first|refine kW ?_|refine kU fun bk=>?_|refine kV fun hc=>?_|refine kZ (fun hc=>?_) fun hc=>?_|fail)
  refine WC_loop (X := Nat × Nat × List UInt8 × Value × Chunk) (fun y => [(0, .string (str s)), (1, .string (str [42])), (2, .string (str x)), (10, .pointer (some ⟨q, 0, none⟩)), (11, .int .i64 (y.2.1 : Int)), (52, .int .i64 1), (53, .int .i64 (y.1 : Int))])
    (fun y => y.2.2.2.2 :: bdC q (.pointer (some ⟨q, 0, none⟩)) y.2.2.2.1 :: L)
    (fun y => (y.1 = 0 ∧ y.2.1 = 0 ∧ y.2.2.1 = [] ∨ y.1 = 1 ∧ y.2.1 = k + 1 ∧ y.2.2.1 = s.take k ++ x) ∧ OwG 5 y.2.2.2.1 y.2.2.1.length (bsv y.2.2.1) y.2.2.2.2) (fun y => 1 - y.1) (0, 0, [], v0, C0) ⟨.inl ⟨rfl, rfl, rfl⟩, ho0⟩ iS (fun w h => h) ?_
  rintro ⟨i, st, l, v, C⟩ ⟨h1, h2⟩
  simp only at h1 h2 ⊢
  rcases h1 with ⟨rfl, rfl, rfl⟩ | ⟨rfl, rfl, rfl⟩
  · have hix := fun L' => index_n s 42 L'
    simp only [hk2] at hix
    have ltk : (s.take k).length = k := by rw [List.length_take]; omega
    (repeat' first|refine kW ?_|refine kU fun bk=>?_|refine kV fun hc=>?_|refine kZ (fun hc=>?_) fun hc=>?_|fail)
    refine OW_EV (EV_cutL s 0 s.length rfl (bnd_int rfl rfl) rfl (Nat.zero_le _) (Nat.le_refl _)) rfl ?_
    rw [List.drop_zero, List.take_of_length_le (l := s) (i := s.length - 0) (by omega)]
    (repeat' first|refine kW ?_|refine kU fun bk=>?_|refine kV fun hc=>?_|refine kZ (fun hc=>?_) fun hc=>?_|fail)
    refine OW_callP rfl rfl rfl (hix _) rfl ?_
    (repeat' first|refine kW ?_|refine kU fun bk=>?_|refine kV fun hc=>?_|refine kZ (fun hc=>?_) fun hc=>?_|fail)
    refine OW_EV (EV_cutL s 0 k rfl (bnd_int rfl rfl) (bnd_int rfl (by omega)) (Nat.zero_le _) (by omega)) rfl ?_
    rw [List.drop_zero, show s.take (k - 0) = s.take k from rfl]
    (repeat' first|refine kW ?_|refine kU fun bk=>?_|refine kV fun hc=>?_|refine kZ (fun hc=>?_) fun hc=>?_|fail)
    refine OW_call rfl rfl rfl (bwrite_n q v 0 [] (s.take k) C L h2 (by omega)) rfl (fun r L' hp => ?_)
    obtain ⟨v1, C1, rfl, ho1, rfl⟩ := hp
    rw [Nat.zero_add, List.nil_append] at ho1
    (repeat' first|refine kW ?_|refine kU fun bk=>?_|refine kV fun hc=>?_|refine kZ (fun hc=>?_) fun hc=>?_|fail)
    refine OW_call rfl rfl rfl (bwrite_n q v1 (s.take k).length (bsv (s.take k)) x C1 L ho1 (by omega)) rfl (fun r L' hp => ?_)
    obtain ⟨v2, C2, rfl, ho2, rfl⟩ := hp
    have ho3 : OwG 5 v2 (s.take k ++ x).length (bsv (s.take k ++ x)) C2 := by
      rw [List.length_append, show bsv (s.take k ++ x) = bsv (s.take k) ++ bsv x from by simp [bsv]]
      exact ho2
    (repeat' first|refine kW ?_|refine kU fun bk=>?_|refine kV fun hc=>?_|refine kZ (fun hc=>?_) fun hc=>?_|fail)
    exact WQ_round (X := Nat × Nat × List UInt8 × Value × Chunk) (μ := fun y => 1 - y.1) (x := (0, 0, [], v, C)) (1, k + 1, s.take k ++ x, v2, C2) (by simp) ⟨.inr ⟨rfl, rfl, rfl⟩, ho3⟩ iS (fun w h => h)
  · have ltk : (s.take k).length = k := by rw [List.length_take]; omega
    (repeat' first|refine kW ?_|refine kU fun bk=>?_|refine kV fun hc=>?_|refine kZ (fun hc=>?_) fun hc=>?_|fail)
    refine OW_EV (EV_cutL s (k + 1) s.length rfl (bnd_int rfl rfl) rfl (by omega) (Nat.le_refl _)) rfl ?_
    rw [List.take_of_length_le (l := s.drop (k + 1)) (by simp)]
    (repeat' first|refine kW ?_|refine kU fun bk=>?_|refine kV fun hc=>?_|refine kZ (fun hc=>?_) fun hc=>?_|fail)
    refine OW_call rfl rfl rfl (bwrite_n q v (s.take k ++ x).length (bsv (s.take k ++ x)) (s.drop (k + 1)) C L h2 (by rw [List.length_append, List.length_drop, ltk]; omega)) rfl (fun r L' hp => ?_)
    obtain ⟨v1, C1, rfl, ho1, rfl⟩ := hp
    have ho3 : OwG 5 v1 (s.take k ++ x ++ s.drop (k + 1)).length (bsv (s.take k ++ x ++ s.drop (k + 1))) C1 := by
      rw [List.length_append, show bsv (s.take k ++ x ++ s.drop (k + 1)) = bsv (s.take k ++ x) ++ bsv (s.drop (k + 1)) from by simp [bsv]]
      exact ho1
    have hl : (s.take k ++ x ++ s.drop (k + 1)).length + 1 = s.length + x.length := by
      rw [List.length_append, List.length_append, List.length_drop, ltk]; omega
    (repeat' first|refine kW ?_|refine kU fun bk=>?_|refine kV fun hc=>?_|refine kZ (fun hc=>?_) fun hc=>?_|fail)
    refine OW_call rfl rfl rfl (bstring_n q v1 (s.take k ++ x ++ s.drop (k + 1)) C1 L ho3 (fun e => by rw [e] at hl; simp at hl; omega) (by omega)) rfl (fun r L' hp => ?_)
    obtain ⟨rfl, rfl⟩ := hp
    (repeat' first|refine kW ?_|refine kU fun bk=>?_|refine kV fun hc=>?_|refine kZ (fun hc=>?_) fun hc=>?_|fail)
    exact kE
end
end Go.Proofs.YtehpnblbkldojaaDoor
namespace Go.Proofs.YtehpnblbkldojaaDoor
open Go Go.Vx Go.Nm Go.Ob Go.Lib
set_option linter.all false
set_option maxRecDepth 4000
section
variable [W0]
theorem fits_n (s : List UInt8) (L : List Chunk) (hb : UtAt L) (hs : s.length ≤ 140737488351232) : GvP Tryd.prog 34 [.string (str s)].toArray L (.bool (myN s).1) := by
  refine Gv.of_body (args := [.string (str s)]) Tryd.func34 rfl rfl ?_
  have hr := replace_nn s [120] L hs (by simp; omega) (fun h => by have := List.length_pos_of_mem h; simp; omega)
  have hv := nvalid_n (rp1 s [120]) L hb (by rw [rp1_len]; omega)
  rw [fits_my] at hv
  generalize rp1 s [120] = t at *
  (repeat' first|refine kW ?_|refine kU fun bk=>?_|refine kV fun hc=>?_|refine kZ (fun hc=>?_) fun hc=>?_|fail)
  refine OW_callP rfl rfl rfl hr rfl ?_
  (repeat' first|refine kW ?_|refine kU fun bk=>?_|refine kV fun hc=>?_|refine kZ (fun hc=>?_) fun hc=>?_|fail)
  refine OW_callP rfl rfl rfl hv rfl ?_
  (repeat' first|refine kW ?_|refine kU fun bk=>?_|refine kV fun hc=>?_|refine kZ (fun hc=>?_) fun hc=>?_|fail)
  exact kE
set_option maxHeartbeats 4000000 in
theorem pvalid_n (p : Sp) (L : List Chunk) (hb : UtAt L) (h1 : p.src.length ≤ 140737488351232) (h2 : p.dst.length ≤ 140737488351232) : GvP Tryd.prog 22 [.agg (spV p).toArray].toArray L (.bool (pvN p.src p.dst)) := by
  obtain ⟨f, a, b⟩ := p
  simp only at h1 h2
  refine Gv.of_body (args := [.agg (spV ⟨f, a, b⟩).toArray]) Tryd.func22 rfl rfl ?_
  unfold spV
  have ha := fun C => fits_n a (C :: L) hb.there h1
  have hd := fun C => fits_n b (C :: L) hb.there h2
  have ca := fun C => contains_n a 42 (C :: L)
  have cb := fun C => contains_n b 42 (C :: L)
  have hpv : pvN a b = ((decide (a = []) || (myN a).1) && (myN b).1 && decide (decide (42 ∈ a) = decide (42 ∈ b))) := rfl
  rw [show (⟨f, a, b⟩ : Sp).src = a from rfl, show (⟨f, a, b⟩ : Sp).dst = b from rfl, hpv]
  clear hpv
  generalize (myN a).1 = ma at *
  generalize (myN b).1 = mb at *
  generalize decide (42 ∈ a) = sa at *
  generalize decide (42 ∈ b) = sb at *
  have heq : ∀ x y : Bool, (x == y) = decide (x = y) := by decide
  (repeat' first|refine kW ?_|refine kU fun bk=>?_|refine kV fun hc=>?_|refine kZ (fun hc=>?_) fun hc=>?_|fail)
  revert bk; intro q
  by_cases e1 : a = []
  · rw [decide_eq_true e1, Bool.true_or, Bool.true_and]
    cases mb with
    | false =>
      refine WC_drawAll [] mixed ?_
      (refine WR_t 0 ?_; refine WR_t 1 ?_)
      (refine WR_take 2 rfl rfl (by kernel_rfl) iP iC (EV_eqT a [] e1 rfl rfl) (by rfl) ?_)
      (refine WR_t 3 ?_)
      (refine WR_v 4 ?_; refine WR_v 5 ?_; refine WR_v 6 ?_)
      (refine WR_t 7 ?_; refine WR_t 8 ?_)
      (refine WR_u 9 ?_; refine WR_u 10 ?_)
      (refine WR_oneOn 11 (by kernel_rfl) rfl rfl rfl ?_)
      refine OW_callP rfl rfl rfl (hd _) rfl ?_
      refine ⟨iC, ?_⟩
      (refine WR_t 12 ?_; refine WR_t 13 ?_)
      (refine WR_v 14 ?_; refine WR_v 15 ?_; refine WR_v 16 ?_; refine WR_v 17 ?_; refine WR_v 18 ?_; refine WR_v 19 ?_; refine WR_v 20 ?_)
      (refine WR_t 21 ?_; refine WR_t 22 ?_)
      (refine WR_done (by kernel_rfl) ?_)
      (repeat' first|refine kW ?_|refine kU fun bk=>?_|refine kV fun hc=>?_|refine kZ (fun hc=>?_) fun hc=>?_|fail)
      exact kE
    | true =>
      refine WC_drawAll [] mixed ?_
      (refine WR_t 0 ?_; refine WR_t 1 ?_)
      (refine WR_take 2 rfl rfl (by kernel_rfl) iP iC (EV_eqT a [] e1 rfl rfl) (by rfl) ?_)
      (refine WR_t 3 ?_)
      (refine WR_v 4 ?_; refine WR_v 5 ?_; refine WR_v 6 ?_)
      (refine WR_t 7 ?_; refine WR_t 8 ?_)
      (refine WR_u 9 ?_; refine WR_u 10 ?_)
      (refine WR_oneOn 11 (by kernel_rfl) rfl rfl rfl ?_)
      refine OW_callP rfl rfl rfl (hd _) rfl ?_
      refine ⟨iC, ?_⟩
      (refine WR_t 12 ?_; refine WR_t 13 ?_)
      (refine WR_u 14 ?_; refine WR_u 15 ?_)
      (refine WR_u 17 ?_; refine WR_u 18 ?_)
      (refine WR_oneOn 16 (by kernel_rfl) rfl rfl rfl ?_)
      refine OW_callP rfl rfl rfl (ca _) rfl ?_
      refine ⟨iC, ?_⟩
      (refine WR_oneOn 19 (by kernel_rfl) rfl rfl rfl ?_)
      refine OW_callP rfl rfl rfl (cb _) rfl ?_
      refine ⟨iC, ?_⟩
      (refine WR_takeOn 20 rfl rfl rfl (by kernel_rfl) iP iC (EV_boolEq rfl rfl) (by rfl) ?_)
      rw [heq]
      (refine WR_t 21 ?_; refine WR_t 22 ?_)
      (refine WR_done (by kernel_rfl) ?_)
      (repeat' first|refine kW ?_|refine kU fun bk=>?_|refine kV fun hc=>?_|refine kZ (fun hc=>?_) fun hc=>?_|fail)
      exact kE
  · rw [decide_eq_false e1, Bool.false_or]
    cases ma with
    | false =>
      rw [Bool.false_and, Bool.false_and]
      refine WC_drawAll [] mixed ?_
      (refine WR_t 0 ?_; refine WR_t 1 ?_)
      (refine WR_take 2 rfl rfl (by kernel_rfl) iP iC (EV_eqF a [] e1 rfl rfl) (by rfl) ?_)
      (refine WR_t 3 ?_)
      (refine WR_u 4 ?_; refine WR_u 5 ?_)
      (refine WR_oneOn 6 (by kernel_rfl) rfl rfl rfl ?_)
      refine OW_callP rfl rfl rfl (ha _) rfl ?_
      refine ⟨iC, ?_⟩
      (refine WR_t 7 ?_; refine WR_t 8 ?_)
      (refine WR_v 9 ?_; refine WR_v 10 ?_; refine WR_v 11 ?_)
      (refine WR_t 12 ?_; refine WR_t 13 ?_)
      (refine WR_v 14 ?_; refine WR_v 15 ?_; refine WR_v 16 ?_; refine WR_v 17 ?_; refine WR_v 18 ?_; refine WR_v 19 ?_; refine WR_v 20 ?_)
      (refine WR_t 21 ?_; refine WR_t 22 ?_)
      (refine WR_done (by kernel_rfl) ?_)
      (repeat' first|refine kW ?_|refine kU fun bk=>?_|refine kV fun hc=>?_|refine kZ (fun hc=>?_) fun hc=>?_|fail)
      exact kE
    | true =>
      rw [Bool.true_and]
      cases mb with
      | false =>
        refine WC_drawAll [] mixed ?_
        (refine WR_t 0 ?_; refine WR_t 1 ?_)
        (refine WR_take 2 rfl rfl (by kernel_rfl) iP iC (EV_eqF a [] e1 rfl rfl) (by rfl) ?_)
        (refine WR_t 3 ?_)
        (refine WR_u 4 ?_; refine WR_u 5 ?_)
        (refine WR_oneOn 6 (by kernel_rfl) rfl rfl rfl ?_)
        refine OW_callP rfl rfl rfl (ha _) rfl ?_
        refine ⟨iC, ?_⟩
        (refine WR_t 7 ?_; refine WR_t 8 ?_)
        (refine WR_u 9 ?_; refine WR_u 10 ?_)
        (refine WR_oneOn 11 (by kernel_rfl) rfl rfl rfl ?_)
        refine OW_callP rfl rfl rfl (hd _) rfl ?_
        refine ⟨iC, ?_⟩
        (refine WR_t 12 ?_; refine WR_t 13 ?_)
        (refine WR_v 14 ?_; refine WR_v 15 ?_; refine WR_v 16 ?_; refine WR_v 17 ?_; refine WR_v 18 ?_; refine WR_v 19 ?_; refine WR_v 20 ?_)
        (refine WR_t 21 ?_; refine WR_t 22 ?_)
        (refine WR_done (by kernel_rfl) ?_)
        (repeat' first|refine kW ?_|refine kU fun bk=>?_|refine kV fun hc=>?_|refine kZ (fun hc=>?_) fun hc=>?_|fail)
        exact kE
      | true =>
        refine WC_drawAll [] mixed ?_
        (refine WR_t 0 ?_; refine WR_t 1 ?_)
        (refine WR_take 2 rfl rfl (by kernel_rfl) iP iC (EV_eqF a [] e1 rfl rfl) (by rfl) ?_)
        (refine WR_t 3 ?_)
        (refine WR_u 4 ?_; refine WR_u 5 ?_)
        (refine WR_oneOn 6 (by kernel_rfl) rfl rfl rfl ?_)
        refine OW_callP rfl rfl rfl (ha _) rfl ?_
        refine ⟨iC, ?_⟩
        (refine WR_t 7 ?_; refine WR_t 8 ?_)
        (refine WR_u 9 ?_; refine WR_u 10 ?_)
        (refine WR_oneOn 11 (by kernel_rfl) rfl rfl rfl ?_)
        refine OW_callP rfl rfl rfl (hd _) rfl ?_
        refine ⟨iC, ?_⟩
        (refine WR_t 12 ?_; refine WR_t 13 ?_)
        (refine WR_u 14 ?_; refine WR_u 15 ?_)
        (refine WR_u 17 ?_; refine WR_u 18 ?_)
        (refine WR_oneOn 16 (by kernel_rfl) rfl rfl rfl ?_)
        refine OW_callP rfl rfl rfl (ca _) rfl ?_
        refine ⟨iC, ?_⟩
        (refine WR_oneOn 19 (by kernel_rfl) rfl rfl rfl ?_)
        refine OW_callP rfl rfl rfl (cb _) rfl ?_
        refine ⟨iC, ?_⟩
        (refine WR_takeOn 20 rfl rfl rfl (by kernel_rfl) iP iC (EV_boolEq rfl rfl) (by rfl) ?_)
        rw [heq]
        (refine WR_t 21 ?_; refine WR_t 22 ?_)
        (refine WR_done (by kernel_rfl) ?_)
        (repeat' first|refine kW ?_|refine kU fun bk=>?_|refine kV fun hc=>?_|refine kZ (fun hc=>?_) fun hc=>?_|fail)
        exact kE
end
end Go.Proofs.YtehpnblbkldojaaDoor
namespace Go.Nm
open Go Go.Lib
set_option linter.all false
def tgP (a d s : List UInt8) : List UInt8 × Bool :=
  if 42 ∈ a then
    if ((cuS 42 a).1.length ≤ s.length ∧ s.take (cuS 42 a).1.length = (cuS 42 a).1) ∧ endB (s.drop (cuS 42 a).1.length) (cuS 42 a).2.1 = true ∧ 42 ∉ (cuS 42 a).2.1 ∧ 42 ∈ d then
      (rp1 d ((s.drop (cuS 42 a).1.length).take ((s.drop (cuS 42 a).1.length).length - (cuS 42 a).2.1.length)), true)
    else ([], false)
  else (d, decide (s = a))
theorem tg_p (a d s : List UInt8) : tgN a d s = if (tgP a d s).2 = true then some (tgP a d s).1 else none := by
  unfold tgN tgP
  split
  · split
    · rfl
    · rfl
  · simp only [decide_eq_true_eq]
theorem pv_ge {a b : List UInt8} (h : pvN a b = true) : 2 ≤ b.length := by
  have h2 := (pv_parts h).2.1
  rw [← fits_my, vlN_ck, Bool.and_eq_true, Bool.and_eq_true, Bool.and_eq_true, decide_eq_true_eq, decide_eq_true_eq] at h2
  have := h2.2.2.1.1
  rw [rp1_len] at this
  omega
theorem rp1_le (s x : List UInt8) : (rp1 s x).length ≤ s.length + x.length := by
  unfold rp1
  split
  · omega
  · simp only [List.length_append, List.length_take, List.length_drop]
    omega
theorem tgP_le (a d s : List UInt8) : (tgP a d s).1.length ≤ d.length + s.length := by
  unfold tgP
  split
  · split
    · refine Nat.le_trans (rp1_le _ _) ?_
      simp only [List.length_take, List.length_drop]
      omega
    · simp
  · simp
theorem mp_tg (f : Bool) (a d s : List UInt8) (h : pvN a d = true) : mpN ⟨f, a, d⟩ s = if (tgP a d s).2 = true ∧ vlN (tgP a d s).1 = true then some (tgP a d s).1 else none := by
  rw [mp_prog f a d s h, tg_p]
  generalize (tgP a d s).1 = y
  generalize (tgP a d s).2 = b
  cases b <;> cases hv : vlN y <;> simp [hv]
end Go.Nm
namespace Go.Proofs.YtehpnblbkldojaaDoor
open Go Go.Vx Go.Nm Go.Ob Go.Lib
set_option linter.all false
set_option maxRecDepth 4000
section
variable [W0]
set_option maxHeartbeats 4000000 in
theorem ntext_n (p : Sp) (L : List Chunk) (h1 : p.src.length ≤ 1000000) (h2 : p.dst.length ≤ 1000000) : GvP Tryd.prog 18 [.agg (spV p).toArray].toArray L (.string (str (txN p))) := by
  obtain ⟨f, a, b⟩ := p
  simp only at h1 h2
  refine Gv.of_body (args := [.agg (spV ⟨f, a, b⟩).toArray]) Tryd.func18 rfl rfl ?_
  unfold spV
  (repeat' first|refine kW ?_|refine kU fun bk=>?_|refine kV fun hc=>?_|refine kZ (fun hc=>?_) fun hc=>?_|fail)
  revert bk; intro q
  refine OW_EV (EV_catL a [58] rfl rfl (by simp only [List.length_cons, List.length_nil]; omega)) rfl ?_
  (repeat' first|refine kW ?_|refine kU fun bk=>?_|refine kV fun hc=>?_|refine kZ (fun hc=>?_) fun hc=>?_|fail)
  refine OW_EV (EV_catL (a ++ [58]) b rfl rfl (by simp only [List.length_append, List.length_cons, List.length_nil]; omega)) rfl ?_
  cases f with
  | true =>
    (repeat' first|refine kW ?_|refine kU fun bk=>?_|refine kV fun hc=>?_|refine kZ (fun hc=>?_) fun hc=>?_|fail)
    refine OW_EV (EV_catL [43] (a ++ [58] ++ b) rfl rfl (by simp only [List.length_append, List.length_cons, List.length_nil]; omega)) rfl ?_
    (repeat' first|refine kW ?_|refine kU fun bk=>?_|refine kV fun hc=>?_|refine kZ (fun hc=>?_) fun hc=>?_|fail)
    exact kE
  | false =>
    (repeat' first|refine kW ?_|refine kU fun bk=>?_|refine kV fun hc=>?_|refine kZ (fun hc=>?_) fun hc=>?_|fail)
    exact kE
theorem cut0_n (s : List UInt8) (c : UInt8) (L : List Chunk) (hs : s.length ≤ 9223372036854775000) : GvP Tryd.prog 33 [.string (str s), .string (str [c])].toArray L (.tuple #[.string (str (cuS c s).1), .string (str (cuS c s).2.1), .bool (cuS c s).2.2]) := by
  refine Gv.of_body (args := [.string (str s), .string (str [c])]) Tryd.func33 rfl rfl ?_
  have z1 : (str s).size = s.length := str_size s
  have z2 : (str [c]).size = 1 := rfl
  have hi := index0_n s c L
  rcases ix_cases c s with ⟨h1, h2⟩ | ⟨k, h1, h2, h3, h4⟩
  · rw [cu_none h1]
    rw [h2] at hi
    (repeat' first|refine kW ?_|refine kU fun bk=>?_|refine kV fun hc=>?_|refine kZ (fun hc=>?_) fun hc=>?_|fail)
    refine OW_callP rfl rfl rfl hi rfl ?_
    (repeat' first|refine kW ?_|refine kU fun bk=>?_|refine kV fun hc=>?_|refine kZ (fun hc=>?_) fun hc=>?_|fail)
    exact kE
  · have e : cuS c s = (s.take k, s.drop (k + 1), true) := by
      unfold cuS
      rw [h2, if_neg (by omega), Int.toNat_natCast]
    rw [e]
    rw [h2] at hi
    clear e
    (repeat' first|refine kW ?_|refine kU fun bk=>?_|refine kV fun hc=>?_|refine kZ (fun hc=>?_) fun hc=>?_|fail)
    refine OW_callP rfl rfl rfl hi rfl ?_
    (repeat' first|refine kW ?_|refine kU fun bk=>?_|refine kV fun hc=>?_|refine kZ (fun hc=>?_) fun hc=>?_|fail)
    refine WC_drawAll [] mixed ?_
    (refine WR_t 0 ?_; refine WR_t 1 ?_)
    (refine WR_take 2 rfl rfl (by kernel_rfl) iP iC (EV_cutL s 0 k rfl rfl (bnd_int rfl rfl) (Nat.zero_le _) (by omega)) (by rfl) ?_)
    rw [List.drop_zero, Nat.sub_zero]
    (refine WR_t 3 ?_; refine WR_t 4 ?_; refine WR_t 5 ?_; refine WR_t 6 ?_; refine WR_t 7 ?_)
    (refine WR_take 8 rfl rfl (by kernel_rfl) iP iC (EV_cutL s (k + 1) s.length rfl (bnd_int rfl (by omega)) rfl (by omega) (Nat.le_refl _)) (by rfl) ?_)
    rw [List.take_of_length_le (l := s.drop (k + 1)) (by simp)]
    (refine WR_t 9 ?_; refine WR_t 10 ?_; refine WR_t 11 ?_)
    (refine WR_done (by kernel_rfl) ?_)
    (repeat' first|refine kW ?_|refine kU fun bk=>?_|refine kV fun hc=>?_|refine kZ (fun hc=>?_) fun hc=>?_|fail)
    exact kE
theorem cut_n (s : List UInt8) (c : UInt8) (L : List Chunk) (hs : s.length ≤ 9223372036854775000) : GvP Tryd.prog 21 [.string (str s), .string (str [c])].toArray L (.tuple #[.string (str (cuS c s).1), .string (str (cuS c s).2.1), .bool (cuS c s).2.2]) := by
  refine Gv.of_body (args := [.string (str s), .string (str [c])]) Tryd.func21 rfl rfl ?_
  have h := cut0_n s c L hs
  generalize cuS c s = r at *
  (repeat' first|refine kW ?_|refine kU fun bk=>?_|refine kV fun hc=>?_|refine kZ (fun hc=>?_) fun hc=>?_|fail)
  refine OW_callP rfl rfl rfl h rfl ?_
  (repeat' first|refine kW ?_|refine kU fun bk=>?_|refine kV fun hc=>?_|refine kZ (fun hc=>?_) fun hc=>?_|fail)
  exact kE
omit [W0] in
theorem pl_cut (s : List UInt8) : (if [43].length ≤ s.length ∧ s.take [43].length = [43] then Value.tuple #[.string (str (s.drop [43].length)), .bool true] else .tuple #[.string (str s), .bool false]) = .tuple #[.string (str (plN s).2), .bool (plN s).1] := by
  rcases pl_cases s with ⟨r, rfl, e⟩ | ⟨e, h⟩
  · rw [e, if_pos (by simp)]
    rfl
  · rw [e, if_neg]
    rintro ⟨h1, h2⟩
    rcases s with _ | ⟨c, r⟩
    · simp at h1
    · exact h c r rfl (by simpa using h2)
omit [W0] in
theorem cu_le (c : UInt8) (u : List UInt8) : (cuS c u).1.length ≤ u.length ∧ (cuS c u).2.1.length ≤ u.length := by
  unfold cuS
  split
  · exact ⟨Nat.le_refl _, by simp⟩
  · exact ⟨by simp; omega, by simp⟩
set_option maxHeartbeats 8000000 in
theorem nparse_n (s : List UInt8) (L : List Chunk) (hb : UtAt L) (hs : s.length ≤ 140737488351232) : GvP Tryd.prog 8 [.string (str s)].toArray L (match psN s with | some p => .tuple #[.agg (spV p).toArray, .int .i64 0] | none => .tuple #[.agg (spV ⟨false, [], []⟩).toArray, .int .i64 3]) := by
  refine Gv.of_body (args := [.string (str s)]) Tryd.func8 rfl rfl ?_
  have hcp : ∀ L, GvP Tryd.prog 20 [.string (str s), .string (str [43])].toArray L (.tuple #[.string (str (plN s).2), .bool (plN s).1]) := fun L => by
    rw [← pl_cut]
    exact cutprefix_n s [43] L (by omega) (by decide)
  rw [ps_prog]
  have hul : (plN s).2.length ≤ s.length := by
    rcases pl_cases s with ⟨r, rfl, e⟩ | ⟨e, h⟩
    · rw [e]; simp
    · rw [e]; exact Nat.le_refl _
  generalize (plN s).1 = fo at *
  generalize (plN s).2 = u at *
  have hcu := fun L => cut_n u 58 L (by omega)
  obtain ⟨l1, l2⟩ := cu_le 58 u
  obtain ⟨a, ha⟩ : ∃ a, a = (cuS 58 u).1 := ⟨_, rfl⟩
  obtain ⟨b, hb0⟩ : ∃ b, b = (cuS 58 u).2.1 := ⟨_, rfl⟩
  obtain ⟨tw, htw⟩ : ∃ t, t = (cuS 58 u).2.2 := ⟨_, rfl⟩
  rw [← ha, ← hb0, ← htw] at hcu
  rw [← ha, ← hb0, ← htw]
  rw [← ha] at l1
  rw [← hb0] at l2
  clear ha hb0 htw
  obtain ⟨d, hd⟩ : ∃ d, d = (if tw = true then b else a) := ⟨_, rfl⟩
  rw [← hd]
  have ld : d.length ≤ u.length := by rw [hd]; split <;> assumption
  have hpv : ∀ L (h : UtAt L), GvP Tryd.prog 22 [.agg (spV ⟨fo, a, d⟩).toArray].toArray L (.bool (pvN a d)) := fun L h => pvalid_n ⟨fo, a, d⟩ L h (by simp only; omega) (by simp only; omega)
  refine WC_seq ?_
  (repeat' first|refine kY ?_|refine kU fun bk=>?_|refine kV fun hc=>?_|refine kZ (fun hc=>?_) fun hc=>?_|fail)
  revert bk; intro r
  refine WC_seq ?_
  (repeat' first|refine kY ?_|refine kU fun bk=>?_|refine kV fun hc=>?_|refine kZ (fun hc=>?_) fun hc=>?_|fail)
  refine OW_callP rfl rfl rfl (hcp _) rfl ?_
  (repeat' first|refine kY ?_|refine kU fun bk=>?_|refine kV fun hc=>?_|refine kZ (fun hc=>?_) fun hc=>?_|fail)
  refine WC_seq ?_
  (repeat' first|refine kY ?_|refine kU fun bk=>?_|refine kV fun hc=>?_|refine kZ (fun hc=>?_) fun hc=>?_|fail)
  refine OW_callP rfl rfl rfl (hcu _) rfl ?_
  (repeat' first|refine kY ?_|refine kU fun bk=>?_|refine kV fun hc=>?_|refine kZ (fun hc=>?_) fun hc=>?_|fail)
  refine WC_cut (X := Unit) (fun _ => [(2, .pointer (some ⟨r, 0, none⟩)), (3, .int .i64 0), (4, .string (str a)), (5, .bool fo), (6, .string (str d))]) (fun _ => [(r, cl [.bool false, .string (str []), .string (str [])] 25)] :: L) (fun _ => True) ?_ ?_
  · cases tw with
    | true =>
      rw [if_pos rfl] at hd
      subst hd
      (repeat' first|refine kW ?_|refine kU fun bk=>?_|refine kV fun hc=>?_|refine kZ (fun hc=>?_) fun hc=>?_|fail)
      exact WQ_cut () trivial iS (fun w h => h)
    | false =>
      rw [if_neg Bool.false_ne_true] at hd
      subst hd
      (repeat' first|refine kW ?_|refine kU fun bk=>?_|refine kV fun hc=>?_|refine kZ (fun hc=>?_) fun hc=>?_|fail)
      exact WQ_cut () trivial iS (fun w h => h)
  intro _ _
  clear hd hcp hcu
  cases hv : pvN a d with
  | true =>
    simp only [hv] at hpv
    rw [if_pos rfl]
    (repeat' first|refine kW ?_|refine kU fun bk=>?_|refine kV fun hc=>?_|refine kZ (fun hc=>?_) fun hc=>?_|fail)
    revert bk; intro q
    refine OW_callP rfl rfl rfl (hpv _ hb.there.there) rfl ?_
    (repeat' first|refine kW ?_|refine kU fun bk=>?_|refine kV fun hc=>?_|refine kZ (fun hc=>?_) fun hc=>?_|fail)
    first
      | (refine WQ_retC (vs := [.agg (spV ⟨fo, a, d⟩).toArray, .int .i64 0]) rfl (.agg ⟨by kernel_rfl, by kernel_rfl⟩ rfl (RdAt.cl' (vs := spV ⟨fo, a, d⟩) (by repeat (first | assumption | exact Fnd.here | refine Fnd.there ?_)) rfl) rfl (.tmp rfl .nil)) ?_
         exact ⟨_, fun w h => h.drop.drop, rfl, rfl⟩)
      | (refine WQ_endC (vs := [.agg (spV ⟨fo, a, d⟩).toArray, .int .i64 0]) rfl (.agg ⟨by kernel_rfl, by kernel_rfl⟩ rfl (RdAt.cl' (vs := spV ⟨fo, a, d⟩) (by repeat (first | assumption | exact Fnd.here | refine Fnd.there ?_)) rfl) rfl (.tmp rfl .nil)) ?_
         exact ⟨_, fun w h => h.drop.drop, rfl, rfl⟩)
  | false =>
    simp only [hv] at hpv
    rw [if_neg Bool.false_ne_true]
    (repeat' first|refine kW ?_|refine kU fun bk=>?_|refine kV fun hc=>?_|refine kZ (fun hc=>?_) fun hc=>?_|fail)
    revert bk; intro q
    refine OW_callP rfl rfl rfl (hpv _ hb.there.there) rfl ?_
    (repeat' first|refine kW ?_|refine kU fun bk=>?_|refine kV fun hc=>?_|refine kZ (fun hc=>?_) fun hc=>?_|fail)
    first
      | (refine WQ_retC (vs := [.agg (spV ⟨false, [], []⟩).toArray, .int .i64 3]) rfl (.agg ⟨by kernel_rfl, by kernel_rfl⟩ rfl (RdAt.cl' (vs := spV ⟨false, [], []⟩) (by repeat (first | assumption | exact Fnd.here | refine Fnd.there ?_)) rfl) rfl (.tmp rfl .nil)) ?_
         exact ⟨_, fun w h => h.drop.drop, rfl, rfl⟩)
      | (refine WQ_endC (vs := [.agg (spV ⟨false, [], []⟩).toArray, .int .i64 3]) rfl (.agg ⟨by kernel_rfl, by kernel_rfl⟩ rfl (RdAt.cl' (vs := spV ⟨false, [], []⟩) (by repeat (first | assumption | exact Fnd.here | refine Fnd.there ?_)) rfl) rfl (.tmp rfl .nil)) ?_
         exact ⟨_, fun w h => h.drop.drop, rfl, rfl⟩)
set_option maxHeartbeats 8000000 in
theorem ntarget_n (p : Sp) (s : List UInt8) (L : List Chunk) (hb : UtAt L) (h1 : p.src.length ≤ 140737488351232) (h2 : p.dst.length ≤ 4000) (h4 : 2 ≤ p.dst.length) (h3 : s.length ≤ 140737488351232) : GvP Tryd.prog 23 [.agg (spV p).toArray, .string (str s)].toArray L (.tuple #[.string (str (tgP p.src p.dst s).1), .bool (tgP p.src p.dst s).2]) := by
  obtain ⟨f, a, d⟩ := p
  simp only at h1 h2 h4 ⊢
  refine Gv.of_body (args := [.agg (spV ⟨f, a, d⟩).toArray, .string (str s)]) Tryd.func23 rfl rfl ?_
  unfold spV
  have hcu := fun L => cut_n a 42 L (by omega)
  by_cases g : 42 ∈ a
  rotate_left
  · rw [show tgP a d s = (d, decide (s = a)) from by unfold tgP; rw [if_neg g]]
    simp only [cu_none g] at hcu
    (repeat' first|refine kW ?_|refine kU fun bk=>?_|refine kV fun hc=>?_|refine kZ (fun hc=>?_) fun hc=>?_|fail)
    revert bk; intro q
    refine OW_callP rfl rfl rfl (hcu _) rfl ?_
    (repeat' first|refine kW ?_|refine kU fun bk=>?_|refine kV fun hc=>?_|refine kZ (fun hc=>?_) fun hc=>?_|fail)
    refine WC_drawAll [] mixed ?_
    (refine WR_t 0 ?_; refine WR_t 1 ?_; refine WR_t 2 ?_; refine WR_t 3 ?_; refine WR_t 4 ?_)
    (refine WR_take 5 rfl rfl (by kernel_rfl) iP iC (EV_eqL s a rfl rfl) (by rfl) ?_)
    (refine WR_t 6 ?_; refine WR_t 7 ?_)
    (refine WR_done (by kernel_rfl) ?_)
    (repeat' first|refine kW ?_|refine kU fun bk=>?_|refine kV fun hc=>?_|refine kZ (fun hc=>?_) fun hc=>?_|fail)
    exact kE
  obtain ⟨l1, l2⟩ := cu_le 42 a
  have htw : (cuS 42 a).2.2 = true := by
    rcases ix_cases 42 a with h | ⟨k, k1, k2, k3, k4⟩
    · exact absurd g h.1
    · unfold cuS
      rw [k2, if_neg (by omega)]
  have htg : tgP a d s = if ((cuS 42 a).1.length ≤ s.length ∧ s.take (cuS 42 a).1.length = (cuS 42 a).1) ∧ endB (s.drop (cuS 42 a).1.length) (cuS 42 a).2.1 = true ∧ 42 ∉ (cuS 42 a).2.1 ∧ 42 ∈ d then
      (rp1 d ((s.drop (cuS 42 a).1.length).take ((s.drop (cuS 42 a).1.length).length - (cuS 42 a).2.1.length)), true)
    else ([], false) := by
    unfold tgP
    rw [if_pos g]
  rw [htg]
  simp only [htw] at hcu
  clear htg htw
  generalize (cuS 42 a).1 = bg at *
  generalize (cuS 42 a).2.1 = en at *
  have hcp := fun L => cutprefix_n s bg L (by omega) (by omega)
  by_cases c1 : bg.length ≤ s.length ∧ s.take bg.length = bg
  rotate_left
  · simp only [if_neg c1] at hcp
    rw [if_neg (fun w => c1 w.1)]
    have hcs := fun L => cutsuffix_n s en L (by omega) (by omega)
    obtain ⟨y, z, hyz⟩ : ∃ y z, (if endB s en = true then Value.tuple #[.string (str (s.take (s.length - en.length))), .bool true] else .tuple #[.string (str s), .bool false]) = .tuple #[.string y, .bool z] := by
      split
      · exact ⟨_, _, rfl⟩
      · exact ⟨_, _, rfl⟩
    simp only [hyz] at hcs
    (repeat' first|refine kW ?_|refine kU fun bk=>?_|refine kV fun hc=>?_|refine kZ (fun hc=>?_) fun hc=>?_|fail)
    revert bk; intro q
    refine OW_callP rfl rfl rfl (hcu _) rfl ?_
    (repeat' first|refine kW ?_|refine kU fun bk=>?_|refine kV fun hc=>?_|refine kZ (fun hc=>?_) fun hc=>?_|fail)
    refine OW_callP rfl rfl rfl (hcp _) rfl ?_
    (repeat' first|refine kW ?_|refine kU fun bk=>?_|refine kV fun hc=>?_|refine kZ (fun hc=>?_) fun hc=>?_|fail)
    refine OW_callP rfl rfl rfl (hcs _) rfl ?_
    (repeat' first|refine kW ?_|refine kU fun bk=>?_|refine kV fun hc=>?_|refine kZ (fun hc=>?_) fun hc=>?_|fail)
    exact kE
  simp only [if_pos c1] at hcp
  obtain ⟨re, hre⟩ : ∃ re, re = s.drop bg.length := ⟨_, rfl⟩
  have lre : re.length ≤ s.length := by rw [hre]; simp
  rw [← hre]
  simp only [← hre] at hcp
  have hcs := fun L => cutsuffix_n re en L (by omega) (by omega)
  by_cases c2 : endB re en = true
  rotate_left
  · simp only [if_neg c2] at hcs
    rw [if_neg (fun w => c2 w.2.1)]
    (repeat' first|refine kW ?_|refine kU fun bk=>?_|refine kV fun hc=>?_|refine kZ (fun hc=>?_) fun hc=>?_|fail)
    revert bk; intro q
    refine OW_callP rfl rfl rfl (hcu _) rfl ?_
    (repeat' first|refine kW ?_|refine kU fun bk=>?_|refine kV fun hc=>?_|refine kZ (fun hc=>?_) fun hc=>?_|fail)
    refine OW_callP rfl rfl rfl (hcp _) rfl ?_
    (repeat' first|refine kW ?_|refine kU fun bk=>?_|refine kV fun hc=>?_|refine kZ (fun hc=>?_) fun hc=>?_|fail)
    refine OW_callP rfl rfl rfl (hcs _) rfl ?_
    (repeat' first|refine kW ?_|refine kU fun bk=>?_|refine kV fun hc=>?_|refine kZ (fun hc=>?_) fun hc=>?_|fail)
    exact kE
  simp only [if_pos c2] at hcs
  obtain ⟨mi, hmi⟩ : ∃ mi, mi = re.take (re.length - en.length) := ⟨_, rfl⟩
  have lmi : mi.length ≤ s.length := by rw [hmi]; simp; omega
  rw [← hmi]
  simp only [← hmi] at hcs
  have ce := fun L => contains_n en 42 L
  have cd := fun L => contains_n d 42 L
  by_cases c3 : 42 ∈ en
  · simp only [decide_eq_true c3] at ce
    rw [if_neg (fun w => w.2.2.1 c3)]
    (repeat' first|refine kW ?_|refine kU fun bk=>?_|refine kV fun hc=>?_|refine kZ (fun hc=>?_) fun hc=>?_|fail)
    revert bk; intro q
    refine OW_callP rfl rfl rfl (hcu _) rfl ?_
    (repeat' first|refine kW ?_|refine kU fun bk=>?_|refine kV fun hc=>?_|refine kZ (fun hc=>?_) fun hc=>?_|fail)
    refine OW_callP rfl rfl rfl (hcp _) rfl ?_
    (repeat' first|refine kW ?_|refine kU fun bk=>?_|refine kV fun hc=>?_|refine kZ (fun hc=>?_) fun hc=>?_|fail)
    refine OW_callP rfl rfl rfl (hcs _) rfl ?_
    (repeat' first|refine kW ?_|refine kU fun bk=>?_|refine kV fun hc=>?_|refine kZ (fun hc=>?_) fun hc=>?_|fail)
    refine OW_callP rfl rfl rfl (ce _) rfl ?_
    (repeat' first|refine kW ?_|refine kU fun bk=>?_|refine kV fun hc=>?_|refine kZ (fun hc=>?_) fun hc=>?_|fail)
    exact kE
  simp only [decide_eq_false c3] at ce
  by_cases c4 : 42 ∈ d
  rotate_left
  · simp only [decide_eq_false c4] at cd
    rw [if_neg (fun w => c4 w.2.2.2)]
    (repeat' first|refine kW ?_|refine kU fun bk=>?_|refine kV fun hc=>?_|refine kZ (fun hc=>?_) fun hc=>?_|fail)
    revert bk; intro q
    refine OW_callP rfl rfl rfl (hcu _) rfl ?_
    (repeat' first|refine kW ?_|refine kU fun bk=>?_|refine kV fun hc=>?_|refine kZ (fun hc=>?_) fun hc=>?_|fail)
    refine OW_callP rfl rfl rfl (hcp _) rfl ?_
    (repeat' first|refine kW ?_|refine kU fun bk=>?_|refine kV fun hc=>?_|refine kZ (fun hc=>?_) fun hc=>?_|fail)
    refine OW_callP rfl rfl rfl (hcs _) rfl ?_
    (repeat' first|refine kW ?_|refine kU fun bk=>?_|refine kV fun hc=>?_|refine kZ (fun hc=>?_) fun hc=>?_|fail)
    refine OW_callP rfl rfl rfl (ce _) rfl ?_
    (repeat' first|refine kW ?_|refine kU fun bk=>?_|refine kV fun hc=>?_|refine kZ (fun hc=>?_) fun hc=>?_|fail)
    refine OW_callP rfl rfl rfl (cd _) rfl ?_
    (repeat' first|refine kW ?_|refine kU fun bk=>?_|refine kV fun hc=>?_|refine kZ (fun hc=>?_) fun hc=>?_|fail)
    exact kE
  simp only [decide_eq_true c4] at cd
  rw [if_pos ⟨c1, c2, c3, c4⟩]
  have hrp := fun C => replace_nn d mi (C :: L) (by omega) (by omega) (fun _ => by omega)
  (repeat' first|refine kW ?_|refine kU fun bk=>?_|refine kV fun hc=>?_|refine kZ (fun hc=>?_) fun hc=>?_|fail)
  revert bk; intro q
  refine OW_callP rfl rfl rfl (hcu _) rfl ?_
  (repeat' first|refine kW ?_|refine kU fun bk=>?_|refine kV fun hc=>?_|refine kZ (fun hc=>?_) fun hc=>?_|fail)
  refine OW_callP rfl rfl rfl (hcp _) rfl ?_
  (repeat' first|refine kW ?_|refine kU fun bk=>?_|refine kV fun hc=>?_|refine kZ (fun hc=>?_) fun hc=>?_|fail)
  refine OW_callP rfl rfl rfl (hcs _) rfl ?_
  (repeat' first|refine kW ?_|refine kU fun bk=>?_|refine kV fun hc=>?_|refine kZ (fun hc=>?_) fun hc=>?_|fail)
  refine OW_callP rfl rfl rfl (ce _) rfl ?_
  (repeat' first|refine kW ?_|refine kU fun bk=>?_|refine kV fun hc=>?_|refine kZ (fun hc=>?_) fun hc=>?_|fail)
  refine OW_callP rfl rfl rfl (cd _) rfl ?_
  (repeat' first|refine kW ?_|refine kU fun bk=>?_|refine kV fun hc=>?_|refine kZ (fun hc=>?_) fun hc=>?_|fail)
  refine OW_callP rfl rfl rfl (hrp _) rfl ?_
  (repeat' first|refine kW ?_|refine kU fun bk=>?_|refine kV fun hc=>?_|refine kZ (fun hc=>?_) fun hc=>?_|fail)
  exact kE
theorem nmap_n (p : Sp) (s : List UInt8) (L : List Chunk) (hb : UtAt L) (hv : pvN p.src p.dst = true) (h3 : s.length ≤ 140737488351232) : GvP Tryd.prog 10 [.agg (spV p).toArray, .string (str s)].toArray L (match mpN p s with | some t => .tuple #[.string (str t), .bool true] | none => .tuple #[.string (str []), .bool false]) := by
  obtain ⟨f, a, d⟩ := p
  simp only at hv
  refine Gv.of_body (args := [.agg (spV ⟨f, a, d⟩).toArray, .string (str s)]) Tryd.func10 rfl rfl ?_
  have hl := pv_len hv
  have htg := fun C => ntarget_n ⟨f, a, d⟩ s (C :: L) hb.there (by simp only; omega) (by simp only; omega) (by simp only; exact pv_ge hv) h3
  have hle := tgP_le a d s
  rw [mp_tg f a d s hv]
  simp only at htg
  unfold spV at htg ⊢
  generalize (tgP a d s).1 = y at *
  generalize (tgP a d s).2 = b at *
  have hvy := fun C => nvalid_n y (C :: L) hb.there (by omega)
  cases b with
  | false =>
    rw [if_neg (fun w => Bool.noConfusion w.1)]
    (repeat' first|refine kW ?_|refine kU fun bk=>?_|refine kV fun hc=>?_|refine kZ (fun hc=>?_) fun hc=>?_|fail)
    revert bk; intro q
    refine OW_callP rfl rfl rfl (htg _) rfl ?_
    (repeat' first|refine kW ?_|refine kU fun bk=>?_|refine kV fun hc=>?_|refine kZ (fun hc=>?_) fun hc=>?_|fail)
    exact kE
  | true =>
  cases hy : vlN y with
  | false =>
    simp only [hy] at hvy
    rw [if_neg (fun w => Bool.noConfusion w.2)]
    (repeat' first|refine kW ?_|refine kU fun bk=>?_|refine kV fun hc=>?_|refine kZ (fun hc=>?_) fun hc=>?_|fail)
    revert bk; intro q
    refine OW_callP rfl rfl rfl (htg _) rfl ?_
    (repeat' first|refine kW ?_|refine kU fun bk=>?_|refine kV fun hc=>?_|refine kZ (fun hc=>?_) fun hc=>?_|fail)
    refine OW_callP rfl rfl rfl (hvy _) rfl ?_
    (repeat' first|refine kW ?_|refine kU fun bk=>?_|refine kV fun hc=>?_|refine kZ (fun hc=>?_) fun hc=>?_|fail)
    exact kE
  | true =>
    simp only [hy] at hvy
    rw [if_pos ⟨rfl, rfl⟩]
    (repeat' first|refine kW ?_|refine kU fun bk=>?_|refine kV fun hc=>?_|refine kZ (fun hc=>?_) fun hc=>?_|fail)
    revert bk; intro q
    refine OW_callP rfl rfl rfl (htg _) rfl ?_
    (repeat' first|refine kW ?_|refine kU fun bk=>?_|refine kV fun hc=>?_|refine kZ (fun hc=>?_) fun hc=>?_|fail)
    refine OW_callP rfl rfl rfl (hvy _) rfl ?_
    (repeat' first|refine kW ?_|refine kU fun bk=>?_|refine kV fun hc=>?_|refine kZ (fun hc=>?_) fun hc=>?_|fail)
    exact kE
end
end Go.Proofs.YtehpnblbkldojaaDoor
namespace Go.Proofs.YtehpnblbkldojaaDoor
open Go Go.Vx Go.Nm Go.Ob Go.Lib
set_option linter.all false
set_option maxRecDepth 4000
section
variable [W0]
theorem str_l14 (a : List UInt8) : (str a).toList = a := by rw [ByteArray.toList_eq]; rfl
theorem run_spE (x y : Sp) (w : World) : (Op.equalIn 10000 25 (.agg (spV x).toArray) (.agg (spV y).toArray)).run Tryd.prog w = .ok (decide (x = y)) w := by
  obtain ⟨k1, s1, d1⟩ := x
  obtain ⟨k2, s2, d2⟩ := y
  have e : (k1 == k2 && (s1 == s2 && d1 == d2)) = decide (Sp.mk k1 s1 d1 = Sp.mk k2 s2 d2) := by
    rw [Bool.eq_iff_iff]; simp
  have p0 : ∀ (k : Bool) (s d : List UInt8), (part 4 #[.bool k, .string (str s), .string (str d)] 0).run Tryd.prog w = .ok (.bool k) w := fun k s d => run_part_plain w (by kernel_rfl) rfl
  have p1 : ∀ (k : Bool) (s d : List UInt8), (part 9 #[.bool k, .string (str s), .string (str d)] 1).run Tryd.prog w = .ok (.string (str s)) w := fun k s d => run_part_plain w (by kernel_rfl) rfl
  have p2 : ∀ (k : Bool) (s d : List UInt8), (part 9 #[.bool k, .string (str s), .string (str d)] 2).run Tryd.prog w = .ok (.string (str d)) w := fun k s d => run_part_plain w (by kernel_rfl) rfl
  have q0 : ∀ a b : Bool, (Op.equalIn 9999 4 (.bool a) (.bool b)).run Tryd.prog w = .ok (a == b) w := fun a b => run_equalIn_bool w 9998 _ a b Tryd.underlying4
  have q1 : ∀ a b : List UInt8, (Op.equalIn 9999 9 (.string (str a)) (.string (str b))).run Tryd.prog w = .ok (a == b) w := fun a b => by
    rw [run_equalIn_string w 9998 _ _ _ Tryd.underlying9, str_l14, str_l14]
  show (Op.equalIn 10000 25 (.agg #[.bool k1, .string (str s1), .string (str d1)]) (.agg #[.bool k2, .string (str s2), .string (str d2)])).run Tryd.prog w = _
  rw [← e, show (10000 : Nat) = 9999 + 1 from rfl, run_equalIn_struct w 9999 _ _ _ (by kernel_rfl) (by kernel_rfl)]
  simp only [Program.fieldsOf, Tryd.underlying25, Op.eqFields]
  cases h1 : k1 == k2 <;> cases h2 : s1 == s2 <;> cases h3 : d1 == d2 <;> simp [p0, p1, p2, q0, q1, h1, h2, h3]
theorem EV_spE {n d : Nat} {M : List (Nat × Value)} {L : List Chunk} {x y : Operand} {ty u : TypeId} {ps : String} {af : Array Edge} {g : Option (Nat × Bool)} (a b : Sp) (hx : ev M x = some (.agg (spV a).toArray)) (hy : ev M y = some (.agg (spV b).toArray)) :
    EV Tryd.prog n ⟨some d, .binOp .eql 25 x y u, ty, ps, af, g⟩ M L d (.bool (decide (a = b))) :=
  ⟨rfl, fun c w ha _ => by
    have hg : ∀ w : World, (eqGuard .eql 25 x y (.agg (spV a).toArray) (.agg (spV b).toArray)).run Tryd.prog w = .ok () w := fun w => run_eqGuard_agg w .eql _ x y _ _ (by kernel_rfl)
    simp [execOp, ha.eval hx, ha.eval hy, hg, run_eql_struct, run_spE]⟩
def awS : List UInt8 := [43, 114, 101, 102, 115, 47, 104, 101, 97, 100, 115, 47, 42, 58, 114, 101, 102, 115, 47, 114, 101, 109, 111, 116, 101, 115, 47, 111, 47, 42]
def awP : Sp := ⟨true, [114, 101, 102, 115, 47, 104, 101, 97, 100, 115, 47, 42], [114, 101, 102, 115, 47, 114, 101, 109, 111, 116, 101, 115, 47, 111, 47, 42]⟩
def awN : List UInt8 := [114, 101, 102, 115, 47, 104, 101, 97, 100, 115, 47, 120, 47, 121]
def awT : List UInt8 := [114, 101, 102, 115, 47, 114, 101, 109, 111, 116, 101, 115, 47, 111, 47, 120, 47, 121]
def awA : List UInt8 := [114, 101, 102, 115, 47, 104, 101, 97, 100, 115, 47, 97]
def awB : List UInt8 := [114, 101, 102, 115, 47, 104, 101, 97, 100, 115, 47, 46, 97]
def awU : List UInt8 := [114, 101, 102, 115, 47, 97]
def awV : List UInt8 := [114, 101, 102, 115, 47, 97, 47, 98]
theorem aw_1 : psN awS = some awP := by kernel_rfl
theorem aw_2 : mpN awP awN = some awT := by kernel_rfl
theorem aw_3 : vlN awA = true := by kernel_rfl
theorem aw_4 : vlN awB = false := by kernel_rfl
theorem aw_5 : undB awU awV = true := by kernel_rfl
theorem aw_6 : pvN awP.src awP.dst = true := by kernel_rfl
set_option maxHeartbeats 4000000 in
theorem awake14_n (L : List Chunk) (hb : UtAt L) : GvP Tryd.prog 9 [].toArray L (.bool true) := by
  have h1 := nparse_n awS L hb (by decide)
  simp only [aw_1, spV] at h1
  have h2 := fun L' h => nmap_n awP awN L' h aw_6 (by decide)
  simp only [aw_2, spV] at h2
  have h3 := fun L' h => nvalid_n awA L' h (by decide)
  simp only [aw_3] at h3
  have h4 := fun L' h => nvalid_n awB L' h (by decide)
  simp only [aw_4] at h4
  have h5 := fun L' => nunder_n awU awV L' (by decide) (by decide)
  simp only [aw_5] at h5
  refine Gv.of_body (args := []) Tryd.func9 rfl rfl ?_
  (repeat' first|refine kW ?_|refine kU fun bk=>?_|refine kV fun hc=>?_|refine kZ (fun hc=>?_) fun hc=>?_|fail)
  refine OW_callP rfl rfl rfl h1 rfl ?_
  (repeat' first|refine kW ?_|refine kU fun bk=>?_|refine kV fun hc=>?_|refine kZ (fun hc=>?_) fun hc=>?_|fail)
  revert bk; intro q
  refine OW_callP rfl rfl rfl (h2 _ (by repeat (first | exact hb | apply UtAt.there))) rfl ?_
  (repeat' first|refine kW ?_|refine kU fun bk=>?_|refine kV fun hc=>?_|refine kZ (fun hc=>?_) fun hc=>?_|fail)
  refine OW_callP rfl rfl rfl (h3 _ (by repeat (first | exact hb | apply UtAt.there))) rfl ?_
  (repeat' first|refine kW ?_|refine kU fun bk=>?_|refine kV fun hc=>?_|refine kZ (fun hc=>?_) fun hc=>?_|fail)
  refine OW_callP rfl rfl rfl (h4 _ (by repeat (first | exact hb | apply UtAt.there))) rfl ?_
  (repeat' first|refine kW ?_|refine kU fun bk=>?_|refine kV fun hc=>?_|refine kZ (fun hc=>?_) fun hc=>?_|fail)
  refine OW_callP rfl rfl rfl (h5 _) rfl ?_
  (repeat' first|refine kW ?_|refine kU fun bk=>?_|refine kV fun hc=>?_|refine kZ (fun hc=>?_) fun hc=>?_|fail)
  exact kE
end
end Go.Proofs.YtehpnblbkldojaaDoor
namespace Go.Proofs.YtehpnblbkldojaaDoor
open Go Go.Vx Go.Nm Go.Ob Go.Lib
set_option linter.all false
set_option maxRecDepth 4000
section
variable [W0]
omit [W0] in
theorem ps_pv {s : List UInt8} {p : Sp} (h : psN s = some p) : pvN p.src p.dst = true := (ps_back h).2
set_option maxHeartbeats 8000000 in
theorem nameback_n (s t : List UInt8) (L : List Chunk) (hb : UtAt L) (hs : s.length ≤ 140737488351232) (ht : t.length ≤ 140737488351232) : GvP Tryd.prog 6 [.string (str s), .string (str t)].toArray L (.bool true) := by
  have h1 := nparse_n s L hb hs
  have haw := fun L' h => awake14_n L' h
  refine Gv.of_body (args := [.string (str s), .string (str t)]) Tryd.func6 rfl rfl ?_
  cases hp : psN s with
  | none =>
    simp only [hp, spV] at h1
    (repeat' first|refine kW ?_|refine kU fun bk=>?_|refine kV fun hc=>?_|refine kZ (fun hc=>?_) fun hc=>?_|fail)
    refine OW_callP rfl rfl rfl h1 rfl ?_
    (repeat' first|refine kW ?_|refine kU fun bk=>?_|refine kV fun hc=>?_|refine kZ (fun hc=>?_) fun hc=>?_|fail)
    revert bk; intro q1
    refine OW_EV (EV_spE ⟨false, [], []⟩ ⟨false, [], []⟩ rfl rfl) rfl ?_
    rw [show decide ((⟨false, [], []⟩ : Sp) = ⟨false, [], []⟩) = true from rfl]
    (repeat' first|refine kW ?_|refine kU fun bk=>?_|refine kV fun hc=>?_|refine kZ (fun hc=>?_) fun hc=>?_|fail)
    refine OW_callP rfl rfl rfl (haw _ (by repeat (first | exact hb | apply UtAt.there))) rfl ?_
    (repeat' first|refine kW ?_|refine kU fun bk=>?_|refine kV fun hc=>?_|refine kZ (fun hc=>?_) fun hc=>?_|fail)
    exact kE
  | some p =>
    have hv := ps_pv hp
    have hl := pv_len hv
    have hbk := (ps_back hp).1
    have ht1 := fun L' => ntext_n p L' (by omega) (by omega)
    have h2 := fun L' h => nparse_n (txN p) L' h (by
      unfold txN
      simp only [List.length_append]
      split <;> simp only [List.length_cons, List.length_nil] <;> omega)
    simp only [hp, spV] at h1
    simp only [hbk, spV] at h2
    simp only [spV] at ht1
    have hm1 := fun L' h => nmap_n p t L' h hv ht
    cases hm : mpN p t with
    | none =>
      simp only [hm, spV] at hm1
      (repeat' first|refine kW ?_|refine kU fun bk=>?_|refine kV fun hc=>?_|refine kZ (fun hc=>?_) fun hc=>?_|fail)
      refine OW_callP rfl rfl rfl h1 rfl ?_
      (repeat' first|refine kW ?_|refine kU fun bk=>?_|refine kV fun hc=>?_|refine kZ (fun hc=>?_) fun hc=>?_|fail)
      revert bk; intro q1
      refine OW_callP rfl rfl rfl (ht1 _) rfl ?_
      (repeat' first|refine kW ?_|refine kU fun bk=>?_|refine kV fun hc=>?_|refine kZ (fun hc=>?_) fun hc=>?_|fail)
      refine OW_callP rfl rfl rfl (h2 _ (by repeat (first | exact hb | apply UtAt.there))) rfl ?_
      (repeat' first|refine kW ?_|refine kU fun bk=>?_|refine kV fun hc=>?_|refine kZ (fun hc=>?_) fun hc=>?_|fail)
      revert bk; intro q2
      refine OW_callP rfl rfl rfl (hm1 _ (by repeat (first | exact hb | apply UtAt.there))) rfl ?_
      (repeat' first|refine kW ?_|refine kU fun bk=>?_|refine kV fun hc=>?_|refine kZ (fun hc=>?_) fun hc=>?_|fail)
      refine OW_EV (EV_spE p p rfl rfl) rfl ?_
      rw [decide_eq_true (rfl : p = p)]
      (repeat' first|refine kW ?_|refine kU fun bk=>?_|refine kV fun hc=>?_|refine kZ (fun hc=>?_) fun hc=>?_|fail)
      refine OW_callP rfl rfl rfl (haw _ (by repeat (first | exact hb | apply UtAt.there))) rfl ?_
      (repeat' first|refine kW ?_|refine kU fun bk=>?_|refine kV fun hc=>?_|refine kZ (fun hc=>?_) fun hc=>?_|fail)
      exact kE
    | some x =>
      have hvx := fun L' h => nvalid_n x L' h (by have := vl_len (mp_valid hm); omega)
      simp only [mp_valid hm] at hvx
      simp only [hm, spV] at hm1
      (repeat' first|refine kW ?_|refine kU fun bk=>?_|refine kV fun hc=>?_|refine kZ (fun hc=>?_) fun hc=>?_|fail)
      refine OW_callP rfl rfl rfl h1 rfl ?_
      (repeat' first|refine kW ?_|refine kU fun bk=>?_|refine kV fun hc=>?_|refine kZ (fun hc=>?_) fun hc=>?_|fail)
      revert bk; intro q1
      refine OW_callP rfl rfl rfl (ht1 _) rfl ?_
      (repeat' first|refine kW ?_|refine kU fun bk=>?_|refine kV fun hc=>?_|refine kZ (fun hc=>?_) fun hc=>?_|fail)
      refine OW_callP rfl rfl rfl (h2 _ (by repeat (first | exact hb | apply UtAt.there))) rfl ?_
      (repeat' first|refine kW ?_|refine kU fun bk=>?_|refine kV fun hc=>?_|refine kZ (fun hc=>?_) fun hc=>?_|fail)
      revert bk; intro q2
      refine OW_callP rfl rfl rfl (hm1 _ (by repeat (first | exact hb | apply UtAt.there))) rfl ?_
      (repeat' first|refine kW ?_|refine kU fun bk=>?_|refine kV fun hc=>?_|refine kZ (fun hc=>?_) fun hc=>?_|fail)
      refine OW_EV (EV_spE p p rfl rfl) rfl ?_
      rw [decide_eq_true (rfl : p = p)]
      (repeat' first|refine kW ?_|refine kU fun bk=>?_|refine kV fun hc=>?_|refine kZ (fun hc=>?_) fun hc=>?_|fail)
      refine OW_callP rfl rfl rfl (hvx _ (by repeat (first | exact hb | apply UtAt.there))) rfl ?_
      (repeat' first|refine kW ?_|refine kU fun bk=>?_|refine kV fun hc=>?_|refine kZ (fun hc=>?_) fun hc=>?_|fail)
      refine OW_callP rfl rfl rfl (haw _ (by repeat (first | exact hb | apply UtAt.there))) rfl ?_
      (repeat' first|refine kW ?_|refine kU fun bk=>?_|refine kV fun hc=>?_|refine kZ (fun hc=>?_) fun hc=>?_|fail)
      exact kE
end
end Go.Proofs.YtehpnblbkldojaaDoor
namespace Go.Proofs.YtehpnblbkldojaaDoor
open Go Go.Vx Go.ChangeShapes Go.WideShapes Go.ChangeAt Go.RowKit Go.Lib
set_option maxRecDepth 100000
set_option linter.all false
def laid14 : List (String × DataW Unit) := [("unicode/utf8.acceptRanges", Rows.laid_unicode_utf8_acceptRanges), ("unicode/utf8.first", Rows.laid_unicode_utf8_first)]
def nums14 (k : IntKind) : List (DataW Unit) → List Value
  | [] => []
  | .lit (.int _ z) :: r => .int k z :: nums14 k r
  | .agg [.lit (.int _ z), .lit (.int _ y)] :: r => .int k z :: .int k y :: nums14 k r
  | _ :: r => nums14 k r
def parts14 : DataW Unit → List (DataW Unit)
  | .agg l => l
  | _ => []
def tabAc : List Value := nums14 .u8 (parts14 Rows.laid_unicode_utf8_acceptRanges)
def tabFi : List Value := nums14 .u8 (parts14 Rows.laid_unicode_utf8_first)
theorem first_eq : Rows.laid_unicode_utf8_first = firstData := by kernel_rfl
theorem accept_eq : Rows.laid_unicode_utf8_acceptRanges (H := Unit) = acceptData := by kernel_rfl
theorem met_plain {W : World} (h : laidMetH Tryd.prog laid14 W) : laidMet Tryd.prog laid14 W := by
  have e : laid14.filter (fun x => x.2.handleName?.isSome) = [] := by kernel_rfl
  unfold laidMetH at h
  rw [e] at h
  exact h
theorem u8extra : U8Extra Tryd.prog sh_v_ren := ⟨by kernel_rfl, by kernel_rfl, by kernel_rfl, by kernel_rfl, by kernel_rfl, by kernel_rfl, by kernel_rfl⟩
theorem ut_met {W : World} (hL : laidMetH Tryd.prog laid14 W) [W0] : UtAt [blks W] := by
  obtain ⟨ps, hv, _⟩ := met_plain hL
  have r3 := LaidVars_reads hv "unicode/utf8.first" Rows.laid_unicode_utf8_first (by simp [laid14])
  have r4 := LaidVars_reads hv "unicode/utf8.acceptRanges" Rows.laid_unicode_utf8_acceptRanges (by simp [laid14])
  rw [first_eq] at r3
  rw [accept_eq] at r4
  have hut := utf8Tabs_of_readsT (U8Types.of196 sh_v) u8extra r3 r4
  have hkeep : ∀ w, Vx.Holds w [blks W] → ∀ k, k < W.heap.size → w.heap[k]? = W.heap[k]? := fun w hw k hk => by
    have hm : W.heap[k]? = some W.heap[k] := by simp [hk]
    rw [hm]
    exact hw.2.1 (k, W.heap[k]) (by simpa using blks_mem.2 hm)
  have hlt : ∀ {a : Addr} {v : Value}, W.cell? a = some v → a.block < W.heap.size := fun {a} {v} h => by
    rcases Nat.lt_or_ge a.block W.heap.size with h' | h'
    · exact h'
    · have : W.heap[a.block]? = none := by simp; omega
      simp [World.cell?, this] at h
  have hcell : ∀ w, Vx.Holds w [blks W] → ∀ {a : Addr} {v : Value}, W.cell? a = some v → w.cell? a = some v := fun w hw {a} {v} h => by
    have hb := hkeep w hw a.block (hlt h)
    rw [← h]
    unfold World.cell?
    rw [hb]
  exact ⟨fun w hw => ⟨fun c hc => hcell w hw (hut.1 c hc), fun i hi => ⟨hcell w hw (hut.2 i hi).1, hcell w hw (hut.2 i hi).2⟩⟩⟩
theorem reach_str14 {H : Type} {ts : List TypeId} {ds : List (DataW H)} (h : (DataW.weightsEach Tryd.prog ts ds).all (· ≤ reachBytes) = true) {j : Nat} {t : TypeId} {s : ByteArray} (ht : ts[j]? = some t) (hd : ds[j]? = some (.lit (.string s.data.toList))) : s.data.toList.length ≤ 140737488351232 := by
  have := sized_string h ht hd
  have h3 : reachBytes = 140737488351232 := rfl
  omega
end Go.Proofs.YtehpnblbkldojaaDoor
namespace Go.Proofs.YtehpnblbkldojaaDoor
open Go Go.Vx Go.Ob Go.ChangeShapes Go.WideShapes Go.ChangeAt Go.RowKit
set_option linter.all false
set_option maxRecDepth 4000
theorem top_row (H : Type) (enc : TypeId × Value → H) (W : World) (base : Nat) (args : Array Value) (ds gs : List (DataW H)) (before : List MemPlace)
    (hval : ∀ (j : Nat) t v, Tryd.f6.params[j]? = some t → args[j]? = some v → Value.okWide Tryd.prog W .any base t v)
    (hW : DataW.Whole enc Tryd.prog Tryd.f6.params.toList Rows.nameBackSpec.vars false W args.toList ds gs before)
    (hz : (DataW.weightsEach Tryd.prog (Tryd.f6.params.toList ++ Rows.nameBackSpec.plain.varTypes Tryd.prog) (ds ++ gs)).all (· ≤ reachBytes) = true) (hL : laidMetH Tryd.prog laid14 W) (hsh : W.ShapedOpen Tryd.prog) :
    Calls Tryd.prog 6 args W fun e W' => ∃ v, e = .returned v ∧ Rows.nameBackSpec.post enc Tryd.prog Tryd.f6 false true false false W args v W' := by
  have hW' := hW
  obtain ⟨p, q, hA0, hV, rfl, hfz, hnd⟩ := hW
  have hA : DataW.TrodAll enc Tryd.prog W 0 (fun _ => true) true Tryd.f6.params.toList args.toList ds p := hA0
  rw [Tryd.params6] at hA hval hz
  obtain ⟨v0, vs0, d0, ds0, p0, q0, hargs, rfl, rfl, h0, r0⟩ := trodAll_cons hA
  obtain ⟨v1, vs1, d1, ds1, p1, q1, rfl, rfl, rfl, h1, r1⟩ := trodAll_cons r0
  obtain ⟨rfl, rfl, rfl⟩ := trodAll_nil r1
  obtain rfl : args = #[v0, v1] := by cases args; simp_all
  obtain ⟨rfl, rfl⟩ := trodVars_none hV
  obtain ⟨t0, rfl, rfl, rfl, w0⟩ := ChangeMaps.open_string Tryd.underlying9 (hval 0 _ v0 rfl rfl) h0
  have r0s : t0.data.toList.length ≤ 140737488351232 := reach_str14 hz (j := 0) rfl rfl
  obtain ⟨t1, rfl, rfl, rfl, w1⟩ := ChangeMaps.open_string Tryd.underlying9 (hval 1 _ v1 rfl rfl) h1
  have r1s : t1.data.toList.length ≤ 140737488351232 := reach_str14 hz (j := 1) rfl rfl
  clear hA0
  have hc : Calls Tryd.prog 6 #[.string t0, .string t1] W fun e W' => e = .returned (.bool true) ∧ Kept W W' := by
    refine bridge (fun {i} => ?_)
    have ht := ut_met hL
    obtain ⟨s, rfl, hsl⟩ := str_of t0
    obtain ⟨t, rfl, htl⟩ := str_of t1
    rw [str_data] at r0s r1s
    exact nameback_n s t _ ht (by omega) (by omega)
  refine hc.mono fun e W' ⟨he, bel⟩ => ?_
  subst he
  exact ⟨_, rfl, _, _, _, [], _, [], hW', trodAll_mk1 (shut_bool Tryd.underlying4 _), (trodAll_cons_mk (ChangeMaps.shut_string Tryd.underlying9 w0) (trodAll_cons_mk (ChangeMaps.shut_string Tryd.underlying9 w1) trodAll_mk0)), rfl, bel.frame _, fun h => by cases h⟩
def putT (w : World) (g : Nat) (zs : List Value) : World := { w with heap := w.heap.modify g fun
      | .cells _ t frozen => .cells zs.toArray t frozen
      | o => o }
noncomputable def laidWorld (os : Os) : World :=
  putT (putT (World.holding Tryd.prog os ⟨#[], #[], []⟩) 1 tabAc) 0 tabFi
theorem laid_met (os : Os) : laidMet Tryd.prog Rows.nameBackRow.laid ((laidWorld os).forCall (fun _ _ => 0) ⟨#[], #[.string .empty, .string .empty], []⟩).memory :=
  laidMet_of_run' 8 (by kernel_rfl) (by kernel_rfl)
theorem reads (os : Os) {H : Type} (enc : TypeId × Value → H) : ∃ places, DataW.whole enc Tryd.prog ((laidWorld os).forCall (fun _ _ => 0) ⟨#[], #[.string .empty, .string .empty], []⟩).memory Tryd.f6.params.toList Rows.nameBackSpec.vars false #[.string .empty, .string .empty].toList 8 = some ([.lit (.string []), .lit (.string [])], [], places) :=
  ⟨[], by kernel_rfl⟩
set_option maxRecDepth 100000 in
theorem top_lifted (os : Os) (started : os.Started) (H : Type) (enc : TypeId × Value → H) (F : Stop.Interp) :
    ReturnsInHanded {} Tryd.checked os 6 .any ((OpenSpec.ofChange Rows.nameBackSpec).preRow enc Tryd.prog Tryd.f6 Rows.nameBackRow.domain false Rows.nameBackRow.laid) (((OpenSpec.ofChange Rows.nameBackSpec).at F).post enc Tryd.prog Tryd.f6 false true false false) := by
  obtain ⟨places, hx⟩ := reads os enc
  refine returnsInHanded_of_row (C := Tryd.checked) (s := (OpenSpec.ofChange Rows.nameBackSpec)) Tryd.own started (by kernel_rfl) Tryd.func6
    (witness_row_at (enc := enc) (C := Tryd.checked) false (laidWorld os) #[.string .empty, .string .empty] rfl (by kernel_rfl) (by kernel_rfl) (by kernel_rfl)
      (OpenSpec.preRow_of_cond 8 hx (by kernel_rfl) (fun k hk => by cases hk) (by kernel_rfl) (laid_met os))) ?_
  intro W base args ds gs before hval hW _ hcond hz hL hsh _
  exact top_row H enc W base args ds gs before hval hW hz hL hsh
theorem top_over : Rows.NameBackSaid :=
  OpenClaim.holds_of_cond 6 Tryd.f6 rfl rfl rfl rfl rfl rfl rfl ⟨rfl, rfl, rfl, rfl, rfl⟩ rfl rfl rfl rfl rfl (by kernel_rfl) Tryd.func6 (by kernel_rfl)
    (of_decide_eq_true (by kernel_rfl)) (by unfold Func.isWrapper; first | (rw [if_pos (by decide +kernel)]; kernel_rfl) | (rw [if_neg (by decide +kernel)]; exact ⟨rfl, rfl⟩))
    (fun os started H enc _ F => by rw [OpenClaim.pre_eq_preRow]; exact top_lifted os started H enc F)
theorem top_plain (f : FuncId) (fn : Func) (hf : Tryd.pinned.checked.prog.funcNamed "stemma/stemmalaw14.NameBack" = some f) (hfn : Tryd.pinned.checked.prog.funcs[f]? = some fn) :
    false = Tryd.pinned.checked.prog.looks [] ∧ ∀ (j : Nat) t, fn.params[j]? = some t → Tryd.pinned.checked.prog.wantsStandIn t = false := by
  obtain rfl : f = 6 := Option.some.inj ((show Tryd.prog.funcNamed "stemma/stemmalaw14.NameBack" = some 6 by kernel_rfl).symm.trans hf) |>.symm
  obtain rfl : fn = Tryd.f6 := (Option.some.inj (Tryd.func6.symm.trans hfn)).symm
  have all : (Tryd.f6.params.toList.all fun t => !Tryd.prog.wantsStandIn t) = true := by kernel_rfl
  refine ⟨by kernel_rfl, fun j t ht => ?_⟩
  have hm : t ∈ Tryd.f6.params.toList := by
    have := Array.mem_of_getElem? ht
    simpa using this
  have := List.all_eq_true.1 all t hm
  show Tryd.prog.wantsStandIn t = false
  simpa using this
theorem top_holds : Rows.NameBackCardSaid :=
  Claim7.holds_tied_plain_at .later [] _ _ _ _ top_over (fun _ h => by cases h) (by kernel_rfl) (fun _ h => by cases h) nameBack_row_tie rfl ⟨rfl, rfl⟩ (by kernel_rfl) rfl top_plain (by kernel_rfl)
end Go.Proofs.YtehpnblbkldojaaDoor
