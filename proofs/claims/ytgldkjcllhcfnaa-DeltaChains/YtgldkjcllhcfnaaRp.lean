/- DeltaNumbers' body. It proves no statement by itself. No conditions. -/
import Derived.Test.YtgldkjcllhcfnaaRo
namespace Go.Proofs.Ytgldkjcllhcfnaa
open Go Go.Vx Go.Dl
variable [W0]
set_option maxRecDepth 4000
set_option linter.all false
set_option maxHeartbeats 8000000 in
theorem deltanumbers_n (n m : Int) (L : List Chunk) (hn1 : -9223372036854775808 ≤ n) (hn : n ≤ 9223372036854775807) (hm1 : -9223372036854775808 ≤ m) (hm : m ≤ 9223372036854775807) :
    GvP Try.prog 5 [.int .i64 n, .int .i64 m].toArray L (.bool true) := by
  refine Gv.of_body (args := [.int .i64 n, .int .i64 m]) Try.func5 rfl rfl ?_
  have l1 : (num n.toNat).length ≤ 9 := num_le 8 _ (by omega)
  have l2 : (num m.toNat).length ≤ 9 := num_le 8 _ (by omega)
  (repeat' first|refine kW ?_|refine kU fun bk=>?_|refine kV fun hc=>?_|refine kZ (fun hc=>?_) fun hc=>?_|fail)
  refine OW_call rfl rfl rfl (number_n n L hn) rfl (fun r L' hp => ?_)
  obtain ⟨C1, rfl, o1⟩ := hp
  (repeat' first|refine kW ?_|refine kU fun bk=>?_|refine kV fun hc=>?_|refine kZ (fun hc=>?_) fun hc=>?_|fail)
  refine OW_call rfl rfl rfl (number_n m _ hm) rfl (fun r2 L' hp => ?_)
  obtain ⟨C2, rfl, o2⟩ := hp
  (repeat' first|refine kW ?_|refine kU fun bk=>?_|refine kV fun hc=>?_|refine kZ (fun hc=>?_) fun hc=>?_|fail)
  refine OW_append rfl rfl o1 (ow_sl o2) (by repeat (first | exact Zip.here _ | apply Zip.there)) rfl bsv_ones (by omega) (by simp [maxLen]; omega) rfl (fun v' C' ho' _ _ => ?_)
  rw [← bsv_append] at ho'
  have hl : (num n.toNat ++ num m.toNat).length = (num n.toNat).length + (num m.toNat).length := List.length_append
  rw [← hl] at ho'
  have hrs : Rs (C2 :: C' :: L) 1 v' (num n.toNat ++ num m.toNat).length (bsv (num n.toNat ++ num m.toNat)) := (Rs.ow ho').there
  obtain ⟨va, vc, rfl⟩ := ow_slc ho'
  have hS := Sizes_n _ (num n.toNat ++ num m.toNat) _ hrs (by omega)
  have hR := fun D => refsizes_n _ (num n.toNat ++ num m.toNat) (D ++ (C2 :: C' :: L)) (hrs.sub fun x hx => by simp only [List.flatten_append, List.mem_append]; exact .inr hx) (by omega)
  have q1 := szF_num (n := n.toNat) (m := m.toNat) []
  have q2 := szF_bad (n := n.toNat) (m := m.toNat) []
  have q3 := hd_num (n := n.toNat) (m := m.toNat) []
  have q4 := hd_bad (n := n.toNat) (m := m.toNat) []
  simp only [List.append_nil] at q1 q2 q3 q4
  (repeat' first|refine kW ?_|refine kU fun bk=>?_|refine kV fun hc=>?_|refine kZ (fun hc=>?_) fun hc=>?_|fail)
  refine OW_callP rfl rfl rfl hS rfl ?_
  (repeat' first|refine kW ?_|refine kU fun bk=>?_|refine kV fun hc=>?_|refine kZ (fun hc=>?_) fun hc=>?_|fail)
  refine WC_drawAll [] mixed ?_
  (refine WR_t 0 ?_; refine WR_t 3 ?_)
  (refine WR_one 1 (by kernel_rfl) rfl rfl ?_)
  refine OW_call rfl rfl rfl (number_n n _ hn) rfl (fun r3 L' hp => ?_)
  obtain ⟨C3, rfl, o3⟩ := hp
  refine ⟨iC, ?_⟩
  refine WR_more (C3 :: C2 :: C' :: L) iC ?_
  (refine WR_take 2 rfl rfl (by kernel_rfl) iP iC (EV_convStr (b := num n.toNat) rfl (by exact ow_sl o3)) (by rfl) ?_)
  (refine WR_one 4 (by kernel_rfl) rfl rfl ?_)
  refine OW_call rfl rfl rfl (refnumber_n n _ hn) rfl (fun r4 L' hp => ?_)
  obtain ⟨C4, rfl, o4⟩ := hp
  refine ⟨iC, ?_⟩
  refine WR_more (C4 :: C3 :: C2 :: C' :: L) iC ?_
  (refine WR_take 5 rfl rfl (by kernel_rfl) iP iC (EV_convStr (b := num n.toNat) rfl (by exact ow_sl o4)) (by rfl) ?_)
  (refine WR_t 6 ?_)
  (refine WR_done (by kernel_rfl) ?_)
  by_cases hg : 0 ≤ n ∧ 0 ≤ m ∧ n < 2147483648 ∧ m < 2147483648
  · obtain ⟨g1, g2, g3, g4⟩ := hg
    obtain ⟨e1, e2, e3, _⟩ := q1 (by omega) (by omega)
    rw [e1, e2, e3, show (n.toNat : Int) = n from by omega, show (m.toNat : Int) = m from by omega]
    ((repeat' first|refine kW ?_|refine kU fun bk=>?_|refine kV fun hc=>?_|refine kZ (fun hc=>?_) fun hc=>?_|fail) <;> try exact absurd trivial hc)
    refine OW_callP rfl rfl rfl (awake10_n _) rfl ?_
    ((repeat' first|refine kW ?_|refine kU fun bk=>?_|refine kV fun hc=>?_|refine kZ (fun hc=>?_) fun hc=>?_|fail) <;> try exact absurd trivial hc)
    exact kE
  · have hng : ¬ (n.toNat ≤ 2147483647 ∧ m.toNat ≤ 2147483647) ∨ (n.toNat ≤ 2147483647 ∧ m.toNat ≤ 2147483647) := by omega
    obtain ⟨f, t, e, p1, p2, p3, p4, p5, p6⟩ : ∃ f t e : Nat, szF (num n.toNat ++ num m.toNat) = f ∧ szT (num n.toNat ++ num m.toNat) = t ∧ szE (num n.toNat ++ num m.toNat) = e ∧ hdF (num n.toNat ++ num m.toNat) = f ∧ hdT (num n.toNat ++ num m.toNat) = t ∧ hdE (num n.toNat ++ num m.toNat) = e := by
      rcases hng with h | h
      · obtain ⟨a1, a2, a3⟩ := q2 h
        obtain ⟨b1, b2, b3⟩ := q4 h
        exact ⟨0, 0, 3, a2, a3, a1, b2, b3, b1⟩
      · obtain ⟨a1, a2, a3, _⟩ := q1 h.1 h.2
        obtain ⟨b1, b2, b3⟩ := q3 h.1 h.2
        exact ⟨_, _, 0, a2, a3, a1, b2, b3, b1⟩
    have hR := hR [C4, C3]
    rw [p4, p5, p6] at hR
    rw [p1, p2, p3]
    generalize hdU (num n.toNat ++ num m.toNat) = u at hR
    ((repeat' first|refine kW ?_|refine kU fun bk=>?_|refine kV fun hc=>?_|refine kZ (fun hc=>?_) fun hc=>?_|fail) <;> try exact absurd trivial hc)
    all_goals (try (exfalso; omega))
    all_goals
      refine OW_callP rfl rfl rfl hR rfl ?_
      ((repeat' first|refine kW ?_|refine kU fun bk=>?_|refine kV fun hc=>?_|refine kZ (fun hc=>?_) fun hc=>?_|fail) <;> try exact absurd trivial hc)
      refine OW_callP rfl rfl rfl (awake10_n _) rfl ?_
      ((repeat' first|refine kW ?_|refine kU fun bk=>?_|refine kV fun hc=>?_|refine kZ (fun hc=>?_) fun hc=>?_|fail) <;> try exact absurd trivial hc)
      exact kE
end Go.Proofs.Ytgldkjcllhcfnaa
