/- DeltaMakes' body. It proves no statement by itself. No conditions. -/
import Derived.Test.YtckelgpocplplaaPg
import Derived.Test.YtckelgpocplplaaRo
namespace Go.Proofs.Ytckelgpocplplaa
open Go Go.Vx Go.Dl
variable [W0]
set_option maxRecDepth 4000
set_option linter.all false
set_option maxHeartbeats 8000000 in
theorem deltamakes_n (a1 : Option Addr) (c1 : Nat) (base : List UInt8) (a2 : Option Addr) (c2 : Nat) (t : List UInt8) (L : List Chunk) (hb : Rz L (.slice a1 base.length c1) base) (ht : Rs L 1 (.slice a2 t.length c2) t.length (bsv t)) (hm : MxAt L) :
    GvP Try.prog 4 [.slice a1 base.length c1, .slice a2 t.length c2].toArray L (.bool true) := by
  refine Gv.of_body (args := [.slice a1 base.length c1, .slice a2 t.length c2]) Try.func4 rfl rfl ?_
  by_cases hbig : 20000 < base.length ∨ 20000 < t.length
  · ((repeat' first|refine kW ?_|refine kU fun bk=>?_|refine kV fun hc=>?_|refine kZ (fun hc=>?_) fun hc=>?_|fail) <;> try exact absurd trivial hc)
    all_goals
      refine OW_callP rfl rfl rfl (awake10_n _) rfl ?_
      ((repeat' first|refine kW ?_|refine kU fun bk=>?_|refine kV fun hc=>?_|refine kZ (fun hc=>?_) fun hc=>?_|fail) <;> try exact absurd trivial hc)
      exact kE
  have hbl : base.length ≤ 20000 := by omega
  have htl : t.length ≤ 20000 := by omega
  have l1 : (num base.length).length ≤ 3 := num_le 2 _ (by omega)
  have l2 : (num t.length).length ≤ 3 := num_le 2 _ (by omega)
  ((repeat' first|refine kW ?_|refine kU fun bk=>?_|refine kV fun hc=>?_|refine kZ (fun hc=>?_) fun hc=>?_|fail) <;> try exact absurd trivial hc)
  refine OW_call rfl rfl rfl (dmake_n _ _ base t L hb ht hm (by omega) (by omega)) rfl (fun r L' hp => ?_)
  obtain ⟨D, C, ⟨hmk, hdl, _⟩, ho, rfl⟩ := hp
  have e1 : apP base (num base.length ++ (num t.length ++ D)) (t.length : Int).toNat = (t, 0) := apP_mk (by omega) (by omega) hmk (by omega)
  have e2 : apD base (num base.length ++ (num t.length ++ D)) (t.length : Int).toNat = (t, 0) := apD_mk (by omega) (by omega) hmk (by omega)
  obtain ⟨d, hd⟩ : ∃ d, d = num base.length ++ (num t.length ++ D) := ⟨_, rfl⟩
  have hdlen : d.length ≤ t.length + t.length / 127 + 14 := by rw [hd, List.length_append, List.length_append]; omega
  rw [← hd] at ho e1 e2
  obtain ⟨va, vc, rfl⟩ := ow_slc ho
  have hA := fun L h1 h2 => dapply_n (.slice a1 base.length c1) (.slice va d.length vc) base d (t.length : Int) L h1 h2 (by omega) (by omega)
  have hR := fun L h1 h2 => refapply_n (.slice a1 base.length c1) (.slice va d.length vc) base d (t.length : Int) L h1 h2 (by omega) (by omega)
  rw [e1] at hA
  rw [e2] at hR
  ((repeat' first|refine kW ?_|refine kU fun bk=>?_|refine kV fun hc=>?_|refine kZ (fun hc=>?_) fun hc=>?_|fail) <;> try exact absurd trivial hc)
  refine OW_call rfl rfl rfl (hA _ hb.rs.there (Rs.ow ho)) rfl (fun r L' hp => ?_)
  obtain ⟨v6, C6, rfl, o6, rfl⟩ := hp
  ((repeat' first|refine kW ?_|refine kU fun bk=>?_|refine kV fun hc=>?_|refine kZ (fun hc=>?_) fun hc=>?_|fail) <;> try exact absurd trivial hc)
  refine OW_call rfl rfl rfl (hR _ hb.rs.there.there (Rs.ow ho).there) rfl (fun r L' hp => ?_)
  obtain ⟨v7, C7, rfl, o7, rfl⟩ := hp
  ((repeat' first|refine kW ?_|refine kU fun bk=>?_|refine kV fun hc=>?_|refine kZ (fun hc=>?_) fun hc=>?_|fail) <;> try exact absurd trivial hc)
  refine OW_EV (EV_convStr (b := t) rfl (by exact sl_there (ow_sl o6))) rfl ?_
  ((repeat' first|refine kW ?_|refine kU fun bk=>?_|refine kV fun hc=>?_|refine kZ (fun hc=>?_) fun hc=>?_|fail) <;> try exact absurd trivial hc)
  refine OW_EV (EV_convStr (b := t) rfl (by exact ht.there.there.there.sl)) rfl ?_
  ((repeat' first|refine kW ?_|refine kU fun bk=>?_|refine kV fun hc=>?_|refine kZ (fun hc=>?_) fun hc=>?_|fail) <;> try exact absurd trivial hc)
  refine OW_EV (EV_convStr (b := t) rfl (by exact ow_sl o7)) rfl ?_
  ((repeat' first|refine kW ?_|refine kU fun bk=>?_|refine kV fun hc=>?_|refine kZ (fun hc=>?_) fun hc=>?_|fail) <;> try exact absurd trivial hc)
  refine OW_EV (EV_convStr (b := t) rfl (by exact ht.there.there.there.sl)) rfl ?_
  ((repeat' first|refine kW ?_|refine kU fun bk=>?_|refine kV fun hc=>?_|refine kZ (fun hc=>?_) fun hc=>?_|fail) <;> try exact absurd trivial hc)
  refine OW_EV (EV_quoN t.length 127 rfl rfl rfl rfl (by decide) (by omega)) rfl ?_
  ((repeat' first|refine kW ?_|refine kU fun bk=>?_|refine kV fun hc=>?_|refine kZ (fun hc=>?_) fun hc=>?_|fail) <;> try exact absurd trivial hc)
  refine OW_callP rfl rfl rfl (awake10_n _) rfl ?_
  ((repeat' first|refine kW ?_|refine kU fun bk=>?_|refine kV fun hc=>?_|refine kZ (fun hc=>?_) fun hc=>?_|fail) <;> try exact absurd trivial hc)
  exact kE
end Go.Proofs.Ytckelgpocplplaa
