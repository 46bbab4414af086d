/- What the statements of layer 10 fix; DeltaNumbers' body. It proves no statement by itself. No conditions. -/
import Derived.Test.YtckelgpocplplaaRn
import Derived.Test.YtckelgpocplplaaWb
namespace Go.Proofs.Ytckelgpocplplaa
open Go Go.Vx Go.Dl
variable [W0]
set_option maxRecDepth 4000
set_option linter.all false
omit [W0] in
def awD : List UInt8 := [3, 5, 145, 1, 2, 3, 120, 121, 122]
theorem awD_1 : apP [97, 98, 99] awD (Int.toNat 9) = ([98, 99, 120, 121, 122], 0) := by decide +kernel
theorem awD_2 : apP [97, 98, 99] [3, 1, 0] (Int.toNat 9) = ([], 3) := by decide +kernel
theorem awD_3 : num (Int.toNat 300) = [172, 2] := by
  rw [show Int.toNat 300 = 300 from rfl, num_big (by decide), num_small (by decide)]; rfl
theorem rs_lit {L : List Chunk} {b : Nat} {T : TypeId} {fr : Nat × Nat} (x : List UInt8) (hf : Fnd L b (.cells (bsv x).toArray T fr)) : Rs L 1 (.slice (some ⟨b, 0, none⟩) x.length x.length) x.length (bsv x) :=
  ⟨sl_cells (c := (bsv x).toArray) (xs := bsv x) (m := x.length) hf (by rw [bsv_length, Nat.mul_one]) (by simp), _, _, rfl, Nat.le_refl _⟩
theorem dapply_lit {b1 b2 : Nat} {T1 T2 : TypeId} {fr1 fr2 : Nat × Nat} {L : List Chunk} (x y o : List UInt8) (m : Int) (e : Nat) (f1 : Fnd L b1 (.cells (bsv x).toArray T1 fr1)) (f2 : Fnd L b2 (.cells (bsv y).toArray T2 fr2)) (hx : x.length ≤ 1000) (hy : y.length ≤ 1000) (h : apP x y m.toNat = (o, e)) :
    Gv Try.prog 9 [.slice (some ⟨b1, 0, none⟩) x.length x.length, .slice (some ⟨b2, 0, none⟩) y.length y.length, .int .i64 m].toArray L (fun r L' => ∃ v C, r = .tuple #[v, .int .i64 (e : Int)] ∧ Ow 5 1 v o.length (bsv o) C ∧ L' = C :: L) := by
  have h1 := dapply_n _ _ x y m L (rs_lit x f1) (rs_lit y f2) (by omega) (by omega)
  rw [h] at h1
  exact h1
set_option maxHeartbeats 4000000 in
theorem awake10_n (L : List Chunk) : GvP Try.prog 6 [].toArray L (.bool true) := by
  refine Gv.of_body (args := []) Try.func6 rfl rfl ?_
  (repeat' first|refine kW ?_|refine kU fun bk=>?_|refine kV fun hc=>?_|refine kZ (fun hc=>?_) fun hc=>?_|fail)
  refine OW_buildSlice (cs := bsv [97, 98, 99]) rfl (by rfl) (by simp [fillL, patch, Value.cells, zeros]; rfl) (by omega) rfl rfl (fun b1 => ?_)
  (repeat' first|refine kW ?_|refine kU fun bk=>?_|refine kV fun hc=>?_|refine kZ (fun hc=>?_) fun hc=>?_|fail)
  refine OW_convSame (l := bsv [97, 98, 99]) rfl iU rfl ?_
  (repeat' first|refine kW ?_|refine kU fun bk=>?_|refine kV fun hc=>?_|refine kZ (fun hc=>?_) fun hc=>?_|fail)
  refine OW_buildSlice (cs := bsv awD) rfl (by rfl) (by simp [fillL, patch, Value.cells, zeros]; rfl) (by omega) rfl rfl (fun b2 => ?_)
  (repeat' first|refine kW ?_|refine kU fun bk=>?_|refine kV fun hc=>?_|refine kZ (fun hc=>?_) fun hc=>?_|fail)
  refine OW_convSame (l := bsv awD) rfl iU rfl ?_
  (repeat' first|refine kW ?_|refine kU fun bk=>?_|refine kV fun hc=>?_|refine kZ (fun hc=>?_) fun hc=>?_|fail)
  refine OW_call rfl rfl rfl (dapply_lit [97, 98, 99] awD _ 9 _ (by repeat (first | assumption | exact Fnd.here | refine Fnd.there ?_)) (by repeat (first | assumption | exact Fnd.here | refine Fnd.there ?_)) (by decide) (by decide) awD_1) rfl (fun r L' hp => ?_)
  obtain ⟨v1, C1, rfl, o1, rfl⟩ := hp
  (repeat' first|refine kW ?_|refine kU fun bk=>?_|refine kV fun hc=>?_|refine kZ (fun hc=>?_) fun hc=>?_|fail)
  refine OW_buildSlice (cs := bsv [97, 98, 99]) rfl (by rfl) (by simp [fillL, patch, Value.cells, zeros]; rfl) (by omega) rfl rfl (fun b3 => ?_)
  (repeat' first|refine kW ?_|refine kU fun bk=>?_|refine kV fun hc=>?_|refine kZ (fun hc=>?_) fun hc=>?_|fail)
  refine OW_convSame (l := bsv [97, 98, 99]) rfl iU rfl ?_
  (repeat' first|refine kW ?_|refine kU fun bk=>?_|refine kV fun hc=>?_|refine kZ (fun hc=>?_) fun hc=>?_|fail)
  refine OW_buildSlice (cs := bsv [3, 1, 0]) rfl (by rfl) (by simp [fillL, patch, Value.cells, zeros]; rfl) (by omega) rfl rfl (fun b4 => ?_)
  (repeat' first|refine kW ?_|refine kU fun bk=>?_|refine kV fun hc=>?_|refine kZ (fun hc=>?_) fun hc=>?_|fail)
  refine OW_call rfl rfl rfl (dapply_lit [97, 98, 99] [3, 1, 0] _ 9 _ (by repeat (first | assumption | exact Fnd.here | refine Fnd.there ?_)) (by repeat (first | assumption | exact Fnd.here | refine Fnd.there ?_)) (by decide) (by decide) awD_2) rfl (fun r L' hp => ?_)
  obtain ⟨v2, C2, rfl, o2, rfl⟩ := hp
  (repeat' first|refine kW ?_|refine kU fun bk=>?_|refine kV fun hc=>?_|refine kZ (fun hc=>?_) fun hc=>?_|fail)
  refine OW_EV (EV_convStr (m := 5) (b := [98, 99, 120, 121, 122]) rfl (by exact sl_there (sl_there (sl_there (ow_sl o1))))) rfl ?_
  (repeat' first|refine kW ?_|refine kU fun bk=>?_|refine kV fun hc=>?_|refine kZ (fun hc=>?_) fun hc=>?_|fail)
  have h3 := fun L => number_n 300 L (by decide)
  rw [awD_3] at h3
  refine OW_call rfl rfl rfl (h3 _) rfl (fun r L' hp => ?_)
  obtain ⟨C3, rfl, o3⟩ := hp
  (repeat' first|refine kW ?_|refine kU fun bk=>?_|refine kV fun hc=>?_|refine kZ (fun hc=>?_) fun hc=>?_|fail)
  refine OW_EV (EV_convStr (m := 2) (b := [172, 2]) rfl (by exact ow_sl o3)) rfl ?_
  (repeat' first|refine kW ?_|refine kU fun bk=>?_|refine kV fun hc=>?_|refine kZ (fun hc=>?_) fun hc=>?_|fail)
  exact kE
end Go.Proofs.Ytckelgpocplplaa
