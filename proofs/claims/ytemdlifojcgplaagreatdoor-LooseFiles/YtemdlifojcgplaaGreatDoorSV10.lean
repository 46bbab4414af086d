/- LooseFiles returns true and leaves its arguments as they were, for every argument; the table that the program reads is tied to its text (the card). No conditions beyond the row's. -/
import Derived.Test.YtemdlifojcgplaaGreatDoorSV9
namespace Go.Proofs.YtemdlifojcgplaaGreatDoor
open Go Go.Vx Go.Ob Go.ChangeShapes Go.WideShapes Go.ChangeAt Go.RowKit
set_option linter.all false
set_option maxRecDepth 4000
theorem cl_all:joinedFacts Tryz.prog 4 Tryz.f4 (OpenSpec.ofChange Rows.looseFilesSpec).bare Rows.looseFilesRow=true:=by
 unfold joinedFacts
 rw [cl_inPlace,cl_unfollowed,cl_recurses,cl_named]
 kernel_rfl
theorem top_over:Rows.LooseFilesSaid:=
 OpenClaim.holds_of_cond 4 Tryz.f4 rfl rfl rfl rfl rfl rfl rfl ⟨rfl,rfl,rfl,rfl,rfl⟩ rfl rfl rfl rfl rfl (by kernel_rfl) Tryz.func4 cl_all
  (of_decide_eq_true (by kernel_rfl)) (by unfold Func.isWrapper;first|(rw [if_pos (by decide+kernel)];kernel_rfl)|(rw [if_neg (by decide+kernel)];exact ⟨rfl,rfl⟩))
  (fun os started H enc _ F=>by rw [OpenClaim.pre_eq_preRow];exact top_lifted os started H enc F)
end Go.Proofs.YtemdlifojcgplaaGreatDoor
