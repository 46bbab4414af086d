/- Facts on the way to the top. It proves no statement by itself. No conditions. -/
import Derived.Test.YtemdlifojcgplaaGreatDoorSV8
namespace Go.Proofs.YtemdlifojcgplaaGreatDoor
open Go Go.Vx Go.Ob Go.ChangeShapes Go.WideShapes Go.ChangeAt Go.RowKit
set_option linter.all false
set_option maxRecDepth 4000
theorem cl_inPlace:(Rows.looseFilesRow.inPlace==Tryz.prog.inPlace 4)=true:=by kernel_rfl
theorem cl_unfollowed:(Rows.looseFilesRow.unfollowed==Tryz.prog.unfollowed 4)=true:=by kernel_rfl
theorem cl_recurses:(Rows.looseFilesRow.recurses==Tryz.prog.recurses 4)=true:=by kernel_rfl
theorem cl_named:(Rows.looseFilesRow.named==Tryz.prog.varsNamed 4)=true:=by kernel_rfl
end Go.Proofs.YtemdlifojcgplaaGreatDoor
