/- From a row to the layer: ints and bytes that came in. It proves no statement by itself. No conditions. -/
import Derived.Test.YtckelgpocplplaaVe
import Derived.Test.YtckelgpocplplaaRp
namespace Go.Proofs.Ytckelgpocplplaa
open Go Go.Vx Go.ChangeShapes Go.WideShapes Go.ChangeAt Go.RowKit
set_option maxRecDepth 4000
set_option linter.all false
theorem i64_wf {n : Int} (h : (Lit.int .i64 n).wf = true) : -9223372036854775808 ≤ n ∧ n ≤ 9223372036854775807 := by
  simp [Lit.wf, IntKind.min, IntKind.max, IntKind.signed, IntKind.bits] at h
  omega
end Go.Proofs.Ytckelgpocplplaa
