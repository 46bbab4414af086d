/- DeltaNumbers' body. It proves no statement by itself. No conditions. -/
import Derived.Test.YtckelgpocplplaaRo
namespace Go.Proofs.Ytckelgpocplplaa
open Go Go.Vx Go.Dl
variable [W0]
set_option maxRecDepth 4000
set_option linter.all false
end Go.Proofs.Ytckelgpocplplaa
