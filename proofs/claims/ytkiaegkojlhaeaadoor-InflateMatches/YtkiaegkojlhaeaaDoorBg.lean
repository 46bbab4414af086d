/- Package bits: bits and bytes are taken as the document's reader takes them. It proves no statement by itself. No conditions. -/
import Derived.Test.YtkiaegkojlhaeaaDoorBf
namespace Go.Proofs.YtkiaegkojlhaeaaDoor
open Go Go.Vx
variable [W0]
set_option maxRecDepth 4000
set_option linter.all false

omit [W0] in
/-- A call that came in. -/
structure OpB where
  kind : Int
  n : Int
  v : Nat
  data : List UInt8
  hv : v < 2 ^ 32
omit [W0] in
def opB (o : OpB) (dv : Value) : List Value := [.int .i64 o.kind, .int .i64 o.n, .int .u32 (o.v : Int), dv]
omit [W0] in
/-- A slice of calls that came in. -/
structure BopsAt (L : List Chunk) (v : Value) (ops : List OpB) : Prop where
  shape : ∃ a c, v = .slice a ops.length c
  at_ : ∀ i o, ops[i]? = some o → ∃ b off cap dv, v = .slice (some ⟨b, off, none⟩) ops.length cap ∧ RdAt L ⟨b, off + i * 4, none⟩ (opB o dv) ∧ Sl L 1 dv o.data.length (bsv o.data)

end Go.Proofs.YtkiaegkojlhaeaaDoor
