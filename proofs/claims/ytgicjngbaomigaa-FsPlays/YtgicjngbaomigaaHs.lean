/- Calls that come in. It proves no statement by itself. No conditions. -/
import Derived.Test.YtgicjngbaomigaaGa
namespace Go.Proofs.Ytgicjngbaomigaa
open Go Go.Vx
set_option linter.all false
variable [W0]
set_option maxRecDepth 4000

omit [W0] in
/-- A call that came in. -/
structure OpD where
  kind : Int
  n : Int
  a : ByteArray
  b : ByteArray
  data : List UInt8
  keep : List Int
omit [W0] in
def opC (o : OpD) (dv kv : Value) : List Value := [.int .i64 o.kind, .int .i64 o.n, .string o.a, .string o.b, dv, kv]
omit [W0] in
/-- A slice of calls that came in. -/
structure OpsAt (L : List Chunk) (v : Value) (ops : List OpD) : Prop where
  shape : ∃ a c, v = .slice a ops.length c
  at_ : ∀ i o, ops[i]? = some o → ∃ b off cap dv kv, v = .slice (some ⟨b, off, none⟩) ops.length cap ∧ RdAt L ⟨b, off + i * 6, none⟩ (opC o dv kv) ∧ Sl L 1 dv o.data.length (bsv o.data) ∧ Sl L 1 kv o.keep.length (intsV o.keep)

theorem rd_there {L : List Chunk} {C : Chunk} {a : Addr} {vs : List Value} (h : RdAt L a vs) : RdAt (C :: L) a vs := by
  rcases h with h | ⟨b, off, c, T, fr, e2, h7, h8⟩
  · exact .inl h
  · exact .inr ⟨b, off, c, T, fr, e2, h7.there, h8⟩

end Go.Proofs.Ytgicjngbaomigaa
