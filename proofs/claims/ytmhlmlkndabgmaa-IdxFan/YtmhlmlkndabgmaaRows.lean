/-
  No cell of these rows narrows 'for every input' (looked for: loops, veiled, ifaces, maps, wideKeys, modest, calm, conditions, laid).
  DERIVED. THE GIVEN ROWS OF THIS SEAT. 4 by the template 'for every input the law returns true; each argument reads behind the call as it read before'; 0 by the template 'total and deterministic' (their statements: YtmhlmlkndabgmaaTotals.lean).
  GIVEN WITH THE SEED: the statements are not yours to turn. If you find one false, say at which input.
  Laid BY PROGRAM, IN A SANDBOX (cutbox-rows.mjs): the forced cells as the released guide's own fill.sh prints them over the translation a198c0f7fbebc606… (all of the seat's roots in one cut). By AI agents, Wed Nov 11 2026. No macro, syntax, notation, axiom, sorry.
-/
import Derived.Test.YtmhlmlkndabgmaaChecked
import GoSem.Claim
import GoSem.ClaimJoined
import GoSem.ClaimMapViews
import Derived.JoinedTies
import Derived.KernelRfl
namespace Go.Proofs.Ytmhlmlkndabgmaa
/- THE CELL 'sum', in the pinned program and in every row, IS THE sha256 OF THE DUMP (.gsa) THAT YtmhlmlkndabgmaaProg.lean LOADS. Nothing in Lean hashes anything: it is a label: what it is worth is what the hold of that sum in a sandbox is worth. -/
noncomputable def Try.pinned : Pinned := { name := "ytmhlmlkndabgmaa", sum := "a198c0f7fbebc606503d45ab38a6cba2ba66c6fc16660358b20b3a4c47dce22c", checked := Try.checked }
namespace Rows
def none {H : Type} : Left H := { results := [], args := [] }

/-- 'stemmalaw12.IdxFan': WHATEVER THE INPUT: true; the input reads as it did. -/
def idxFanSpec : ChangeSpec := { name := "idxFan", fn := fun _ => fun
  | [d1, d2] => { results := [.lit (.bool true)], args := [d1, d2] }
  | _ => none }
def idxFanRow : OpenClaim := { program := "ytmhlmlkndabgmaa", sum := "a198c0f7fbebc606503d45ab38a6cba2ba66c6fc16660358b20b3a4c47dce22c", func := "stemma/stemmalaw12.IdxFan", spec := "idxFan", inPlace := ["internal/bytealg.abigen_runtime_cmpstring", "internal/bytealg.Compare"], unfollowed := true, recurses := true, apart := false }
def IdxFanSaid : Prop := idxFanRow.holds Try.pinned (OpenSpec.ofChange idxFanSpec)

/-- ITS FALSE NEIGHBOUR: 'it returns false'. Refute it at one input. -/
def idxFanWrong : ChangeSpec := { name := "idxFan", fn := fun _ => fun
  | [d1, d2] => { results := [.lit (.bool false)], args := [d1, d2] }
  | _ => none }
def IdxFanWrongFalsely : Prop := idxFanRow.holds Try.pinned (OpenSpec.ofChange idxFanWrong)

/-- 'stemmalaw12.IdxBuilds': WHATEVER THE INPUT: true; the input reads as it did. -/
def idxBuildsSpec : ChangeSpec := { name := "idxBuilds", fn := fun _ => fun
  | [d1, d2] => { results := [.lit (.bool true)], args := [d1, d2] }
  | _ => none }
def idxBuildsRow : OpenClaim := { program := "ytmhlmlkndabgmaa", sum := "a198c0f7fbebc606503d45ab38a6cba2ba66c6fc16660358b20b3a4c47dce22c", func := "stemma/stemmalaw12.IdxBuilds", spec := "idxBuilds", inPlace := ["internal/bytealg.abigen_runtime_cmpstring", "internal/bytealg.Compare"], unfollowed := true, recurses := true, apart := false }
def IdxBuildsSaid : Prop := idxBuildsRow.holds Try.pinned (OpenSpec.ofChange idxBuildsSpec)

/-- ITS FALSE NEIGHBOUR: 'it returns false'. Refute it at one input. -/
def idxBuildsWrong : ChangeSpec := { name := "idxBuilds", fn := fun _ => fun
  | [d1, d2] => { results := [.lit (.bool false)], args := [d1, d2] }
  | _ => none }
def IdxBuildsWrongFalsely : Prop := idxBuildsRow.holds Try.pinned (OpenSpec.ofChange idxBuildsWrong)

/-- 'stemmalaw12.IdxParses': WHATEVER THE INPUT: true; the input reads as it did. -/
def idxParsesSpec : ChangeSpec := { name := "idxParses", fn := fun _ => fun
  | [d] => { results := [.lit (.bool true)], args := [d] }
  | _ => none }
def idxParsesRow : OpenClaim := { program := "ytmhlmlkndabgmaa", sum := "a198c0f7fbebc606503d45ab38a6cba2ba66c6fc16660358b20b3a4c47dce22c", func := "stemma/stemmalaw12.IdxParses", spec := "idxParses", inPlace := ["internal/bytealg.abigen_runtime_cmpstring", "internal/bytealg.Compare"], unfollowed := true, recurses := true, apart := false }
def IdxParsesSaid : Prop := idxParsesRow.holds Try.pinned (OpenSpec.ofChange idxParsesSpec)

/-- ITS FALSE NEIGHBOUR: 'it returns false'. Refute it at one input. -/
def idxParsesWrong : ChangeSpec := { name := "idxParses", fn := fun _ => fun
  | [d] => { results := [.lit (.bool false)], args := [d] }
  | _ => none }
def IdxParsesWrongFalsely : Prop := idxParsesRow.holds Try.pinned (OpenSpec.ofChange idxParsesWrong)

/-- 'stemmalaw12.IdxBack': WHATEVER THE INPUT: true; the input reads as it did. -/
def idxBackSpec : ChangeSpec := { name := "idxBack", fn := fun _ => fun
  | [d1, d2, d3] => { results := [.lit (.bool true)], args := [d1, d2, d3] }
  | _ => none }
def idxBackRow : OpenClaim := { program := "ytmhlmlkndabgmaa", sum := "a198c0f7fbebc606503d45ab38a6cba2ba66c6fc16660358b20b3a4c47dce22c", func := "stemma/stemmalaw12.IdxBack", spec := "idxBack", inPlace := ["internal/bytealg.abigen_runtime_cmpstring", "internal/bytealg.Compare"], unfollowed := true, recurses := true, apart := false }
def IdxBackSaid : Prop := idxBackRow.holds Try.pinned (OpenSpec.ofChange idxBackSpec)

/-- ITS FALSE NEIGHBOUR: 'it returns false'. Refute it at one input. -/
def idxBackWrong : ChangeSpec := { name := "idxBack", fn := fun _ => fun
  | [d1, d2, d3] => { results := [.lit (.bool false)], args := [d1, d2, d3] }
  | _ => none }
def IdxBackWrongFalsely : Prop := idxBackRow.holds Try.pinned (OpenSpec.ofChange idxBackWrong)

/- THE SECOND FORM. 'bulk': how many values and letters a reading holds, each counted each time it is reached (what is shared counts as often as it is met; a slice's spare places count too). A statement '..UptoSaid' is the law's where the arguments, and the package variables that the reading takes, are together of bulk at most 1048576: NARROWER than '..Said'. Prove '..Said' where nothing that the law and all that it calls make is longer than what came in: it says more and counts as full. Else prove '..UptoSaid'. A law counts once. -/
mutual
def uptoBulk {H : Type} : DataW H → Nat
  | .lit (.string bytes) => bytes.length + 1
  | .lit _ => 1
  | .nil => 1
  | .ptr d => uptoBulk d + 1
  | .slice elems spare => uptoBulkAll elems + uptoBulkAll spare + 1
  | .agg parts => uptoBulkAll parts + 1
  | .iface _ d => uptoBulk d + 1
  | .map entries => uptoBulkEntries entries + 1
  | .held _ => 1
def uptoBulkAll {H : Type} : List (DataW H) → Nat
  | [] => 0
  | d :: r => uptoBulk d + uptoBulkAll r
def uptoBulkEntries {H : Type} : List (Lit × DataW H) → Nat
  | [] => 0
  | x :: r => uptoBulkEntry x + uptoBulkEntries r
def uptoBulkEntry {H : Type} : Lit × DataW H → Nat
  | (.string bytes, d) => bytes.length + uptoBulk d + 1
  | (_, d) => uptoBulk d + 1
 end
def uptoSmall : (H : Type) → List (DataW H) → Bool := fun _ ds => decide (uptoBulkAll ds ≤ 1048576)
def OpenSpec.upto (s : _root_.Go.ChangeSpec) : _root_.Go.OpenSpec := { _root_.Go.OpenSpec.ofChange s with cond := some uptoSmall }

/-- 'stemmalaw12.IdxFan', WHERE WHAT IT READS IS OF BULK AT MOST 1048576: true; the input reads as it did. -/
def idxFanUptoRow : OpenClaim := { program := "ytmhlmlkndabgmaa", sum := "a198c0f7fbebc606503d45ab38a6cba2ba66c6fc16660358b20b3a4c47dce22c", func := "stemma/stemmalaw12.IdxFan", spec := "idxFan", inPlace := ["internal/bytealg.abigen_runtime_cmpstring", "internal/bytealg.Compare"], unfollowed := true, recurses := true, apart := false, narrowed := true }
def IdxFanUptoSaid : Prop := idxFanUptoRow.holds Try.pinned (OpenSpec.upto idxFanSpec)

/-- 'stemmalaw12.IdxBuilds', WHERE WHAT IT READS IS OF BULK AT MOST 1048576: true; the input reads as it did. -/
def idxBuildsUptoRow : OpenClaim := { program := "ytmhlmlkndabgmaa", sum := "a198c0f7fbebc606503d45ab38a6cba2ba66c6fc16660358b20b3a4c47dce22c", func := "stemma/stemmalaw12.IdxBuilds", spec := "idxBuilds", inPlace := ["internal/bytealg.abigen_runtime_cmpstring", "internal/bytealg.Compare"], unfollowed := true, recurses := true, apart := false, narrowed := true }
def IdxBuildsUptoSaid : Prop := idxBuildsUptoRow.holds Try.pinned (OpenSpec.upto idxBuildsSpec)

/-- 'stemmalaw12.IdxParses', WHERE WHAT IT READS IS OF BULK AT MOST 1048576: true; the input reads as it did. -/
def idxParsesUptoRow : OpenClaim := { program := "ytmhlmlkndabgmaa", sum := "a198c0f7fbebc606503d45ab38a6cba2ba66c6fc16660358b20b3a4c47dce22c", func := "stemma/stemmalaw12.IdxParses", spec := "idxParses", inPlace := ["internal/bytealg.abigen_runtime_cmpstring", "internal/bytealg.Compare"], unfollowed := true, recurses := true, apart := false, narrowed := true }
def IdxParsesUptoSaid : Prop := idxParsesUptoRow.holds Try.pinned (OpenSpec.upto idxParsesSpec)

/-- 'stemmalaw12.IdxBack', WHERE WHAT IT READS IS OF BULK AT MOST 1048576: true; the input reads as it did. -/
def idxBackUptoRow : OpenClaim := { program := "ytmhlmlkndabgmaa", sum := "a198c0f7fbebc606503d45ab38a6cba2ba66c6fc16660358b20b3a4c47dce22c", func := "stemma/stemmalaw12.IdxBack", spec := "idxBack", inPlace := ["internal/bytealg.abigen_runtime_cmpstring", "internal/bytealg.Compare"], unfollowed := true, recurses := true, apart := false, narrowed := true }
def IdxBackUptoSaid : Prop := idxBackUptoRow.holds Try.pinned (OpenSpec.upto idxBackSpec)

end Rows
end Go.Proofs.Ytmhlmlkndabgmaa
