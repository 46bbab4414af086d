/-
  NARROWER THAN 'FOR EVERY INPUT', by the rows' own cells (each row's printed sentence says how): InflateFixed: laid · InflateMatches: laid · InflateBlocks: laid · InflateRaw: laid · InflateZlib: laid · InflateBound: laid.
  DERIVED. THE GIVEN ROWS OF THIS SEAT. 6 by the template 'for every input the law returns true; each argument reads behind the call as it read before'; 0 by the template 'total and deterministic' (their statements: YtdcehmhelfohfaaDoorTotals.lean).
  GIVEN WITH THE SEED: the statements are not yours to turn. If you find one false, say at which input.
  Laid BY PROGRAM, IN A SANDBOX (cutbox-rows.mjs): the forced cells as the released guide's own fill.sh prints them over the translation 0faf2aa23dad7612… (all of the seat's roots in one cut). By AI agents, Wed Nov 11 2026. No macro, syntax, notation, axiom, sorry.
-/
import Derived.Test.YtdcehmhelfohfaaDoorChecked
import GoSem.Claim
import GoSem.ClaimJoined
import GoSem.ClaimMapViews
import Derived.JoinedTies
import Derived.KernelRfl
namespace Go.Proofs.YtdcehmhelfohfaaDoor
/- THE CELL 'sum', in the pinned program and in every row, IS THE sha256 OF THE DUMP (.gsa) THAT YtdcehmhelfohfaaDoorProg.lean LOADS. Nothing in Lean hashes anything: it is a label: what it is worth is what the hold of that sum in a sandbox is worth. -/
noncomputable def Tryd.pinned : Pinned := { name := "ytdcehmhelfohfaadoor", sum := "0faf2aa23dad7612cfd4c124890cb4f907ab486498519203067422c5e111aae1", checked := Tryd.checked }
namespace Rows
def none {H : Type} : Left H := { results := [], args := [] }

/- WHAT THE LISTED PACKAGE-LEVEL VARIABLES READ AS WHEN THE CALL BEGINS. Each datum BY PROGRAM (the guide's laid-datum.mjs) off the statement by which the dump's own 'gosem.cut.vars' lays the variable. In a bare row this is a premise. The card (YtdcehmhelfohfaaDoorCards.lean) ties it to the program's text. -/
def laid_stemma_symbols_order {H : Type} : DataW H := .agg [.lit (.int .i64 16), .lit (.int .i64 17), .lit (.int .i64 18), .lit (.int .i64 0), .lit (.int .i64 8), .lit (.int .i64 7), .lit (.int .i64 9), .lit (.int .i64 6), .lit (.int .i64 10), .lit (.int .i64 5), .lit (.int .i64 11), .lit (.int .i64 4), .lit (.int .i64 12), .lit (.int .i64 3), .lit (.int .i64 13), .lit (.int .i64 2), .lit (.int .i64 14), .lit (.int .i64 1), .lit (.int .i64 15)]

/-- 'stemmalaw6.InflateFixed': WHATEVER THE INPUT: true; the input reads as it did. -/
def inflateFixedSpec : ChangeSpec := { name := "inflateFixed", fn := fun _ => fun
  | [d] => { results := [.lit (.bool true)], args := [d] }
  | _ => none }
def inflateFixedRow : OpenClaim := { program := "ytdcehmhelfohfaadoor", sum := "0faf2aa23dad7612cfd4c124890cb4f907ab486498519203067422c5e111aae1", func := "stemma/stemmalaw6.InflateFixed", spec := "inflateFixed", unfollowed := true, recurses := true, named := ["stemma/symbols.order"], apart := false, laid := [("stemma/symbols.order", laid_stemma_symbols_order)] }
def InflateFixedSaid : Prop := inflateFixedRow.holds Tryd.pinned (OpenSpec.ofChange inflateFixedSpec)

/-- ITS FALSE NEIGHBOUR: 'it returns false'. Refute it at one input. -/
def inflateFixedWrong : ChangeSpec := { name := "inflateFixed", fn := fun _ => fun
  | [d] => { results := [.lit (.bool false)], args := [d] }
  | _ => none }
def InflateFixedWrongFalsely : Prop := inflateFixedRow.holds Tryd.pinned (OpenSpec.ofChange inflateFixedWrong)

/-- 'stemmalaw6.InflateMatches': WHATEVER THE INPUT: true; the input reads as it did. -/
def inflateMatchesSpec : ChangeSpec := { name := "inflateMatches", fn := fun _ => fun
  | [d1, d2, d3] => { results := [.lit (.bool true)], args := [d1, d2, d3] }
  | _ => none }
def inflateMatchesRow : OpenClaim := { program := "ytdcehmhelfohfaadoor", sum := "0faf2aa23dad7612cfd4c124890cb4f907ab486498519203067422c5e111aae1", func := "stemma/stemmalaw6.InflateMatches", spec := "inflateMatches", unfollowed := true, recurses := true, named := ["stemma/symbols.order"], apart := false, laid := [("stemma/symbols.order", laid_stemma_symbols_order)] }
def InflateMatchesSaid : Prop := inflateMatchesRow.holds Tryd.pinned (OpenSpec.ofChange inflateMatchesSpec)

/-- ITS FALSE NEIGHBOUR: 'it returns false'. Refute it at one input. -/
def inflateMatchesWrong : ChangeSpec := { name := "inflateMatches", fn := fun _ => fun
  | [d1, d2, d3] => { results := [.lit (.bool false)], args := [d1, d2, d3] }
  | _ => none }
def InflateMatchesWrongFalsely : Prop := inflateMatchesRow.holds Tryd.pinned (OpenSpec.ofChange inflateMatchesWrong)

/-- 'stemmalaw6.InflateBlocks': WHATEVER THE INPUT: true; the input reads as it did. -/
def inflateBlocksSpec : ChangeSpec := { name := "inflateBlocks", fn := fun _ => fun
  | [d1, d2] => { results := [.lit (.bool true)], args := [d1, d2] }
  | _ => none }
def inflateBlocksRow : OpenClaim := { program := "ytdcehmhelfohfaadoor", sum := "0faf2aa23dad7612cfd4c124890cb4f907ab486498519203067422c5e111aae1", func := "stemma/stemmalaw6.InflateBlocks", spec := "inflateBlocks", unfollowed := true, recurses := true, named := ["stemma/symbols.order"], apart := false, laid := [("stemma/symbols.order", laid_stemma_symbols_order)] }
def InflateBlocksSaid : Prop := inflateBlocksRow.holds Tryd.pinned (OpenSpec.ofChange inflateBlocksSpec)

/-- ITS FALSE NEIGHBOUR: 'it returns false'. Refute it at one input. -/
def inflateBlocksWrong : ChangeSpec := { name := "inflateBlocks", fn := fun _ => fun
  | [d1, d2] => { results := [.lit (.bool false)], args := [d1, d2] }
  | _ => none }
def InflateBlocksWrongFalsely : Prop := inflateBlocksRow.holds Tryd.pinned (OpenSpec.ofChange inflateBlocksWrong)

/-- 'stemmalaw6.InflateRaw': WHATEVER THE INPUT: true; the input reads as it did. -/
def inflateRawSpec : ChangeSpec := { name := "inflateRaw", fn := fun _ => fun
  | [d1, d2] => { results := [.lit (.bool true)], args := [d1, d2] }
  | _ => none }
def inflateRawRow : OpenClaim := { program := "ytdcehmhelfohfaadoor", sum := "0faf2aa23dad7612cfd4c124890cb4f907ab486498519203067422c5e111aae1", func := "stemma/stemmalaw6.InflateRaw", spec := "inflateRaw", unfollowed := true, recurses := true, named := ["stemma/symbols.order"], apart := false, laid := [("stemma/symbols.order", laid_stemma_symbols_order)] }
def InflateRawSaid : Prop := inflateRawRow.holds Tryd.pinned (OpenSpec.ofChange inflateRawSpec)

/-- ITS FALSE NEIGHBOUR: 'it returns false'. Refute it at one input. -/
def inflateRawWrong : ChangeSpec := { name := "inflateRaw", fn := fun _ => fun
  | [d1, d2] => { results := [.lit (.bool false)], args := [d1, d2] }
  | _ => none }
def InflateRawWrongFalsely : Prop := inflateRawRow.holds Tryd.pinned (OpenSpec.ofChange inflateRawWrong)

/-- 'stemmalaw6.InflateZlib': WHATEVER THE INPUT: true; the input reads as it did. -/
def inflateZlibSpec : ChangeSpec := { name := "inflateZlib", fn := fun _ => fun
  | [d1, d2] => { results := [.lit (.bool true)], args := [d1, d2] }
  | _ => none }
def inflateZlibRow : OpenClaim := { program := "ytdcehmhelfohfaadoor", sum := "0faf2aa23dad7612cfd4c124890cb4f907ab486498519203067422c5e111aae1", func := "stemma/stemmalaw6.InflateZlib", spec := "inflateZlib", unfollowed := true, recurses := true, named := ["stemma/symbols.order"], apart := false, laid := [("stemma/symbols.order", laid_stemma_symbols_order)] }
def InflateZlibSaid : Prop := inflateZlibRow.holds Tryd.pinned (OpenSpec.ofChange inflateZlibSpec)

/-- ITS FALSE NEIGHBOUR: 'it returns false'. Refute it at one input. -/
def inflateZlibWrong : ChangeSpec := { name := "inflateZlib", fn := fun _ => fun
  | [d1, d2] => { results := [.lit (.bool false)], args := [d1, d2] }
  | _ => none }
def InflateZlibWrongFalsely : Prop := inflateZlibRow.holds Tryd.pinned (OpenSpec.ofChange inflateZlibWrong)

/-- 'stemmalaw6.InflateBound': WHATEVER THE INPUT: true; the input reads as it did. -/
def inflateBoundSpec : ChangeSpec := { name := "inflateBound", fn := fun _ => fun
  | [d1, d2] => { results := [.lit (.bool true)], args := [d1, d2] }
  | _ => none }
def inflateBoundRow : OpenClaim := { program := "ytdcehmhelfohfaadoor", sum := "0faf2aa23dad7612cfd4c124890cb4f907ab486498519203067422c5e111aae1", func := "stemma/stemmalaw6.InflateBound", spec := "inflateBound", unfollowed := true, recurses := true, named := ["stemma/symbols.order"], apart := false, laid := [("stemma/symbols.order", laid_stemma_symbols_order)] }
def InflateBoundSaid : Prop := inflateBoundRow.holds Tryd.pinned (OpenSpec.ofChange inflateBoundSpec)

/-- ITS FALSE NEIGHBOUR: 'it returns false'. Refute it at one input. -/
def inflateBoundWrong : ChangeSpec := { name := "inflateBound", fn := fun _ => fun
  | [d1, d2] => { results := [.lit (.bool false)], args := [d1, d2] }
  | _ => none }
def InflateBoundWrongFalsely : Prop := inflateBoundRow.holds Tryd.pinned (OpenSpec.ofChange inflateBoundWrong)

/- THE SECOND FORM. 'bulk': how many values and letters a reading holds, each counted each time it is reached (what is shared counts as often as it is met; a slice's spare places count too). A statement '..UptoSaid' is the law's where the arguments, and the package variables that the reading takes, are together of bulk at most 1048576: NARROWER than '..Said'. Prove '..Said' where nothing that the law and all that it calls make is longer than what came in: it says more and counts as full. Else prove '..UptoSaid'. A law counts once. -/
mutual
def uptoBulk {H : Type} : DataW H → Nat
  | .lit (.string bytes) => bytes.length + 1
  | .lit _ => 1
  | .nil => 1
  | .ptr d => uptoBulk d + 1
  | .slice elems spare => uptoBulkAll elems + uptoBulkAll spare + 1
  | .agg parts => uptoBulkAll parts + 1
  | .iface _ d => uptoBulk d + 1
  | .map entries => uptoBulkEntries entries + 1
  | .held _ => 1
def uptoBulkAll {H : Type} : List (DataW H) → Nat
  | [] => 0
  | d :: r => uptoBulk d + uptoBulkAll r
def uptoBulkEntries {H : Type} : List (Lit × DataW H) → Nat
  | [] => 0
  | x :: r => uptoBulkEntry x + uptoBulkEntries r
def uptoBulkEntry {H : Type} : Lit × DataW H → Nat
  | (.string bytes, d) => bytes.length + uptoBulk d + 1
  | (_, d) => uptoBulk d + 1
 end
def uptoSmall : (H : Type) → List (DataW H) → Bool := fun _ ds => decide (uptoBulkAll ds ≤ 1048576)
def OpenSpec.upto (s : _root_.Go.ChangeSpec) : _root_.Go.OpenSpec := { _root_.Go.OpenSpec.ofChange s with cond := some uptoSmall }

/-- 'stemmalaw6.InflateFixed', WHERE WHAT IT READS IS OF BULK AT MOST 1048576: true; the input reads as it did. -/
def inflateFixedUptoRow : OpenClaim := { program := "ytdcehmhelfohfaadoor", sum := "0faf2aa23dad7612cfd4c124890cb4f907ab486498519203067422c5e111aae1", func := "stemma/stemmalaw6.InflateFixed", spec := "inflateFixed", unfollowed := true, recurses := true, named := ["stemma/symbols.order"], apart := false, laid := [("stemma/symbols.order", laid_stemma_symbols_order)], narrowed := true }
def InflateFixedUptoSaid : Prop := inflateFixedUptoRow.holds Tryd.pinned (OpenSpec.upto inflateFixedSpec)

/-- 'stemmalaw6.InflateMatches', WHERE WHAT IT READS IS OF BULK AT MOST 1048576: true; the input reads as it did. -/
def inflateMatchesUptoRow : OpenClaim := { program := "ytdcehmhelfohfaadoor", sum := "0faf2aa23dad7612cfd4c124890cb4f907ab486498519203067422c5e111aae1", func := "stemma/stemmalaw6.InflateMatches", spec := "inflateMatches", unfollowed := true, recurses := true, named := ["stemma/symbols.order"], apart := false, laid := [("stemma/symbols.order", laid_stemma_symbols_order)], narrowed := true }
def InflateMatchesUptoSaid : Prop := inflateMatchesUptoRow.holds Tryd.pinned (OpenSpec.upto inflateMatchesSpec)

/-- 'stemmalaw6.InflateBlocks', WHERE WHAT IT READS IS OF BULK AT MOST 1048576: true; the input reads as it did. -/
def inflateBlocksUptoRow : OpenClaim := { program := "ytdcehmhelfohfaadoor", sum := "0faf2aa23dad7612cfd4c124890cb4f907ab486498519203067422c5e111aae1", func := "stemma/stemmalaw6.InflateBlocks", spec := "inflateBlocks", unfollowed := true, recurses := true, named := ["stemma/symbols.order"], apart := false, laid := [("stemma/symbols.order", laid_stemma_symbols_order)], narrowed := true }
def InflateBlocksUptoSaid : Prop := inflateBlocksUptoRow.holds Tryd.pinned (OpenSpec.upto inflateBlocksSpec)

/-- 'stemmalaw6.InflateRaw', WHERE WHAT IT READS IS OF BULK AT MOST 1048576: true; the input reads as it did. -/
def inflateRawUptoRow : OpenClaim := { program := "ytdcehmhelfohfaadoor", sum := "0faf2aa23dad7612cfd4c124890cb4f907ab486498519203067422c5e111aae1", func := "stemma/stemmalaw6.InflateRaw", spec := "inflateRaw", unfollowed := true, recurses := true, named := ["stemma/symbols.order"], apart := false, laid := [("stemma/symbols.order", laid_stemma_symbols_order)], narrowed := true }
def InflateRawUptoSaid : Prop := inflateRawUptoRow.holds Tryd.pinned (OpenSpec.upto inflateRawSpec)

/-- 'stemmalaw6.InflateZlib', WHERE WHAT IT READS IS OF BULK AT MOST 1048576: true; the input reads as it did. -/
def inflateZlibUptoRow : OpenClaim := { program := "ytdcehmhelfohfaadoor", sum := "0faf2aa23dad7612cfd4c124890cb4f907ab486498519203067422c5e111aae1", func := "stemma/stemmalaw6.InflateZlib", spec := "inflateZlib", unfollowed := true, recurses := true, named := ["stemma/symbols.order"], apart := false, laid := [("stemma/symbols.order", laid_stemma_symbols_order)], narrowed := true }
def InflateZlibUptoSaid : Prop := inflateZlibUptoRow.holds Tryd.pinned (OpenSpec.upto inflateZlibSpec)

/-- 'stemmalaw6.InflateBound', WHERE WHAT IT READS IS OF BULK AT MOST 1048576: true; the input reads as it did. -/
def inflateBoundUptoRow : OpenClaim := { program := "ytdcehmhelfohfaadoor", sum := "0faf2aa23dad7612cfd4c124890cb4f907ab486498519203067422c5e111aae1", func := "stemma/stemmalaw6.InflateBound", spec := "inflateBound", unfollowed := true, recurses := true, named := ["stemma/symbols.order"], apart := false, laid := [("stemma/symbols.order", laid_stemma_symbols_order)], narrowed := true }
def InflateBoundUptoSaid : Prop := inflateBoundUptoRow.holds Tryd.pinned (OpenSpec.upto inflateBoundSpec)

end Rows
end Go.Proofs.YtdcehmhelfohfaaDoor
