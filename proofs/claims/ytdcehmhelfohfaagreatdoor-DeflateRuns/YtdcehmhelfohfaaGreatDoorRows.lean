/-
  NARROWER THAN 'FOR EVERY INPUT', by the rows' own cells (each row's printed sentence says how): DeflatePairs: laid · DeflateBack: laid · DeflateRuns: laid · DeflateMatches: laid.
  DERIVED. THE GIVEN ROWS OF THIS SEAT. 4 by the template 'for every input the law returns true; each argument reads behind the call as it read before'; 0 by the template 'total and deterministic' (their statements: YtdcehmhelfohfaaGreatDoorTotals.lean).
  GIVEN WITH THE SEED: the statements are not yours to turn. If you find one false, say at which input.
  Laid BY PROGRAM, IN A SANDBOX (cutbox-rows.mjs): the forced cells as the released guide's own fill.sh prints them over the translation 68be647960515b44… (all of the seat's roots in one cut). By AI agents, Wed Nov 11 2026. No macro, syntax, notation, axiom, sorry.
-/
import Derived.Test.YtdcehmhelfohfaaGreatDoorChecked
import GoSem.Claim
import GoSem.ClaimJoined
import GoSem.ClaimMapViews
import Derived.JoinedTies
import Derived.KernelRfl
namespace Go.Proofs.YtdcehmhelfohfaaGreatDoor
/- THE CELL 'sum', in the pinned program and in every row, IS THE sha256 OF THE DUMP (.gsa) THAT YtdcehmhelfohfaaGreatDoorProg.lean LOADS. Nothing in Lean hashes anything: it is a label: what it is worth is what the hold of that sum in a sandbox is worth. -/
noncomputable def Tryz.pinned : Pinned := { name := "ytdcehmhelfohfaagreatdoor", sum := "68be647960515b447454921ac7df9783104061264bf5fdad2da29c59060f628c", checked := Tryz.checked }
namespace Rows
def none {H : Type} : Left H := { results := [], args := [] }

/- WHAT THE LISTED PACKAGE-LEVEL VARIABLES READ AS WHEN THE CALL BEGINS. Each datum BY PROGRAM (the guide's laid-datum.mjs) off the statement by which the dump's own 'gosem.cut.vars' lays the variable. In a bare row this is a premise. The card (YtdcehmhelfohfaaGreatDoorCards.lean) ties it to the program's text. -/
def laid_stemma_symbols_order {H : Type} : DataW H := .agg [.lit (.int .i64 16), .lit (.int .i64 17), .lit (.int .i64 18), .lit (.int .i64 0), .lit (.int .i64 8), .lit (.int .i64 7), .lit (.int .i64 9), .lit (.int .i64 6), .lit (.int .i64 10), .lit (.int .i64 5), .lit (.int .i64 11), .lit (.int .i64 4), .lit (.int .i64 12), .lit (.int .i64 3), .lit (.int .i64 13), .lit (.int .i64 2), .lit (.int .i64 14), .lit (.int .i64 1), .lit (.int .i64 15)]

/-- 'stemmalaw7.DeflatePairs': WHATEVER THE INPUT: true; the input reads as it did. -/
def deflatePairsSpec : ChangeSpec := { name := "deflatePairs", fn := fun _ => fun
  | [d] => { results := [.lit (.bool true)], args := [d] }
  | _ => none }
def deflatePairsRow : OpenClaim := { program := "ytdcehmhelfohfaagreatdoor", sum := "68be647960515b447454921ac7df9783104061264bf5fdad2da29c59060f628c", func := "stemma/stemmalaw7.DeflatePairs", spec := "deflatePairs", unfollowed := true, recurses := true, named := ["stemma/symbols.order"], plainKeys := false, apart := false, laid := [("stemma/symbols.order", laid_stemma_symbols_order)] }
def DeflatePairsSaid : Prop := deflatePairsRow.holds Tryz.pinned (OpenSpec.ofChange deflatePairsSpec)

/-- ITS FALSE NEIGHBOUR: 'it returns false'. Refute it at one input. -/
def deflatePairsWrong : ChangeSpec := { name := "deflatePairs", fn := fun _ => fun
  | [d] => { results := [.lit (.bool false)], args := [d] }
  | _ => none }
def DeflatePairsWrongFalsely : Prop := deflatePairsRow.holds Tryz.pinned (OpenSpec.ofChange deflatePairsWrong)

/-- 'stemmalaw7.DeflateBack': WHATEVER THE INPUT: true; the input reads as it did. -/
def deflateBackSpec : ChangeSpec := { name := "deflateBack", fn := fun _ => fun
  | [d1, d2] => { results := [.lit (.bool true)], args := [d1, d2] }
  | _ => none }
def deflateBackRow : OpenClaim := { program := "ytdcehmhelfohfaagreatdoor", sum := "68be647960515b447454921ac7df9783104061264bf5fdad2da29c59060f628c", func := "stemma/stemmalaw7.DeflateBack", spec := "deflateBack", unfollowed := true, recurses := true, named := ["stemma/symbols.order"], plainKeys := false, apart := false, laid := [("stemma/symbols.order", laid_stemma_symbols_order)] }
def DeflateBackSaid : Prop := deflateBackRow.holds Tryz.pinned (OpenSpec.ofChange deflateBackSpec)

/-- ITS FALSE NEIGHBOUR: 'it returns false'. Refute it at one input. -/
def deflateBackWrong : ChangeSpec := { name := "deflateBack", fn := fun _ => fun
  | [d1, d2] => { results := [.lit (.bool false)], args := [d1, d2] }
  | _ => none }
def DeflateBackWrongFalsely : Prop := deflateBackRow.holds Tryz.pinned (OpenSpec.ofChange deflateBackWrong)

/-- 'stemmalaw7.DeflateRuns': WHATEVER THE INPUT: true; the input reads as it did. -/
def deflateRunsSpec : ChangeSpec := { name := "deflateRuns", fn := fun _ => fun
  | [d1, d2] => { results := [.lit (.bool true)], args := [d1, d2] }
  | _ => none }
def deflateRunsRow : OpenClaim := { program := "ytdcehmhelfohfaagreatdoor", sum := "68be647960515b447454921ac7df9783104061264bf5fdad2da29c59060f628c", func := "stemma/stemmalaw7.DeflateRuns", spec := "deflateRuns", unfollowed := true, recurses := true, named := ["stemma/symbols.order"], plainKeys := false, apart := false, laid := [("stemma/symbols.order", laid_stemma_symbols_order)] }
def DeflateRunsSaid : Prop := deflateRunsRow.holds Tryz.pinned (OpenSpec.ofChange deflateRunsSpec)

/-- ITS FALSE NEIGHBOUR: 'it returns false'. Refute it at one input. -/
def deflateRunsWrong : ChangeSpec := { name := "deflateRuns", fn := fun _ => fun
  | [d1, d2] => { results := [.lit (.bool false)], args := [d1, d2] }
  | _ => none }
def DeflateRunsWrongFalsely : Prop := deflateRunsRow.holds Tryz.pinned (OpenSpec.ofChange deflateRunsWrong)

/-- 'stemmalaw7.DeflateMatches': WHATEVER THE INPUT: true; the input reads as it did. -/
def deflateMatchesSpec : ChangeSpec := { name := "deflateMatches", fn := fun _ => fun
  | [d1, d2] => { results := [.lit (.bool true)], args := [d1, d2] }
  | _ => none }
def deflateMatchesRow : OpenClaim := { program := "ytdcehmhelfohfaagreatdoor", sum := "68be647960515b447454921ac7df9783104061264bf5fdad2da29c59060f628c", func := "stemma/stemmalaw7.DeflateMatches", spec := "deflateMatches", unfollowed := true, recurses := true, named := ["stemma/symbols.order"], plainKeys := false, apart := false, laid := [("stemma/symbols.order", laid_stemma_symbols_order)] }
def DeflateMatchesSaid : Prop := deflateMatchesRow.holds Tryz.pinned (OpenSpec.ofChange deflateMatchesSpec)

/-- ITS FALSE NEIGHBOUR: 'it returns false'. Refute it at one input. -/
def deflateMatchesWrong : ChangeSpec := { name := "deflateMatches", fn := fun _ => fun
  | [d1, d2] => { results := [.lit (.bool false)], args := [d1, d2] }
  | _ => none }
def DeflateMatchesWrongFalsely : Prop := deflateMatchesRow.holds Tryz.pinned (OpenSpec.ofChange deflateMatchesWrong)

/- THE SECOND FORM. 'bulk': how many values and letters a reading holds, each counted each time it is reached (what is shared counts as often as it is met; a slice's spare places count too). A statement '..UptoSaid' is the law's where the arguments, and the package variables that the reading takes, are together of bulk at most 1048576: NARROWER than '..Said'. Prove '..Said' where nothing that the law and all that it calls make is longer than what came in: it says more and counts as full. Else prove '..UptoSaid'. A law counts once. -/
mutual
def uptoBulk {H : Type} : DataW H → Nat
  | .lit (.string bytes) => bytes.length + 1
  | .lit _ => 1
  | .nil => 1
  | .ptr d => uptoBulk d + 1
  | .slice elems spare => uptoBulkAll elems + uptoBulkAll spare + 1
  | .agg parts => uptoBulkAll parts + 1
  | .iface _ d => uptoBulk d + 1
  | .map entries => uptoBulkEntries entries + 1
  | .held _ => 1
def uptoBulkAll {H : Type} : List (DataW H) → Nat
  | [] => 0
  | d :: r => uptoBulk d + uptoBulkAll r
def uptoBulkEntries {H : Type} : List (Lit × DataW H) → Nat
  | [] => 0
  | x :: r => uptoBulkEntry x + uptoBulkEntries r
def uptoBulkEntry {H : Type} : Lit × DataW H → Nat
  | (.string bytes, d) => bytes.length + uptoBulk d + 1
  | (_, d) => uptoBulk d + 1
 end
def uptoSmall : (H : Type) → List (DataW H) → Bool := fun _ ds => decide (uptoBulkAll ds ≤ 1048576)
def OpenSpec.upto (s : _root_.Go.ChangeSpec) : _root_.Go.OpenSpec := { _root_.Go.OpenSpec.ofChange s with cond := some uptoSmall }

/-- 'stemmalaw7.DeflatePairs', WHERE WHAT IT READS IS OF BULK AT MOST 1048576: true; the input reads as it did. -/
def deflatePairsUptoRow : OpenClaim := { program := "ytdcehmhelfohfaagreatdoor", sum := "68be647960515b447454921ac7df9783104061264bf5fdad2da29c59060f628c", func := "stemma/stemmalaw7.DeflatePairs", spec := "deflatePairs", unfollowed := true, recurses := true, named := ["stemma/symbols.order"], plainKeys := false, apart := false, laid := [("stemma/symbols.order", laid_stemma_symbols_order)], narrowed := true }
def DeflatePairsUptoSaid : Prop := deflatePairsUptoRow.holds Tryz.pinned (OpenSpec.upto deflatePairsSpec)

/-- 'stemmalaw7.DeflateBack', WHERE WHAT IT READS IS OF BULK AT MOST 1048576: true; the input reads as it did. -/
def deflateBackUptoRow : OpenClaim := { program := "ytdcehmhelfohfaagreatdoor", sum := "68be647960515b447454921ac7df9783104061264bf5fdad2da29c59060f628c", func := "stemma/stemmalaw7.DeflateBack", spec := "deflateBack", unfollowed := true, recurses := true, named := ["stemma/symbols.order"], plainKeys := false, apart := false, laid := [("stemma/symbols.order", laid_stemma_symbols_order)], narrowed := true }
def DeflateBackUptoSaid : Prop := deflateBackUptoRow.holds Tryz.pinned (OpenSpec.upto deflateBackSpec)

/-- 'stemmalaw7.DeflateRuns', WHERE WHAT IT READS IS OF BULK AT MOST 1048576: true; the input reads as it did. -/
def deflateRunsUptoRow : OpenClaim := { program := "ytdcehmhelfohfaagreatdoor", sum := "68be647960515b447454921ac7df9783104061264bf5fdad2da29c59060f628c", func := "stemma/stemmalaw7.DeflateRuns", spec := "deflateRuns", unfollowed := true, recurses := true, named := ["stemma/symbols.order"], plainKeys := false, apart := false, laid := [("stemma/symbols.order", laid_stemma_symbols_order)], narrowed := true }
def DeflateRunsUptoSaid : Prop := deflateRunsUptoRow.holds Tryz.pinned (OpenSpec.upto deflateRunsSpec)

/-- 'stemmalaw7.DeflateMatches', WHERE WHAT IT READS IS OF BULK AT MOST 1048576: true; the input reads as it did. -/
def deflateMatchesUptoRow : OpenClaim := { program := "ytdcehmhelfohfaagreatdoor", sum := "68be647960515b447454921ac7df9783104061264bf5fdad2da29c59060f628c", func := "stemma/stemmalaw7.DeflateMatches", spec := "deflateMatches", unfollowed := true, recurses := true, named := ["stemma/symbols.order"], plainKeys := false, apart := false, laid := [("stemma/symbols.order", laid_stemma_symbols_order)], narrowed := true }
def DeflateMatchesUptoSaid : Prop := deflateMatchesUptoRow.holds Tryz.pinned (OpenSpec.upto deflateMatchesSpec)

end Rows
end Go.Proofs.YtdcehmhelfohfaaGreatDoor
