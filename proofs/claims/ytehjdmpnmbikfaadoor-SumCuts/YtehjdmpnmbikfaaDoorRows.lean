/-
  NARROWER THAN 'FOR EVERY INPUT', by the rows' own cells (each row's printed sentence says how): SumParts: laid · SumIs: laid · SumCuts: laid · SumHex: laid · SumBursts: laid.
  DERIVED. THE GIVEN ROWS OF THIS SEAT. 5 by the template 'for every input the law returns true; each argument reads behind the call as it read before'; 0 by the template 'total and deterministic' (their statements: YtehjdmpnmbikfaaDoorTotals.lean).
  GIVEN WITH THE SEED: the statements are not yours to turn. If you find one false, say at which input.
  Laid BY PROGRAM, IN A SANDBOX (cutbox-rows.mjs): the forced cells as the released guide's own fill.sh prints them over the translation f4fd5844bdf58184… (all of the seat's roots in one cut). By AI agents, Wed Nov 11 2026. No macro, syntax, notation, axiom, sorry.
-/
import Derived.Test.YtehjdmpnmbikfaaDoorChecked
import GoSem.Claim
import GoSem.ClaimJoined
import GoSem.ClaimMapViews
import Derived.JoinedTies
import Derived.KernelRfl
namespace Go.Proofs.YtehjdmpnmbikfaaDoor
/- THE CELL 'sum', in the pinned program and in every row, IS THE sha256 OF THE DUMP (.gsa) THAT YtehjdmpnmbikfaaDoorProg.lean LOADS. Nothing in Lean hashes anything: it is a label: what it is worth is what the hold of that sum in a sandbox is worth. -/
noncomputable def Tryd.pinned : Pinned := { name := "ytehjdmpnmbikfaadoor", sum := "f4fd5844bdf58184abe467ae93c97a4b0c8a0ef4609d416047e69869dcf131bb", checked := Tryd.checked }
namespace Rows
def none {H : Type} : Left H := { results := [], args := [] }

/- WHAT THE LISTED PACKAGE-LEVEL VARIABLES READ AS WHEN THE CALL BEGINS. Each datum BY PROGRAM (the guide's laid-datum.mjs) off the statement by which the dump's own 'gosem.cut.vars' lays the variable. In a bare row this is a premise. The card (YtehjdmpnmbikfaaDoorCards.lean) ties it to the program's text. -/
def laid_stemma_sum_afterHalf {H : Type} : DataW H := .agg [.lit (.int .u32 0), .lit (.int .u32 498536548), .lit (.int .u32 997073096), .lit (.int .u32 651767980), .lit (.int .u32 1994146192), .lit (.int .u32 1802195444), .lit (.int .u32 1303535960), .lit (.int .u32 1342533948), .lit (.int .u32 3988292384), .lit (.int .u32 4027552580), .lit (.int .u32 3604390888), .lit (.int .u32 3412177804), .lit (.int .u32 2607071920), .lit (.int .u32 2262029012), .lit (.int .u32 2685067896), .lit (.int .u32 3183342108)]

/-- 'stemmalaw3.SumParts': WHATEVER THE INPUT: true; the input reads as it did. -/
def sumPartsSpec : ChangeSpec := { name := "sumParts", fn := fun _ => fun
  | [d1, d2] => { results := [.lit (.bool true)], args := [d1, d2] }
  | _ => none }
def sumPartsRow : OpenClaim := { program := "ytehjdmpnmbikfaadoor", sum := "f4fd5844bdf58184abe467ae93c97a4b0c8a0ef4609d416047e69869dcf131bb", func := "stemma/stemmalaw3.SumParts", spec := "sumParts", unfollowed := true, recurses := true, named := ["stemma/sum.afterHalf"], apart := false, laid := [("stemma/sum.afterHalf", laid_stemma_sum_afterHalf)] }
def SumPartsSaid : Prop := sumPartsRow.holds Tryd.pinned (OpenSpec.ofChange sumPartsSpec)

/-- ITS FALSE NEIGHBOUR: 'it returns false'. Refute it at one input. -/
def sumPartsWrong : ChangeSpec := { name := "sumParts", fn := fun _ => fun
  | [d1, d2] => { results := [.lit (.bool false)], args := [d1, d2] }
  | _ => none }
def SumPartsWrongFalsely : Prop := sumPartsRow.holds Tryd.pinned (OpenSpec.ofChange sumPartsWrong)

/-- 'stemmalaw3.SumIs': WHATEVER THE INPUT: true; the input reads as it did. -/
def sumIsSpec : ChangeSpec := { name := "sumIs", fn := fun _ => fun
  | [d] => { results := [.lit (.bool true)], args := [d] }
  | _ => none }
def sumIsRow : OpenClaim := { program := "ytehjdmpnmbikfaadoor", sum := "f4fd5844bdf58184abe467ae93c97a4b0c8a0ef4609d416047e69869dcf131bb", func := "stemma/stemmalaw3.SumIs", spec := "sumIs", unfollowed := true, recurses := true, named := ["stemma/sum.afterHalf"], apart := false, laid := [("stemma/sum.afterHalf", laid_stemma_sum_afterHalf)] }
def SumIsSaid : Prop := sumIsRow.holds Tryd.pinned (OpenSpec.ofChange sumIsSpec)

/-- ITS FALSE NEIGHBOUR: 'it returns false'. Refute it at one input. -/
def sumIsWrong : ChangeSpec := { name := "sumIs", fn := fun _ => fun
  | [d] => { results := [.lit (.bool false)], args := [d] }
  | _ => none }
def SumIsWrongFalsely : Prop := sumIsRow.holds Tryd.pinned (OpenSpec.ofChange sumIsWrong)

/-- 'stemmalaw3.SumCuts': WHATEVER THE INPUT: true; the input reads as it did. -/
def sumCutsSpec : ChangeSpec := { name := "sumCuts", fn := fun _ => fun
  | [d1, d2] => { results := [.lit (.bool true)], args := [d1, d2] }
  | _ => none }
def sumCutsRow : OpenClaim := { program := "ytehjdmpnmbikfaadoor", sum := "f4fd5844bdf58184abe467ae93c97a4b0c8a0ef4609d416047e69869dcf131bb", func := "stemma/stemmalaw3.SumCuts", spec := "sumCuts", unfollowed := true, recurses := true, named := ["stemma/sum.afterHalf"], apart := false, laid := [("stemma/sum.afterHalf", laid_stemma_sum_afterHalf)] }
def SumCutsSaid : Prop := sumCutsRow.holds Tryd.pinned (OpenSpec.ofChange sumCutsSpec)

/-- ITS FALSE NEIGHBOUR: 'it returns false'. Refute it at one input. -/
def sumCutsWrong : ChangeSpec := { name := "sumCuts", fn := fun _ => fun
  | [d1, d2] => { results := [.lit (.bool false)], args := [d1, d2] }
  | _ => none }
def SumCutsWrongFalsely : Prop := sumCutsRow.holds Tryd.pinned (OpenSpec.ofChange sumCutsWrong)

/-- 'stemmalaw3.SumHex': WHATEVER THE INPUT: true; the input reads as it did. -/
def sumHexSpec : ChangeSpec := { name := "sumHex", fn := fun _ => fun
  | [d1, d2] => { results := [.lit (.bool true)], args := [d1, d2] }
  | _ => none }
def sumHexRow : OpenClaim := { program := "ytehjdmpnmbikfaadoor", sum := "f4fd5844bdf58184abe467ae93c97a4b0c8a0ef4609d416047e69869dcf131bb", func := "stemma/stemmalaw3.SumHex", spec := "sumHex", unfollowed := true, recurses := true, named := ["stemma/sum.afterHalf"], apart := false, laid := [("stemma/sum.afterHalf", laid_stemma_sum_afterHalf)] }
def SumHexSaid : Prop := sumHexRow.holds Tryd.pinned (OpenSpec.ofChange sumHexSpec)

/-- ITS FALSE NEIGHBOUR: 'it returns false'. Refute it at one input. -/
def sumHexWrong : ChangeSpec := { name := "sumHex", fn := fun _ => fun
  | [d1, d2] => { results := [.lit (.bool false)], args := [d1, d2] }
  | _ => none }
def SumHexWrongFalsely : Prop := sumHexRow.holds Tryd.pinned (OpenSpec.ofChange sumHexWrong)

/-- 'stemmalaw3.SumBursts': WHATEVER THE INPUT: true; the input reads as it did. -/
def sumBurstsSpec : ChangeSpec := { name := "sumBursts", fn := fun _ => fun
  | [d1, d2, d3] => { results := [.lit (.bool true)], args := [d1, d2, d3] }
  | _ => none }
def sumBurstsRow : OpenClaim := { program := "ytehjdmpnmbikfaadoor", sum := "f4fd5844bdf58184abe467ae93c97a4b0c8a0ef4609d416047e69869dcf131bb", func := "stemma/stemmalaw3.SumBursts", spec := "sumBursts", unfollowed := true, recurses := true, named := ["stemma/sum.afterHalf"], apart := false, laid := [("stemma/sum.afterHalf", laid_stemma_sum_afterHalf)] }
def SumBurstsSaid : Prop := sumBurstsRow.holds Tryd.pinned (OpenSpec.ofChange sumBurstsSpec)

/-- ITS FALSE NEIGHBOUR: 'it returns false'. Refute it at one input. -/
def sumBurstsWrong : ChangeSpec := { name := "sumBursts", fn := fun _ => fun
  | [d1, d2, d3] => { results := [.lit (.bool false)], args := [d1, d2, d3] }
  | _ => none }
def SumBurstsWrongFalsely : Prop := sumBurstsRow.holds Tryd.pinned (OpenSpec.ofChange sumBurstsWrong)

/- THE SECOND FORM. 'bulk': how many values and letters a reading holds, each counted each time it is reached (what is shared counts as often as it is met; a slice's spare places count too). A statement '..UptoSaid' is the law's where the arguments, and the package variables that the reading takes, are together of bulk at most 1048576: NARROWER than '..Said'. Prove '..Said' where nothing that the law and all that it calls make is longer than what came in: it says more and counts as full. Else prove '..UptoSaid'. A law counts once. -/
mutual
def uptoBulk {H : Type} : DataW H → Nat
  | .lit (.string bytes) => bytes.length + 1
  | .lit _ => 1
  | .nil => 1
  | .ptr d => uptoBulk d + 1
  | .slice elems spare => uptoBulkAll elems + uptoBulkAll spare + 1
  | .agg parts => uptoBulkAll parts + 1
  | .iface _ d => uptoBulk d + 1
  | .map entries => uptoBulkEntries entries + 1
  | .held _ => 1
def uptoBulkAll {H : Type} : List (DataW H) → Nat
  | [] => 0
  | d :: r => uptoBulk d + uptoBulkAll r
def uptoBulkEntries {H : Type} : List (Lit × DataW H) → Nat
  | [] => 0
  | x :: r => uptoBulkEntry x + uptoBulkEntries r
def uptoBulkEntry {H : Type} : Lit × DataW H → Nat
  | (.string bytes, d) => bytes.length + uptoBulk d + 1
  | (_, d) => uptoBulk d + 1
 end
def uptoSmall : (H : Type) → List (DataW H) → Bool := fun _ ds => decide (uptoBulkAll ds ≤ 1048576)
def OpenSpec.upto (s : _root_.Go.ChangeSpec) : _root_.Go.OpenSpec := { _root_.Go.OpenSpec.ofChange s with cond := some uptoSmall }

/-- 'stemmalaw3.SumParts', WHERE WHAT IT READS IS OF BULK AT MOST 1048576: true; the input reads as it did. -/
def sumPartsUptoRow : OpenClaim := { program := "ytehjdmpnmbikfaadoor", sum := "f4fd5844bdf58184abe467ae93c97a4b0c8a0ef4609d416047e69869dcf131bb", func := "stemma/stemmalaw3.SumParts", spec := "sumParts", unfollowed := true, recurses := true, named := ["stemma/sum.afterHalf"], apart := false, laid := [("stemma/sum.afterHalf", laid_stemma_sum_afterHalf)], narrowed := true }
def SumPartsUptoSaid : Prop := sumPartsUptoRow.holds Tryd.pinned (OpenSpec.upto sumPartsSpec)

/-- 'stemmalaw3.SumIs', WHERE WHAT IT READS IS OF BULK AT MOST 1048576: true; the input reads as it did. -/
def sumIsUptoRow : OpenClaim := { program := "ytehjdmpnmbikfaadoor", sum := "f4fd5844bdf58184abe467ae93c97a4b0c8a0ef4609d416047e69869dcf131bb", func := "stemma/stemmalaw3.SumIs", spec := "sumIs", unfollowed := true, recurses := true, named := ["stemma/sum.afterHalf"], apart := false, laid := [("stemma/sum.afterHalf", laid_stemma_sum_afterHalf)], narrowed := true }
def SumIsUptoSaid : Prop := sumIsUptoRow.holds Tryd.pinned (OpenSpec.upto sumIsSpec)

/-- 'stemmalaw3.SumCuts', WHERE WHAT IT READS IS OF BULK AT MOST 1048576: true; the input reads as it did. -/
def sumCutsUptoRow : OpenClaim := { program := "ytehjdmpnmbikfaadoor", sum := "f4fd5844bdf58184abe467ae93c97a4b0c8a0ef4609d416047e69869dcf131bb", func := "stemma/stemmalaw3.SumCuts", spec := "sumCuts", unfollowed := true, recurses := true, named := ["stemma/sum.afterHalf"], apart := false, laid := [("stemma/sum.afterHalf", laid_stemma_sum_afterHalf)], narrowed := true }
def SumCutsUptoSaid : Prop := sumCutsUptoRow.holds Tryd.pinned (OpenSpec.upto sumCutsSpec)

/-- 'stemmalaw3.SumHex', WHERE WHAT IT READS IS OF BULK AT MOST 1048576: true; the input reads as it did. -/
def sumHexUptoRow : OpenClaim := { program := "ytehjdmpnmbikfaadoor", sum := "f4fd5844bdf58184abe467ae93c97a4b0c8a0ef4609d416047e69869dcf131bb", func := "stemma/stemmalaw3.SumHex", spec := "sumHex", unfollowed := true, recurses := true, named := ["stemma/sum.afterHalf"], apart := false, laid := [("stemma/sum.afterHalf", laid_stemma_sum_afterHalf)], narrowed := true }
def SumHexUptoSaid : Prop := sumHexUptoRow.holds Tryd.pinned (OpenSpec.upto sumHexSpec)

/-- 'stemmalaw3.SumBursts', WHERE WHAT IT READS IS OF BULK AT MOST 1048576: true; the input reads as it did. -/
def sumBurstsUptoRow : OpenClaim := { program := "ytehjdmpnmbikfaadoor", sum := "f4fd5844bdf58184abe467ae93c97a4b0c8a0ef4609d416047e69869dcf131bb", func := "stemma/stemmalaw3.SumBursts", spec := "sumBursts", unfollowed := true, recurses := true, named := ["stemma/sum.afterHalf"], apart := false, laid := [("stemma/sum.afterHalf", laid_stemma_sum_afterHalf)], narrowed := true }
def SumBurstsUptoSaid : Prop := sumBurstsUptoRow.holds Tryd.pinned (OpenSpec.upto sumBurstsSpec)

end Rows
end Go.Proofs.YtehjdmpnmbikfaaDoor
