/-
  No cell of these rows narrows 'for every input' (looked for: loops, veiled, ifaces, maps, wideKeys, modest, calm, conditions, laid).
  DERIVED. THE GIVEN ROWS OF THIS SEAT. 6 by the template 'for every input the law returns true; each argument reads behind the call as it read before'; 0 by the template 'total and deterministic' (their statements: YtbdpjbmfhnbheaaTotals.lean).
  GIVEN WITH THE SEED: the statements are not yours to turn. If you find one false, say at which input.
  Laid BY PROGRAM, IN A SANDBOX (cutbox-rows.mjs): the forced cells as the released guide's own fill.sh prints them over the translation 99dbc1e9f8409df4… (all of the seat's roots in one cut). By AI agents, Wed Nov 11 2026. No macro, syntax, notation, axiom, sorry.
-/
import Derived.Test.YtbdpjbmfhnbheaaChecked
import GoSem.Claim
import GoSem.ClaimJoined
import GoSem.ClaimMapViews
import Derived.JoinedTies
import Derived.KernelRfl
namespace Go.Proofs.Ytbdpjbmfhnbheaa
/- THE CELL 'sum', in the pinned program and in every row, IS THE sha256 OF THE DUMP (.gsa) THAT YtbdpjbmfhnbheaaProg.lean LOADS. Nothing in Lean hashes anything: it is a label: what it is worth is what the hold of that sum in a sandbox is worth. -/
noncomputable def Try.pinned : Pinned := { name := "ytbdpjbmfhnbheaa", sum := "99dbc1e9f8409df402c8ce6f47d67313f0842c0ee5548e3e3f5e21b674262ed2", checked := Try.checked }
namespace Rows
def none {H : Type} : Left H := { results := [], args := [] }

/-- 'stemmalaw5.HuffFlat': WHATEVER THE INPUT: true; the input reads as it did. -/
def huffFlatSpec : ChangeSpec := { name := "huffFlat", fn := fun _ => fun
  | [d1, d2, d3] => { results := [.lit (.bool true)], args := [d1, d2, d3] }
  | _ => none }
def huffFlatRow : OpenClaim := { program := "ytbdpjbmfhnbheaa", sum := "99dbc1e9f8409df402c8ce6f47d67313f0842c0ee5548e3e3f5e21b674262ed2", func := "stemma/stemmalaw5.HuffFlat", spec := "huffFlat", unfollowed := true, recurses := true, apart := false }
def HuffFlatSaid : Prop := huffFlatRow.holds Try.pinned (OpenSpec.ofChange huffFlatSpec)

/-- ITS FALSE NEIGHBOUR: 'it returns false'. Refute it at one input. -/
def huffFlatWrong : ChangeSpec := { name := "huffFlat", fn := fun _ => fun
  | [d1, d2, d3] => { results := [.lit (.bool false)], args := [d1, d2, d3] }
  | _ => none }
def HuffFlatWrongFalsely : Prop := huffFlatRow.holds Try.pinned (OpenSpec.ofChange huffFlatWrong)

/-- 'stemmalaw5.HuffCodes': WHATEVER THE INPUT: true; the input reads as it did. -/
def huffCodesSpec : ChangeSpec := { name := "huffCodes", fn := fun _ => fun
  | [d] => { results := [.lit (.bool true)], args := [d] }
  | _ => none }
def huffCodesRow : OpenClaim := { program := "ytbdpjbmfhnbheaa", sum := "99dbc1e9f8409df402c8ce6f47d67313f0842c0ee5548e3e3f5e21b674262ed2", func := "stemma/stemmalaw5.HuffCodes", spec := "huffCodes", apart := false }
def HuffCodesSaid : Prop := huffCodesRow.holds Try.pinned (OpenSpec.ofChange huffCodesSpec)

/-- ITS FALSE NEIGHBOUR: 'it returns false'. Refute it at one input. -/
def huffCodesWrong : ChangeSpec := { name := "huffCodes", fn := fun _ => fun
  | [d] => { results := [.lit (.bool false)], args := [d] }
  | _ => none }
def HuffCodesWrongFalsely : Prop := huffCodesRow.holds Try.pinned (OpenSpec.ofChange huffCodesWrong)

/-- 'stemmalaw5.HuffReads': WHATEVER THE INPUT: true; the input reads as it did. -/
def huffReadsSpec : ChangeSpec := { name := "huffReads", fn := fun _ => fun
  | [d1, d2] => { results := [.lit (.bool true)], args := [d1, d2] }
  | _ => none }
def huffReadsRow : OpenClaim := { program := "ytbdpjbmfhnbheaa", sum := "99dbc1e9f8409df402c8ce6f47d67313f0842c0ee5548e3e3f5e21b674262ed2", func := "stemma/stemmalaw5.HuffReads", spec := "huffReads", apart := false }
def HuffReadsSaid : Prop := huffReadsRow.holds Try.pinned (OpenSpec.ofChange huffReadsSpec)

/-- ITS FALSE NEIGHBOUR: 'it returns false'. Refute it at one input. -/
def huffReadsWrong : ChangeSpec := { name := "huffReads", fn := fun _ => fun
  | [d1, d2] => { results := [.lit (.bool false)], args := [d1, d2] }
  | _ => none }
def HuffReadsWrongFalsely : Prop := huffReadsRow.holds Try.pinned (OpenSpec.ofChange huffReadsWrong)

/-- 'stemmalaw5.HuffLeast': WHATEVER THE INPUT: true; the input reads as it did. -/
def huffLeastSpec : ChangeSpec := { name := "huffLeast", fn := fun _ => fun
  | [d1, d2] => { results := [.lit (.bool true)], args := [d1, d2] }
  | _ => none }
def huffLeastRow : OpenClaim := { program := "ytbdpjbmfhnbheaa", sum := "99dbc1e9f8409df402c8ce6f47d67313f0842c0ee5548e3e3f5e21b674262ed2", func := "stemma/stemmalaw5.HuffLeast", spec := "huffLeast", unfollowed := true, recurses := true, apart := false }
def HuffLeastSaid : Prop := huffLeastRow.holds Try.pinned (OpenSpec.ofChange huffLeastSpec)

/-- ITS FALSE NEIGHBOUR: 'it returns false'. Refute it at one input. -/
def huffLeastWrong : ChangeSpec := { name := "huffLeast", fn := fun _ => fun
  | [d1, d2] => { results := [.lit (.bool false)], args := [d1, d2] }
  | _ => none }
def HuffLeastWrongFalsely : Prop := huffLeastRow.holds Try.pinned (OpenSpec.ofChange huffLeastWrong)

/-- 'stemmalaw5.HuffOften': WHATEVER THE INPUT: true; the input reads as it did. -/
def huffOftenSpec : ChangeSpec := { name := "huffOften", fn := fun _ => fun
  | [d1, d2] => { results := [.lit (.bool true)], args := [d1, d2] }
  | _ => none }
def huffOftenRow : OpenClaim := { program := "ytbdpjbmfhnbheaa", sum := "99dbc1e9f8409df402c8ce6f47d67313f0842c0ee5548e3e3f5e21b674262ed2", func := "stemma/stemmalaw5.HuffOften", spec := "huffOften", unfollowed := true, recurses := true, apart := false }
def HuffOftenSaid : Prop := huffOftenRow.holds Try.pinned (OpenSpec.ofChange huffOftenSpec)

/-- ITS FALSE NEIGHBOUR: 'it returns false'. Refute it at one input. -/
def huffOftenWrong : ChangeSpec := { name := "huffOften", fn := fun _ => fun
  | [d1, d2] => { results := [.lit (.bool false)], args := [d1, d2] }
  | _ => none }
def HuffOftenWrongFalsely : Prop := huffOftenRow.holds Try.pinned (OpenSpec.ofChange huffOftenWrong)

/-- 'stemmalaw5.HuffBack': WHATEVER THE INPUT: true; the input reads as it did. -/
def huffBackSpec : ChangeSpec := { name := "huffBack", fn := fun _ => fun
  | [d1, d2] => { results := [.lit (.bool true)], args := [d1, d2] }
  | _ => none }
def huffBackRow : OpenClaim := { program := "ytbdpjbmfhnbheaa", sum := "99dbc1e9f8409df402c8ce6f47d67313f0842c0ee5548e3e3f5e21b674262ed2", func := "stemma/stemmalaw5.HuffBack", spec := "huffBack", unfollowed := true, recurses := true, apart := false }
def HuffBackSaid : Prop := huffBackRow.holds Try.pinned (OpenSpec.ofChange huffBackSpec)

/-- ITS FALSE NEIGHBOUR: 'it returns false'. Refute it at one input. -/
def huffBackWrong : ChangeSpec := { name := "huffBack", fn := fun _ => fun
  | [d1, d2] => { results := [.lit (.bool false)], args := [d1, d2] }
  | _ => none }
def HuffBackWrongFalsely : Prop := huffBackRow.holds Try.pinned (OpenSpec.ofChange huffBackWrong)

/- THE SECOND FORM. 'bulk': how many values and letters a reading holds, each counted each time it is reached (what is shared counts as often as it is met; a slice's spare places count too). A statement '..UptoSaid' is the law's where the arguments, and the package variables that the reading takes, are together of bulk at most 1048576: NARROWER than '..Said'. Prove '..Said' where nothing that the law and all that it calls make is longer than what came in: it says more and counts as full. Else prove '..UptoSaid'. A law counts once. -/
mutual
def uptoBulk {H : Type} : DataW H → Nat
  | .lit (.string bytes) => bytes.length + 1
  | .lit _ => 1
  | .nil => 1
  | .ptr d => uptoBulk d + 1
  | .slice elems spare => uptoBulkAll elems + uptoBulkAll spare + 1
  | .agg parts => uptoBulkAll parts + 1
  | .iface _ d => uptoBulk d + 1
  | .map entries => uptoBulkEntries entries + 1
  | .held _ => 1
def uptoBulkAll {H : Type} : List (DataW H) → Nat
  | [] => 0
  | d :: r => uptoBulk d + uptoBulkAll r
def uptoBulkEntries {H : Type} : List (Lit × DataW H) → Nat
  | [] => 0
  | x :: r => uptoBulkEntry x + uptoBulkEntries r
def uptoBulkEntry {H : Type} : Lit × DataW H → Nat
  | (.string bytes, d) => bytes.length + uptoBulk d + 1
  | (_, d) => uptoBulk d + 1
 end
def uptoSmall : (H : Type) → List (DataW H) → Bool := fun _ ds => decide (uptoBulkAll ds ≤ 1048576)
def OpenSpec.upto (s : _root_.Go.ChangeSpec) : _root_.Go.OpenSpec := { _root_.Go.OpenSpec.ofChange s with cond := some uptoSmall }

/-- 'stemmalaw5.HuffFlat', WHERE WHAT IT READS IS OF BULK AT MOST 1048576: true; the input reads as it did. -/
def huffFlatUptoRow : OpenClaim := { program := "ytbdpjbmfhnbheaa", sum := "99dbc1e9f8409df402c8ce6f47d67313f0842c0ee5548e3e3f5e21b674262ed2", func := "stemma/stemmalaw5.HuffFlat", spec := "huffFlat", unfollowed := true, recurses := true, apart := false, narrowed := true }
def HuffFlatUptoSaid : Prop := huffFlatUptoRow.holds Try.pinned (OpenSpec.upto huffFlatSpec)

/-- 'stemmalaw5.HuffCodes', WHERE WHAT IT READS IS OF BULK AT MOST 1048576: true; the input reads as it did. -/
def huffCodesUptoRow : OpenClaim := { program := "ytbdpjbmfhnbheaa", sum := "99dbc1e9f8409df402c8ce6f47d67313f0842c0ee5548e3e3f5e21b674262ed2", func := "stemma/stemmalaw5.HuffCodes", spec := "huffCodes", apart := false, narrowed := true }
def HuffCodesUptoSaid : Prop := huffCodesUptoRow.holds Try.pinned (OpenSpec.upto huffCodesSpec)

/-- 'stemmalaw5.HuffReads', WHERE WHAT IT READS IS OF BULK AT MOST 1048576: true; the input reads as it did. -/
def huffReadsUptoRow : OpenClaim := { program := "ytbdpjbmfhnbheaa", sum := "99dbc1e9f8409df402c8ce6f47d67313f0842c0ee5548e3e3f5e21b674262ed2", func := "stemma/stemmalaw5.HuffReads", spec := "huffReads", apart := false, narrowed := true }
def HuffReadsUptoSaid : Prop := huffReadsUptoRow.holds Try.pinned (OpenSpec.upto huffReadsSpec)

/-- 'stemmalaw5.HuffLeast', WHERE WHAT IT READS IS OF BULK AT MOST 1048576: true; the input reads as it did. -/
def huffLeastUptoRow : OpenClaim := { program := "ytbdpjbmfhnbheaa", sum := "99dbc1e9f8409df402c8ce6f47d67313f0842c0ee5548e3e3f5e21b674262ed2", func := "stemma/stemmalaw5.HuffLeast", spec := "huffLeast", unfollowed := true, recurses := true, apart := false, narrowed := true }
def HuffLeastUptoSaid : Prop := huffLeastUptoRow.holds Try.pinned (OpenSpec.upto huffLeastSpec)

/-- 'stemmalaw5.HuffOften', WHERE WHAT IT READS IS OF BULK AT MOST 1048576: true; the input reads as it did. -/
def huffOftenUptoRow : OpenClaim := { program := "ytbdpjbmfhnbheaa", sum := "99dbc1e9f8409df402c8ce6f47d67313f0842c0ee5548e3e3f5e21b674262ed2", func := "stemma/stemmalaw5.HuffOften", spec := "huffOften", unfollowed := true, recurses := true, apart := false, narrowed := true }
def HuffOftenUptoSaid : Prop := huffOftenUptoRow.holds Try.pinned (OpenSpec.upto huffOftenSpec)

/-- 'stemmalaw5.HuffBack', WHERE WHAT IT READS IS OF BULK AT MOST 1048576: true; the input reads as it did. -/
def huffBackUptoRow : OpenClaim := { program := "ytbdpjbmfhnbheaa", sum := "99dbc1e9f8409df402c8ce6f47d67313f0842c0ee5548e3e3f5e21b674262ed2", func := "stemma/stemmalaw5.HuffBack", spec := "huffBack", unfollowed := true, recurses := true, apart := false, narrowed := true }
def HuffBackUptoSaid : Prop := huffBackUptoRow.holds Try.pinned (OpenSpec.upto huffBackSpec)

end Rows
end Go.Proofs.Ytbdpjbmfhnbheaa
