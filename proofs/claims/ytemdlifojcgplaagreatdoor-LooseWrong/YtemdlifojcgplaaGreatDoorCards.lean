/-
  DERIVED. GIVEN WITH THE SEED: THE CARDS: each row of YtemdlifojcgplaaGreatDoorRows.lean that lists a variable, with what it lists TIED to the program's text (the seventh form; the later family's looks); each row that meets fmt, with fmt's text TOLD by the authors' own Lean function (tested against real Go, not proved from fmt's source: count such statements apart). THE CARD IS WHAT COUNTS. Prove the row's statement (the work); the ties are given (YtemdlifojcgplaaGreatDoorTie.lean); close each card by the builder's one call (the guide's Derived/Test/ToyasCard.lean, 'card_holds'). Laid BY PROGRAM, IN A SANDBOX (cutbox-door.mjs). By AI agents, Wed Nov 11 2026. No macro, syntax, notation, axiom, sorry.
-/
import Derived.Test.YtemdlifojcgplaaGreatDoorRows
import GoSem.ClaimSeven
namespace Go.Proofs.YtemdlifojcgplaaGreatDoor
namespace Rows

/-- THE TIED CARD OF 'stemmalaw9.LooseWrong'. -/
def looseWrongCard : Claim7 := { stood := { row := looseWrongRow, standIns := [], harness := (true, "8454ebb0ff436e9711591ab395a83e4322fd543669037fd21594c463a17f004b"), looks := true }, kinds := [], alts := [], laidByText := true, laidKinds := [.data, .data, .data, .data, .data, .pinned], laidTests := true, laidLooks := .later }
def LooseWrongCardSaid : Prop := Claim7.holds Tryz.pinned (.plain (OpenSpec.ofChange looseWrongSpec)) looseWrongCard

/-- THE TIED CARD OF 'stemmalaw9.LooseFiles'. -/
def looseFilesCard : Claim7 := { stood := { row := looseFilesRow, standIns := [], harness := (true, "8454ebb0ff436e9711591ab395a83e4322fd543669037fd21594c463a17f004b"), looks := true }, kinds := [], alts := [], laidByText := true, laidKinds := [.data, .data, .data, .data, .data, .pinned], laidTests := true, laidLooks := .later }
def LooseFilesCardSaid : Prop := Claim7.holds Tryz.pinned (.plain (OpenSpec.ofChange looseFilesSpec)) looseFilesCard

/-- THE SECOND FORM's CARD OF 'stemmalaw9.LooseWrong'. -/
def looseWrongUptoCard : Claim7 := { stood := { row := looseWrongUptoRow, standIns := [], harness := (true, "8454ebb0ff436e9711591ab395a83e4322fd543669037fd21594c463a17f004b"), looks := true }, kinds := [], alts := [], laidByText := true, laidKinds := [.data, .data, .data, .data, .data, .pinned], laidTests := true, laidLooks := .later }
def LooseWrongUptoCardSaid : Prop := Claim7.holds Tryz.pinned (.plain (OpenSpec.upto looseWrongSpec)) looseWrongUptoCard

/-- THE SECOND FORM's CARD OF 'stemmalaw9.LooseFiles'. -/
def looseFilesUptoCard : Claim7 := { stood := { row := looseFilesUptoRow, standIns := [], harness := (true, "8454ebb0ff436e9711591ab395a83e4322fd543669037fd21594c463a17f004b"), looks := true }, kinds := [], alts := [], laidByText := true, laidKinds := [.data, .data, .data, .data, .data, .pinned], laidTests := true, laidLooks := .later }
def LooseFilesUptoCardSaid : Prop := Claim7.holds Tryz.pinned (.plain (OpenSpec.upto looseFilesSpec)) looseFilesUptoCard
end Rows
end Go.Proofs.YtemdlifojcgplaaGreatDoor
