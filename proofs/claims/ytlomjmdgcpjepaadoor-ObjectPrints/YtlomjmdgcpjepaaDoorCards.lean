/-
  DERIVED. GIVEN WITH THE SEED: THE CARDS: each row of YtlomjmdgcpjepaaDoorRows.lean that lists a variable, with what it lists TIED to the program's text (the seventh form; the later family's looks); each row that meets fmt, with fmt's text TOLD by the authors' own Lean function (tested against real Go, not proved from fmt's source: count such statements apart). THE CARD IS WHAT COUNTS. Prove the row's statement (the work); the ties are given (YtlomjmdgcpjepaaDoorTie.lean); close each card by the builder's one call (the guide's Derived/Test/ToyasCard.lean, 'card_holds'). Laid BY PROGRAM, IN A SANDBOX (cutbox-door.mjs). By AI agents, Wed Nov 11 2026. No macro, syntax, notation, axiom, sorry.
-/
import Derived.Test.YtlomjmdgcpjepaaDoorRows
import GoSem.ClaimSeven
namespace Go.Proofs.YtlomjmdgcpjepaaDoor
namespace Rows

/-- THE TIED CARD OF 'stemmalaw8.ObjectNames'. -/
def objectNamesCard : Claim7 := { stood := { row := objectNamesRow, standIns := [], harness := (true, "727624c3aa9dad7b62eae9b413f56121e0d35cd827744e1dbfe0441ef3d613e7"), looks := false }, kinds := [], alts := [], laidByText := true, laidKinds := [.data, .data, .data, .data, .pinned], laidTests := true, laidLooks := .later }
def ObjectNamesCardSaid : Prop := Claim7.holds Tryd.pinned (.plain (OpenSpec.ofChange objectNamesSpec)) objectNamesCard

/-- THE TIED CARD OF 'stemmalaw8.ObjectPrints'. -/
def objectPrintsCard : Claim7 := { stood := { row := objectPrintsRow, standIns := [], harness := (true, "727624c3aa9dad7b62eae9b413f56121e0d35cd827744e1dbfe0441ef3d613e7"), looks := false }, kinds := [], alts := [], laidByText := true, laidKinds := [.data, .data, .data, .data, .pinned], laidTests := true, laidLooks := .later }
def ObjectPrintsCardSaid : Prop := Claim7.holds Tryd.pinned (.plain (OpenSpec.ofChange objectPrintsSpec)) objectPrintsCard

/-- THE TIED CARD OF 'stemmalaw8.ObjectOrder'. -/
def objectOrderCard : Claim7 := { stood := { row := objectOrderRow, standIns := [], harness := (true, "727624c3aa9dad7b62eae9b413f56121e0d35cd827744e1dbfe0441ef3d613e7"), looks := false }, kinds := [], alts := [], laidByText := true, laidKinds := [.data, .data, .data, .data, .pinned], laidTests := true, laidLooks := .later }
def ObjectOrderCardSaid : Prop := Claim7.holds Tryd.pinned (.plain (OpenSpec.ofChange objectOrderSpec)) objectOrderCard

/-- THE SECOND FORM's CARD OF 'stemmalaw8.ObjectNames'. -/
def objectNamesUptoCard : Claim7 := { stood := { row := objectNamesUptoRow, standIns := [], harness := (true, "727624c3aa9dad7b62eae9b413f56121e0d35cd827744e1dbfe0441ef3d613e7"), looks := false }, kinds := [], alts := [], laidByText := true, laidKinds := [.data, .data, .data, .data, .pinned], laidTests := true, laidLooks := .later }
def ObjectNamesUptoCardSaid : Prop := Claim7.holds Tryd.pinned (.plain (OpenSpec.upto objectNamesSpec)) objectNamesUptoCard

/-- THE SECOND FORM's CARD OF 'stemmalaw8.ObjectPrints'. -/
def objectPrintsUptoCard : Claim7 := { stood := { row := objectPrintsUptoRow, standIns := [], harness := (true, "727624c3aa9dad7b62eae9b413f56121e0d35cd827744e1dbfe0441ef3d613e7"), looks := false }, kinds := [], alts := [], laidByText := true, laidKinds := [.data, .data, .data, .data, .pinned], laidTests := true, laidLooks := .later }
def ObjectPrintsUptoCardSaid : Prop := Claim7.holds Tryd.pinned (.plain (OpenSpec.upto objectPrintsSpec)) objectPrintsUptoCard

/-- THE SECOND FORM's CARD OF 'stemmalaw8.ObjectOrder'. -/
def objectOrderUptoCard : Claim7 := { stood := { row := objectOrderUptoRow, standIns := [], harness := (true, "727624c3aa9dad7b62eae9b413f56121e0d35cd827744e1dbfe0441ef3d613e7"), looks := false }, kinds := [], alts := [], laidByText := true, laidKinds := [.data, .data, .data, .data, .pinned], laidTests := true, laidLooks := .later }
def ObjectOrderUptoCardSaid : Prop := Claim7.holds Tryd.pinned (.plain (OpenSpec.upto objectOrderSpec)) objectOrderUptoCard
end Rows
end Go.Proofs.YtlomjmdgcpjepaaDoor
