/-
  DERIVED. GIVEN WITH THE SEED: THE CARDS: each row of YtfbeigbkdkiliaaGreatDoorRows.lean that lists a variable, with what it lists TIED to the program's text (the seventh form; the later family's looks); each row that meets fmt, with fmt's text TOLD by the authors' own Lean function (tested against real Go, not proved from fmt's source: count such statements apart). THE CARD IS WHAT COUNTS. Prove the row's statement (the work); the ties are given (YtfbeigbkdkiliaaGreatDoorTie.lean); close each card by the builder's one call (the guide's Derived/Test/ToyasCard.lean, 'card_holds'). Laid BY PROGRAM, IN A SANDBOX (cutbox-door.mjs). By AI agents, Wed Nov 11 2026. No macro, syntax, notation, axiom, sorry.
-/
import Derived.Test.YtfbeigbkdkiliaaGreatDoorRows
import GoSem.ClaimSeven
namespace Go.Proofs.YtfbeigbkdkiliaaGreatDoor
namespace Rows

/-- THE TIED CARD OF 'stemmalaw11.PackHeads'. -/
def packHeadsCard : Claim7 := { stood := { row := packHeadsRow, standIns := [], harness := (true, "324093d5463f7df7e7514ea8b194467e98f32fee7363c49d9d8c6ab9281921c0"), looks := true }, kinds := [], alts := [], laidByText := true, laidKinds := [.data, .data, .data, .data, .data], laidTests := true, laidLooks := .later }
def PackHeadsCardSaid : Prop := Claim7.holds Tryz.pinned (.plain (OpenSpec.ofChange packHeadsSpec)) packHeadsCard

/-- THE SECOND FORM's CARD OF 'stemmalaw11.PackHeads'. -/
def packHeadsUptoCard : Claim7 := { stood := { row := packHeadsUptoRow, standIns := [], harness := (true, "324093d5463f7df7e7514ea8b194467e98f32fee7363c49d9d8c6ab9281921c0"), looks := true }, kinds := [], alts := [], laidByText := true, laidKinds := [.data, .data, .data, .data, .data], laidTests := true, laidLooks := .later }
def PackHeadsUptoCardSaid : Prop := Claim7.holds Tryz.pinned (.plain (OpenSpec.upto packHeadsSpec)) packHeadsUptoCard
end Rows
end Go.Proofs.YtfbeigbkdkiliaaGreatDoor
