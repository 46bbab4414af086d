/-
  DERIVED. GIVEN WITH THE SEED: THE CARDS: each row of YtdcehmhelfohfaaGreatDoorRows.lean that lists a variable, with what it lists TIED to the program's text (the seventh form; the later family's looks); each row that meets fmt, with fmt's text TOLD by the authors' own Lean function (tested against real Go, not proved from fmt's source: count such statements apart). THE CARD IS WHAT COUNTS. Prove the row's statement (the work); the ties are given (YtdcehmhelfohfaaGreatDoorTie.lean); close each card by the builder's one call (the guide's Derived/Test/ToyasCard.lean, 'card_holds'). Laid BY PROGRAM, IN A SANDBOX (cutbox-door.mjs). By AI agents, Wed Nov 11 2026. No macro, syntax, notation, axiom, sorry.
-/
import Derived.Test.YtdcehmhelfohfaaGreatDoorRows
import GoSem.ClaimSeven
namespace Go.Proofs.YtdcehmhelfohfaaGreatDoor
namespace Rows

/-- THE TIED CARD OF 'stemmalaw7.DeflatePairs'. -/
def deflatePairsCard : Claim7 := { stood := { row := deflatePairsRow, standIns := [], harness := (true, "1fcb3cd6cd98db272f802a07289d9c4b499d31cc854eae17ec19d18fda2b04a9"), looks := true }, kinds := [], alts := [], laidByText := true, laidKinds := [.data], laidTests := true, laidLooks := .later }
def DeflatePairsCardSaid : Prop := Claim7.holds Tryz.pinned (.plain (OpenSpec.ofChange deflatePairsSpec)) deflatePairsCard

/-- THE TIED CARD OF 'stemmalaw7.DeflateBack'. -/
def deflateBackCard : Claim7 := { stood := { row := deflateBackRow, standIns := [], harness := (true, "1fcb3cd6cd98db272f802a07289d9c4b499d31cc854eae17ec19d18fda2b04a9"), looks := true }, kinds := [], alts := [], laidByText := true, laidKinds := [.data], laidTests := true, laidLooks := .later }
def DeflateBackCardSaid : Prop := Claim7.holds Tryz.pinned (.plain (OpenSpec.ofChange deflateBackSpec)) deflateBackCard

/-- THE TIED CARD OF 'stemmalaw7.DeflateRuns'. -/
def deflateRunsCard : Claim7 := { stood := { row := deflateRunsRow, standIns := [], harness := (true, "1fcb3cd6cd98db272f802a07289d9c4b499d31cc854eae17ec19d18fda2b04a9"), looks := true }, kinds := [], alts := [], laidByText := true, laidKinds := [.data], laidTests := true, laidLooks := .later }
def DeflateRunsCardSaid : Prop := Claim7.holds Tryz.pinned (.plain (OpenSpec.ofChange deflateRunsSpec)) deflateRunsCard

/-- THE TIED CARD OF 'stemmalaw7.DeflateMatches'. -/
def deflateMatchesCard : Claim7 := { stood := { row := deflateMatchesRow, standIns := [], harness := (true, "1fcb3cd6cd98db272f802a07289d9c4b499d31cc854eae17ec19d18fda2b04a9"), looks := true }, kinds := [], alts := [], laidByText := true, laidKinds := [.data], laidTests := true, laidLooks := .later }
def DeflateMatchesCardSaid : Prop := Claim7.holds Tryz.pinned (.plain (OpenSpec.ofChange deflateMatchesSpec)) deflateMatchesCard

/-- THE SECOND FORM's CARD OF 'stemmalaw7.DeflatePairs'. -/
def deflatePairsUptoCard : Claim7 := { stood := { row := deflatePairsUptoRow, standIns := [], harness := (true, "1fcb3cd6cd98db272f802a07289d9c4b499d31cc854eae17ec19d18fda2b04a9"), looks := true }, kinds := [], alts := [], laidByText := true, laidKinds := [.data], laidTests := true, laidLooks := .later }
def DeflatePairsUptoCardSaid : Prop := Claim7.holds Tryz.pinned (.plain (OpenSpec.upto deflatePairsSpec)) deflatePairsUptoCard

/-- THE SECOND FORM's CARD OF 'stemmalaw7.DeflateBack'. -/
def deflateBackUptoCard : Claim7 := { stood := { row := deflateBackUptoRow, standIns := [], harness := (true, "1fcb3cd6cd98db272f802a07289d9c4b499d31cc854eae17ec19d18fda2b04a9"), looks := true }, kinds := [], alts := [], laidByText := true, laidKinds := [.data], laidTests := true, laidLooks := .later }
def DeflateBackUptoCardSaid : Prop := Claim7.holds Tryz.pinned (.plain (OpenSpec.upto deflateBackSpec)) deflateBackUptoCard

/-- THE SECOND FORM's CARD OF 'stemmalaw7.DeflateRuns'. -/
def deflateRunsUptoCard : Claim7 := { stood := { row := deflateRunsUptoRow, standIns := [], harness := (true, "1fcb3cd6cd98db272f802a07289d9c4b499d31cc854eae17ec19d18fda2b04a9"), looks := true }, kinds := [], alts := [], laidByText := true, laidKinds := [.data], laidTests := true, laidLooks := .later }
def DeflateRunsUptoCardSaid : Prop := Claim7.holds Tryz.pinned (.plain (OpenSpec.upto deflateRunsSpec)) deflateRunsUptoCard

/-- THE SECOND FORM's CARD OF 'stemmalaw7.DeflateMatches'. -/
def deflateMatchesUptoCard : Claim7 := { stood := { row := deflateMatchesUptoRow, standIns := [], harness := (true, "1fcb3cd6cd98db272f802a07289d9c4b499d31cc854eae17ec19d18fda2b04a9"), looks := true }, kinds := [], alts := [], laidByText := true, laidKinds := [.data], laidTests := true, laidLooks := .later }
def DeflateMatchesUptoCardSaid : Prop := Claim7.holds Tryz.pinned (.plain (OpenSpec.upto deflateMatchesSpec)) deflateMatchesUptoCard
end Rows
end Go.Proofs.YtdcehmhelfohfaaGreatDoor
