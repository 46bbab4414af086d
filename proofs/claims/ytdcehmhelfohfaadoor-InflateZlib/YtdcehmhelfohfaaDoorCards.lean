/-
  DERIVED. GIVEN WITH THE SEED: THE CARDS: each row of YtdcehmhelfohfaaDoorRows.lean that lists a variable, with what it lists TIED to the program's text (the seventh form; the later family's looks); each row that meets fmt, with fmt's text TOLD by the authors' own Lean function (tested against real Go, not proved from fmt's source: count such statements apart). THE CARD IS WHAT COUNTS. Prove the row's statement (the work); the ties are given (YtdcehmhelfohfaaDoorTie.lean); close each card by the builder's one call (the guide's Derived/Test/ToyasCard.lean, 'card_holds'). Laid BY PROGRAM, IN A SANDBOX (cutbox-door.mjs). By AI agents, Wed Nov 11 2026. No macro, syntax, notation, axiom, sorry.
-/
import Derived.Test.YtdcehmhelfohfaaDoorRows
import GoSem.ClaimSeven
namespace Go.Proofs.YtdcehmhelfohfaaDoor
namespace Rows

/-- THE TIED CARD OF 'stemmalaw6.InflateFixed'. -/
def inflateFixedCard : Claim7 := { stood := { row := inflateFixedRow, standIns := [], harness := (true, "6737750484fb184dd642f5797acd63ccb99595ce0611b47ae7cb3d1b50fb8d59"), looks := false }, kinds := [], alts := [], laidByText := true, laidKinds := [.data], laidTests := true, laidLooks := .later }
def InflateFixedCardSaid : Prop := Claim7.holds Tryd.pinned (.plain (OpenSpec.ofChange inflateFixedSpec)) inflateFixedCard

/-- THE TIED CARD OF 'stemmalaw6.InflateMatches'. -/
def inflateMatchesCard : Claim7 := { stood := { row := inflateMatchesRow, standIns := [], harness := (true, "6737750484fb184dd642f5797acd63ccb99595ce0611b47ae7cb3d1b50fb8d59"), looks := false }, kinds := [], alts := [], laidByText := true, laidKinds := [.data], laidTests := true, laidLooks := .later }
def InflateMatchesCardSaid : Prop := Claim7.holds Tryd.pinned (.plain (OpenSpec.ofChange inflateMatchesSpec)) inflateMatchesCard

/-- THE TIED CARD OF 'stemmalaw6.InflateBlocks'. -/
def inflateBlocksCard : Claim7 := { stood := { row := inflateBlocksRow, standIns := [], harness := (true, "6737750484fb184dd642f5797acd63ccb99595ce0611b47ae7cb3d1b50fb8d59"), looks := false }, kinds := [], alts := [], laidByText := true, laidKinds := [.data], laidTests := true, laidLooks := .later }
def InflateBlocksCardSaid : Prop := Claim7.holds Tryd.pinned (.plain (OpenSpec.ofChange inflateBlocksSpec)) inflateBlocksCard

/-- THE TIED CARD OF 'stemmalaw6.InflateRaw'. -/
def inflateRawCard : Claim7 := { stood := { row := inflateRawRow, standIns := [], harness := (true, "6737750484fb184dd642f5797acd63ccb99595ce0611b47ae7cb3d1b50fb8d59"), looks := false }, kinds := [], alts := [], laidByText := true, laidKinds := [.data], laidTests := true, laidLooks := .later }
def InflateRawCardSaid : Prop := Claim7.holds Tryd.pinned (.plain (OpenSpec.ofChange inflateRawSpec)) inflateRawCard

/-- THE TIED CARD OF 'stemmalaw6.InflateZlib'. -/
def inflateZlibCard : Claim7 := { stood := { row := inflateZlibRow, standIns := [], harness := (true, "6737750484fb184dd642f5797acd63ccb99595ce0611b47ae7cb3d1b50fb8d59"), looks := false }, kinds := [], alts := [], laidByText := true, laidKinds := [.data], laidTests := true, laidLooks := .later }
def InflateZlibCardSaid : Prop := Claim7.holds Tryd.pinned (.plain (OpenSpec.ofChange inflateZlibSpec)) inflateZlibCard

/-- THE TIED CARD OF 'stemmalaw6.InflateBound'. -/
def inflateBoundCard : Claim7 := { stood := { row := inflateBoundRow, standIns := [], harness := (true, "6737750484fb184dd642f5797acd63ccb99595ce0611b47ae7cb3d1b50fb8d59"), looks := false }, kinds := [], alts := [], laidByText := true, laidKinds := [.data], laidTests := true, laidLooks := .later }
def InflateBoundCardSaid : Prop := Claim7.holds Tryd.pinned (.plain (OpenSpec.ofChange inflateBoundSpec)) inflateBoundCard

/-- THE SECOND FORM's CARD OF 'stemmalaw6.InflateFixed'. -/
def inflateFixedUptoCard : Claim7 := { stood := { row := inflateFixedUptoRow, standIns := [], harness := (true, "6737750484fb184dd642f5797acd63ccb99595ce0611b47ae7cb3d1b50fb8d59"), looks := false }, kinds := [], alts := [], laidByText := true, laidKinds := [.data], laidTests := true, laidLooks := .later }
def InflateFixedUptoCardSaid : Prop := Claim7.holds Tryd.pinned (.plain (OpenSpec.upto inflateFixedSpec)) inflateFixedUptoCard

/-- THE SECOND FORM's CARD OF 'stemmalaw6.InflateMatches'. -/
def inflateMatchesUptoCard : Claim7 := { stood := { row := inflateMatchesUptoRow, standIns := [], harness := (true, "6737750484fb184dd642f5797acd63ccb99595ce0611b47ae7cb3d1b50fb8d59"), looks := false }, kinds := [], alts := [], laidByText := true, laidKinds := [.data], laidTests := true, laidLooks := .later }
def InflateMatchesUptoCardSaid : Prop := Claim7.holds Tryd.pinned (.plain (OpenSpec.upto inflateMatchesSpec)) inflateMatchesUptoCard

/-- THE SECOND FORM's CARD OF 'stemmalaw6.InflateBlocks'. -/
def inflateBlocksUptoCard : Claim7 := { stood := { row := inflateBlocksUptoRow, standIns := [], harness := (true, "6737750484fb184dd642f5797acd63ccb99595ce0611b47ae7cb3d1b50fb8d59"), looks := false }, kinds := [], alts := [], laidByText := true, laidKinds := [.data], laidTests := true, laidLooks := .later }
def InflateBlocksUptoCardSaid : Prop := Claim7.holds Tryd.pinned (.plain (OpenSpec.upto inflateBlocksSpec)) inflateBlocksUptoCard

/-- THE SECOND FORM's CARD OF 'stemmalaw6.InflateRaw'. -/
def inflateRawUptoCard : Claim7 := { stood := { row := inflateRawUptoRow, standIns := [], harness := (true, "6737750484fb184dd642f5797acd63ccb99595ce0611b47ae7cb3d1b50fb8d59"), looks := false }, kinds := [], alts := [], laidByText := true, laidKinds := [.data], laidTests := true, laidLooks := .later }
def InflateRawUptoCardSaid : Prop := Claim7.holds Tryd.pinned (.plain (OpenSpec.upto inflateRawSpec)) inflateRawUptoCard

/-- THE SECOND FORM's CARD OF 'stemmalaw6.InflateZlib'. -/
def inflateZlibUptoCard : Claim7 := { stood := { row := inflateZlibUptoRow, standIns := [], harness := (true, "6737750484fb184dd642f5797acd63ccb99595ce0611b47ae7cb3d1b50fb8d59"), looks := false }, kinds := [], alts := [], laidByText := true, laidKinds := [.data], laidTests := true, laidLooks := .later }
def InflateZlibUptoCardSaid : Prop := Claim7.holds Tryd.pinned (.plain (OpenSpec.upto inflateZlibSpec)) inflateZlibUptoCard

/-- THE SECOND FORM's CARD OF 'stemmalaw6.InflateBound'. -/
def inflateBoundUptoCard : Claim7 := { stood := { row := inflateBoundUptoRow, standIns := [], harness := (true, "6737750484fb184dd642f5797acd63ccb99595ce0611b47ae7cb3d1b50fb8d59"), looks := false }, kinds := [], alts := [], laidByText := true, laidKinds := [.data], laidTests := true, laidLooks := .later }
def InflateBoundUptoCardSaid : Prop := Claim7.holds Tryd.pinned (.plain (OpenSpec.upto inflateBoundSpec)) inflateBoundUptoCard
end Rows
end Go.Proofs.YtdcehmhelfohfaaDoor
