/-
  DERIVED. GIVEN WITH THE SEED: THE CARDS: each row of YtlaeoofjoofbcaaGreatDoorRows.lean that lists a variable, with what it lists TIED to the program's text (the seventh form; the later family's looks); each row that meets fmt, with fmt's text TOLD by the authors' own Lean function (tested against real Go, not proved from fmt's source: count such statements apart). THE CARD IS WHAT COUNTS. Prove the row's statement (the work); the ties are given (YtlaeoofjoofbcaaGreatDoorTie.lean); close each card by the builder's one call (the guide's Derived/Test/ToyasCard.lean, 'card_holds'). Laid BY PROGRAM, IN A SANDBOX (cutbox-door.mjs). By AI agents, Wed Nov 11 2026. No macro, syntax, notation, axiom, sorry.
-/
import Derived.Test.YtlaeoofjoofbcaaGreatDoorRows
import GoSem.ClaimSeven
namespace Go.Proofs.YtlaeoofjoofbcaaGreatDoor
namespace Rows

/-- THE TIED CARD OF 'scclaw3.FindCells'. -/
def findCellsCard : Claim7 := { stood := { row := findCellsRow, standIns := [], harness := (true, "679dc7fabf610c38a66a138486eb1d18e3be02d0d457872f49fc1cb37a33a089"), looks := true }, kinds := [], alts := [], laidByText := true, laidKinds := [.data, .data, .data, .handle, .sentinel, .sentinel, .data, .data], laidTests := true, laidLooks := .later }
def FindCellsCardSaid : Prop := Claim7.holds Tryz.pinned (.plain (OpenSpec.ofChange findCellsSpec)) findCellsCard

/-- THE TIED CARD OF 'scclaw3.FindReplaces'. -/
def findReplacesCard : Claim7 := { stood := { row := findReplacesRow, standIns := [], harness := (true, "679dc7fabf610c38a66a138486eb1d18e3be02d0d457872f49fc1cb37a33a089"), looks := true }, kinds := [], alts := [], laidByText := true, laidKinds := [.data, .data, .data, .data, .handle, .sentinel, .sentinel, .data, .data, .pinned], laidTests := true, laidLooks := .later }
def FindReplacesCardSaid : Prop := Claim7.holds Tryz.pinned (.plain (OpenSpec.ofChange findReplacesSpec)) findReplacesCard

/-- THE TIED CARD OF 'scclaw6.FindWhole'. -/
def findWholeCard : Claim7 := { stood := { row := findWholeRow, standIns := [], harness := (true, "679dc7fabf610c38a66a138486eb1d18e3be02d0d457872f49fc1cb37a33a089"), looks := true }, kinds := [], alts := [], laidByText := true, laidKinds := [.data, .data, .data, .sentinel, .sentinel, .data, .data], laidTests := true, laidLooks := .later }
def FindWholeCardSaid : Prop := Claim7.holds Tryz.pinned (.plain (OpenSpec.ofChange findWholeSpec)) findWholeCard

/-- THE SECOND FORM's CARD OF 'scclaw3.FindCells'. -/
def findCellsUptoCard : Claim7 := { stood := { row := findCellsUptoRow, standIns := [], harness := (true, "679dc7fabf610c38a66a138486eb1d18e3be02d0d457872f49fc1cb37a33a089"), looks := true }, kinds := [], alts := [], laidByText := true, laidKinds := [.data, .data, .data, .handle, .sentinel, .sentinel, .data, .data], laidTests := true, laidLooks := .later }
def FindCellsUptoCardSaid : Prop := Claim7.holds Tryz.pinned (.plain (OpenSpec.upto findCellsSpec)) findCellsUptoCard

/-- THE SECOND FORM's CARD OF 'scclaw3.FindReplaces'. -/
def findReplacesUptoCard : Claim7 := { stood := { row := findReplacesUptoRow, standIns := [], harness := (true, "679dc7fabf610c38a66a138486eb1d18e3be02d0d457872f49fc1cb37a33a089"), looks := true }, kinds := [], alts := [], laidByText := true, laidKinds := [.data, .data, .data, .data, .handle, .sentinel, .sentinel, .data, .data, .pinned], laidTests := true, laidLooks := .later }
def FindReplacesUptoCardSaid : Prop := Claim7.holds Tryz.pinned (.plain (OpenSpec.upto findReplacesSpec)) findReplacesUptoCard

/-- THE SECOND FORM's CARD OF 'scclaw6.FindWhole'. -/
def findWholeUptoCard : Claim7 := { stood := { row := findWholeUptoRow, standIns := [], harness := (true, "679dc7fabf610c38a66a138486eb1d18e3be02d0d457872f49fc1cb37a33a089"), looks := true }, kinds := [], alts := [], laidByText := true, laidKinds := [.data, .data, .data, .sentinel, .sentinel, .data, .data], laidTests := true, laidLooks := .later }
def FindWholeUptoCardSaid : Prop := Claim7.holds Tryz.pinned (.plain (OpenSpec.upto findWholeSpec)) findWholeUptoCard
end Rows
end Go.Proofs.YtlaeoofjoofbcaaGreatDoor
