/-
  DERIVED. GIVEN WITH THE SEED: THE CARDS: each row of YtcekgefkimbfaaaGreatDoorRows.lean that lists a variable, with what it lists TIED to the program's text (the seventh form; the later family's looks); each row that meets fmt, with fmt's text TOLD by the authors' own Lean function (tested against real Go, not proved from fmt's source: count such statements apart). THE CARD IS WHAT COUNTS. Prove the row's statement (the work); the ties are given (YtcekgefkimbfaaaGreatDoorTie.lean); close each card by the builder's one call (the guide's Derived/Test/ToyasCard.lean, 'card_holds'). Laid BY PROGRAM, IN A SANDBOX (cutbox-door.mjs). By AI agents, Wed Nov 11 2026. No macro, syntax, notation, axiom, sorry.
-/
import Derived.Test.YtcekgefkimbfaaaGreatDoorRows
import GoSem.ClaimSeven
namespace Go.Proofs.YtcekgefkimbfaaaGreatDoor
namespace Rows

/-- THE TIED CARD OF 'scclaw2.PastPlays'. -/
def pastPlaysCard : Claim7 := { stood := { row := pastPlaysRow, standIns := [], harness := (true, "d36f3842be8be28ea759963a6271bbf462e0fec59bcb2a9f134e185f29ad5b30"), looks := true }, kinds := [], alts := [], laidByText := true, laidKinds := [.data, .data, .data, .handle, .sentinel, .sentinel, .data, .data], laidTests := true, laidLooks := .later }
def PastPlaysCardSaid : Prop := Claim7.holds Tryz.pinned (.plain (OpenSpec.ofChange pastPlaysSpec)) pastPlaysCard

/-- THE TIED CARD OF 'scclaw6.PastGroups'. -/
def pastGroupsCard : Claim7 := { stood := { row := pastGroupsRow, standIns := [], harness := (true, "d36f3842be8be28ea759963a6271bbf462e0fec59bcb2a9f134e185f29ad5b30"), looks := true }, kinds := [], alts := [], laidByText := true, laidKinds := [.data, .data, .data, .sentinel, .sentinel, .data, .data], laidTests := true, laidLooks := .later }
def PastGroupsCardSaid : Prop := Claim7.holds Tryz.pinned (.plain (OpenSpec.ofChange pastGroupsSpec)) pastGroupsCard

/-- THE TIED CARD OF 'scclaw3.RowsSwap'. -/
def rowsSwapCard : Claim7 := { stood := { row := rowsSwapRow, standIns := [], harness := (true, "d36f3842be8be28ea759963a6271bbf462e0fec59bcb2a9f134e185f29ad5b30"), looks := true }, kinds := [], alts := [], laidByText := true, laidKinds := [.data, .data, .data, .handle, .sentinel, .sentinel, .data, .data], laidTests := true, laidLooks := .later }
def RowsSwapCardSaid : Prop := Claim7.holds Tryz.pinned (.plain (OpenSpec.ofChange rowsSwapSpec)) rowsSwapCard

/-- THE SECOND FORM's CARD OF 'scclaw2.PastPlays'. -/
def pastPlaysUptoCard : Claim7 := { stood := { row := pastPlaysUptoRow, standIns := [], harness := (true, "d36f3842be8be28ea759963a6271bbf462e0fec59bcb2a9f134e185f29ad5b30"), looks := true }, kinds := [], alts := [], laidByText := true, laidKinds := [.data, .data, .data, .handle, .sentinel, .sentinel, .data, .data], laidTests := true, laidLooks := .later }
def PastPlaysUptoCardSaid : Prop := Claim7.holds Tryz.pinned (.plain (OpenSpec.upto pastPlaysSpec)) pastPlaysUptoCard

/-- THE SECOND FORM's CARD OF 'scclaw6.PastGroups'. -/
def pastGroupsUptoCard : Claim7 := { stood := { row := pastGroupsUptoRow, standIns := [], harness := (true, "d36f3842be8be28ea759963a6271bbf462e0fec59bcb2a9f134e185f29ad5b30"), looks := true }, kinds := [], alts := [], laidByText := true, laidKinds := [.data, .data, .data, .sentinel, .sentinel, .data, .data], laidTests := true, laidLooks := .later }
def PastGroupsUptoCardSaid : Prop := Claim7.holds Tryz.pinned (.plain (OpenSpec.upto pastGroupsSpec)) pastGroupsUptoCard

/-- THE SECOND FORM's CARD OF 'scclaw3.RowsSwap'. -/
def rowsSwapUptoCard : Claim7 := { stood := { row := rowsSwapUptoRow, standIns := [], harness := (true, "d36f3842be8be28ea759963a6271bbf462e0fec59bcb2a9f134e185f29ad5b30"), looks := true }, kinds := [], alts := [], laidByText := true, laidKinds := [.data, .data, .data, .handle, .sentinel, .sentinel, .data, .data], laidTests := true, laidLooks := .later }
def RowsSwapUptoCardSaid : Prop := Claim7.holds Tryz.pinned (.plain (OpenSpec.upto rowsSwapSpec)) rowsSwapUptoCard
end Rows
end Go.Proofs.YtcekgefkimbfaaaGreatDoor
