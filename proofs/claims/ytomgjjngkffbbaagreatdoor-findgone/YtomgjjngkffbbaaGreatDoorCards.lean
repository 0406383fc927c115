/-
  DERIVED. GIVEN WITH THE SEED: THE CARDS: each row of YtomgjjngkffbbaaGreatDoorRows.lean that lists a variable, with what it lists TIED to the program's text (the seventh form; the later family's looks); each row that meets fmt, with fmt's text TOLD by the authors' own Lean function (tested against real Go, not proved from fmt's source: count such statements apart). THE CARD IS WHAT COUNTS. Prove the row's statement (the work); the ties are given (YtomgjjngkffbbaaGreatDoorTie.lean); close each card by the builder's one call (the guide's Derived/Test/ToyasCard.lean, 'card_holds'). Laid BY PROGRAM, IN A SANDBOX (cutbox-door.mjs). By AI agents, Wed Nov 11 2026. No macro, syntax, notation, axiom, sorry.
-/
import Derived.Test.YtomgjjngkffbbaaGreatDoorRows
import GoSem.ClaimSeven
namespace Go.Proofs.YtomgjjngkffbbaaGreatDoor
namespace Rows

/-- THE TIED CARD OF 'scclaw3.MergeDiffs'. -/
def mergeDiffsCard : Claim7 := { stood := { row := mergeDiffsRow, standIns := [], harness := (true, "05fc3ca5e66cc3a1e82f3bd77dc13f21e7ce7bf6a8e91d90c1384bb2c337d0de"), looks := true }, kinds := [], alts := [], laidByText := true, laidKinds := [.data, .data, .data, .handle, .sentinel, .sentinel, .data, .data], laidTests := true, laidLooks := .later }
def MergeDiffsCardSaid : Prop := Claim7.holds Tryz.pinned (.plain (OpenSpec.ofChange mergeDiffsSpec)) mergeDiffsCard

/-- THE TIED CARD OF 'scclaw3.MergeThree'. -/
def mergeThreeCard : Claim7 := { stood := { row := mergeThreeRow, standIns := [], harness := (true, "05fc3ca5e66cc3a1e82f3bd77dc13f21e7ce7bf6a8e91d90c1384bb2c337d0de"), looks := true }, kinds := [], alts := [], laidByText := true, laidKinds := [.data, .data, .data, .handle, .sentinel, .sentinel, .data, .data], laidTests := true, laidLooks := .later }
def MergeThreeCardSaid : Prop := Claim7.holds Tryz.pinned (.plain (OpenSpec.ofChange mergeThreeSpec)) mergeThreeCard

/-- THE TIED CARD OF 'scclaw4.FindGone'. -/
def findGoneCard : Claim7 := { stood := { row := findGoneRow, standIns := [], harness := (true, "05fc3ca5e66cc3a1e82f3bd77dc13f21e7ce7bf6a8e91d90c1384bb2c337d0de"), looks := true }, kinds := [], alts := [], laidByText := true, laidKinds := [.data, .data, .data, .data, .sentinel, .sentinel, .data, .data, .pinned], laidTests := true, laidLooks := .later }
def FindGoneCardSaid : Prop := Claim7.holds Tryz.pinned (.plain (OpenSpec.ofChange findGoneSpec)) findGoneCard

/-- THE TIED CARD OF 'scclaw4.MergeBack'. -/
def mergeBackCard : Claim7 := { stood := { row := mergeBackRow, standIns := [], harness := (true, "05fc3ca5e66cc3a1e82f3bd77dc13f21e7ce7bf6a8e91d90c1384bb2c337d0de"), looks := true }, kinds := [], alts := [], laidByText := true, laidKinds := [.data, .data, .data, .sentinel, .sentinel, .data, .data], laidTests := true, laidLooks := .later }
def MergeBackCardSaid : Prop := Claim7.holds Tryz.pinned (.plain (OpenSpec.ofChange mergeBackSpec)) mergeBackCard

/-- THE TIED CARD OF 'scclaw4.MergeHands'. -/
def mergeHandsCard : Claim7 := { stood := { row := mergeHandsRow, standIns := [], harness := (true, "05fc3ca5e66cc3a1e82f3bd77dc13f21e7ce7bf6a8e91d90c1384bb2c337d0de"), looks := true }, kinds := [], alts := [], laidByText := true, laidKinds := [.data, .data, .data, .sentinel, .sentinel, .data, .data], laidTests := true, laidLooks := .later }
def MergeHandsCardSaid : Prop := Claim7.holds Tryz.pinned (.plain (OpenSpec.ofChange mergeHandsSpec)) mergeHandsCard

/-- THE TIED CARD OF 'scclaw6.MergeChain'. -/
def mergeChainCard : Claim7 := { stood := { row := mergeChainRow, standIns := [], harness := (true, "05fc3ca5e66cc3a1e82f3bd77dc13f21e7ce7bf6a8e91d90c1384bb2c337d0de"), looks := true }, kinds := [], alts := [], laidByText := true, laidKinds := [.data, .data, .data, .sentinel, .sentinel, .data, .data], laidTests := true, laidLooks := .later }
def MergeChainCardSaid : Prop := Claim7.holds Tryz.pinned (.plain (OpenSpec.ofChange mergeChainSpec)) mergeChainCard

/-- THE SECOND FORM's CARD OF 'scclaw3.MergeDiffs'. -/
def mergeDiffsUptoCard : Claim7 := { stood := { row := mergeDiffsUptoRow, standIns := [], harness := (true, "05fc3ca5e66cc3a1e82f3bd77dc13f21e7ce7bf6a8e91d90c1384bb2c337d0de"), looks := true }, kinds := [], alts := [], laidByText := true, laidKinds := [.data, .data, .data, .handle, .sentinel, .sentinel, .data, .data], laidTests := true, laidLooks := .later }
def MergeDiffsUptoCardSaid : Prop := Claim7.holds Tryz.pinned (.plain (OpenSpec.upto mergeDiffsSpec)) mergeDiffsUptoCard

/-- THE SECOND FORM's CARD OF 'scclaw3.MergeThree'. -/
def mergeThreeUptoCard : Claim7 := { stood := { row := mergeThreeUptoRow, standIns := [], harness := (true, "05fc3ca5e66cc3a1e82f3bd77dc13f21e7ce7bf6a8e91d90c1384bb2c337d0de"), looks := true }, kinds := [], alts := [], laidByText := true, laidKinds := [.data, .data, .data, .handle, .sentinel, .sentinel, .data, .data], laidTests := true, laidLooks := .later }
def MergeThreeUptoCardSaid : Prop := Claim7.holds Tryz.pinned (.plain (OpenSpec.upto mergeThreeSpec)) mergeThreeUptoCard

/-- THE SECOND FORM's CARD OF 'scclaw4.FindGone'. -/
def findGoneUptoCard : Claim7 := { stood := { row := findGoneUptoRow, standIns := [], harness := (true, "05fc3ca5e66cc3a1e82f3bd77dc13f21e7ce7bf6a8e91d90c1384bb2c337d0de"), looks := true }, kinds := [], alts := [], laidByText := true, laidKinds := [.data, .data, .data, .data, .sentinel, .sentinel, .data, .data, .pinned], laidTests := true, laidLooks := .later }
def FindGoneUptoCardSaid : Prop := Claim7.holds Tryz.pinned (.plain (OpenSpec.upto findGoneSpec)) findGoneUptoCard

/-- THE SECOND FORM's CARD OF 'scclaw4.MergeBack'. -/
def mergeBackUptoCard : Claim7 := { stood := { row := mergeBackUptoRow, standIns := [], harness := (true, "05fc3ca5e66cc3a1e82f3bd77dc13f21e7ce7bf6a8e91d90c1384bb2c337d0de"), looks := true }, kinds := [], alts := [], laidByText := true, laidKinds := [.data, .data, .data, .sentinel, .sentinel, .data, .data], laidTests := true, laidLooks := .later }
def MergeBackUptoCardSaid : Prop := Claim7.holds Tryz.pinned (.plain (OpenSpec.upto mergeBackSpec)) mergeBackUptoCard

/-- THE SECOND FORM's CARD OF 'scclaw4.MergeHands'. -/
def mergeHandsUptoCard : Claim7 := { stood := { row := mergeHandsUptoRow, standIns := [], harness := (true, "05fc3ca5e66cc3a1e82f3bd77dc13f21e7ce7bf6a8e91d90c1384bb2c337d0de"), looks := true }, kinds := [], alts := [], laidByText := true, laidKinds := [.data, .data, .data, .sentinel, .sentinel, .data, .data], laidTests := true, laidLooks := .later }
def MergeHandsUptoCardSaid : Prop := Claim7.holds Tryz.pinned (.plain (OpenSpec.upto mergeHandsSpec)) mergeHandsUptoCard

/-- THE SECOND FORM's CARD OF 'scclaw6.MergeChain'. -/
def mergeChainUptoCard : Claim7 := { stood := { row := mergeChainUptoRow, standIns := [], harness := (true, "05fc3ca5e66cc3a1e82f3bd77dc13f21e7ce7bf6a8e91d90c1384bb2c337d0de"), looks := true }, kinds := [], alts := [], laidByText := true, laidKinds := [.data, .data, .data, .sentinel, .sentinel, .data, .data], laidTests := true, laidLooks := .later }
def MergeChainUptoCardSaid : Prop := Claim7.holds Tryz.pinned (.plain (OpenSpec.upto mergeChainSpec)) mergeChainUptoCard
end Rows
end Go.Proofs.YtomgjjngkffbbaaGreatDoor
