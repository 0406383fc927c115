/-
  DERIVED. GIVEN WITH THE SEED: THE CARDS: each row of YtpgjmbbdhilhkaaGreatDoorRows.lean that lists a variable, with what it lists TIED to the program's text (the seventh form; the later family's looks); each row that meets fmt, with fmt's text TOLD by the authors' own Lean function (tested against real Go, not proved from fmt's source: count such statements apart). THE CARD IS WHAT COUNTS. Prove the row's statement (the work); the ties are given (YtpgjmbbdhilhkaaGreatDoorTie.lean); close each card by the builder's one call (the guide's Derived/Test/ToyasCard.lean, 'card_holds'). Laid BY PROGRAM, IN A SANDBOX (cutbox-door.mjs). By AI agents, Wed Nov 11 2026. No macro, syntax, notation, axiom, sorry.
-/
import Derived.Test.YtpgjmbbdhilhkaaGreatDoorRows
import GoSem.ClaimSeven
namespace Go.Proofs.YtpgjmbbdhilhkaaGreatDoor
namespace Rows

/-- THE TIED CARD OF 'scclaw2.PastBack'. -/
def pastBackCard : Claim7 := { stood := { row := pastBackRow, standIns := [], harness := (true, "377310c7ceb41ec95da74e9ce6554036348cba7f76ccfa3c5c1396f47043ca4c"), looks := true }, kinds := [], alts := [], laidByText := true, laidKinds := [.data, .data, .data, .sentinel, .sentinel, .data, .data], laidTests := true, laidLooks := .later }
def PastBackCardSaid : Prop := Claim7.holds Tryz.pinned (.plain (OpenSpec.ofChange pastBackSpec)) pastBackCard

/-- THE TIED CARD OF 'scclaw6.PastGroups'. -/
def pastGroupsCard : Claim7 := { stood := { row := pastGroupsRow, standIns := [], harness := (true, "377310c7ceb41ec95da74e9ce6554036348cba7f76ccfa3c5c1396f47043ca4c"), looks := true }, kinds := [], alts := [], laidByText := true, laidKinds := [.data, .data, .data, .sentinel, .sentinel, .data, .data], laidTests := true, laidLooks := .later }
def PastGroupsCardSaid : Prop := Claim7.holds Tryz.pinned (.plain (OpenSpec.ofChange pastGroupsSpec)) pastGroupsCard

/-- THE SECOND FORM's CARD OF 'scclaw2.PastBack'. -/
def pastBackUptoCard : Claim7 := { stood := { row := pastBackUptoRow, standIns := [], harness := (true, "377310c7ceb41ec95da74e9ce6554036348cba7f76ccfa3c5c1396f47043ca4c"), looks := true }, kinds := [], alts := [], laidByText := true, laidKinds := [.data, .data, .data, .sentinel, .sentinel, .data, .data], laidTests := true, laidLooks := .later }
def PastBackUptoCardSaid : Prop := Claim7.holds Tryz.pinned (.plain (OpenSpec.upto pastBackSpec)) pastBackUptoCard

/-- THE SECOND FORM's CARD OF 'scclaw6.PastGroups'. -/
def pastGroupsUptoCard : Claim7 := { stood := { row := pastGroupsUptoRow, standIns := [], harness := (true, "377310c7ceb41ec95da74e9ce6554036348cba7f76ccfa3c5c1396f47043ca4c"), looks := true }, kinds := [], alts := [], laidByText := true, laidKinds := [.data, .data, .data, .sentinel, .sentinel, .data, .data], laidTests := true, laidLooks := .later }
def PastGroupsUptoCardSaid : Prop := Claim7.holds Tryz.pinned (.plain (OpenSpec.upto pastGroupsSpec)) pastGroupsUptoCard
end Rows
end Go.Proofs.YtpgjmbbdhilhkaaGreatDoor
