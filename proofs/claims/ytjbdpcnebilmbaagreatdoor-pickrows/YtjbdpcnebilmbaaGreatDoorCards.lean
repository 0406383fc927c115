/-
  DERIVED. GIVEN WITH THE SEED: THE CARDS: each row of YtjbdpcnebilmbaaGreatDoorRows.lean that lists a variable, with what it lists TIED to the program's text (the seventh form; the later family's looks); each row that meets fmt, with fmt's text TOLD by the authors' own Lean function (tested against real Go, not proved from fmt's source: count such statements apart). THE CARD IS WHAT COUNTS. Prove the row's statement (the work); the ties are given (YtjbdpcnebilmbaaGreatDoorTie.lean); close each card by the builder's one call (the guide's Derived/Test/ToyasCard.lean, 'card_holds'). Laid BY PROGRAM, IN A SANDBOX (cutbox-door.mjs). By AI agents, Wed Nov 11 2026. No macro, syntax, notation, axiom, sorry.
-/
import Derived.Test.YtjbdpcnebilmbaaGreatDoorRows
import GoSem.ClaimSeven
namespace Go.Proofs.YtjbdpcnebilmbaaGreatDoor
namespace Rows

/-- THE TIED CARD OF 'scclaw3.PickRows'. -/
def pickRowsCard : Claim7 := { stood := { row := pickRowsRow, standIns := [], harness := (true, "e3cc28ae494e0c19f59b3775ca55ad85d281de71fa083e47fa55546b8c31f2e1"), looks := true }, kinds := [], alts := [], laidByText := true, laidKinds := [.data, .data, .data, .handle, .sentinel, .sentinel, .data], laidTests := true, laidLooks := .later }
def PickRowsCardSaid : Prop := Claim7.holds Tryz.pinned (.plain (OpenSpec.ofChange pickRowsSpec)) pickRowsCard

/-- THE SECOND FORM's CARD OF 'scclaw3.PickRows'. -/
def pickRowsUptoCard : Claim7 := { stood := { row := pickRowsUptoRow, standIns := [], harness := (true, "e3cc28ae494e0c19f59b3775ca55ad85d281de71fa083e47fa55546b8c31f2e1"), looks := true }, kinds := [], alts := [], laidByText := true, laidKinds := [.data, .data, .data, .handle, .sentinel, .sentinel, .data], laidTests := true, laidLooks := .later }
def PickRowsUptoCardSaid : Prop := Claim7.holds Tryz.pinned (.plain (OpenSpec.upto pickRowsSpec)) pickRowsUptoCard
end Rows
end Go.Proofs.YtjbdpcnebilmbaaGreatDoor
