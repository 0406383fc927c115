/-
  DERIVED. GIVEN WITH THE SEED: THE CARDS: each row of YtmaiabkggpifgaaDoorRows.lean that lists a variable, with what it lists TIED to the program's text (the seventh form; the later family's looks); each row that meets fmt, with fmt's text TOLD by the authors' own Lean function (tested against real Go, not proved from fmt's source: count such statements apart). THE CARD IS WHAT COUNTS. Prove the row's statement (the work); the ties are given (YtmaiabkggpifgaaDoorTie.lean); close each card by the builder's one call (the guide's Derived/Test/ToyasCard.lean, 'card_holds'). Laid BY PROGRAM, IN A SANDBOX (cutbox-door.mjs). By AI agents, Wed Nov 11 2026. No macro, syntax, notation, axiom, sorry.
-/
import Derived.Test.YtmaiabkggpifgaaDoorRows
import GoSem.ClaimSeven
namespace Go.Proofs.YtmaiabkggpifgaaDoor
namespace Rows

/-- THE TIED CARD OF 'scclaw1.AddrNames'. -/
def addrNamesCard : Claim7 := { stood := { row := addrNamesRow, standIns := [], harness := (true, "a9ee1acddc37c31f7d281d78c2d70e68b4ebc06bf9cd9df7361fbc347c3f61ee"), looks := true }, kinds := [], alts := [], laidByText := true, laidKinds := [.data, .data, .data, .handle], laidTests := true, laidLooks := .later }
def AddrNamesCardSaid : Prop := Claim7.holds Tryd.pinned (.plain (OpenSpec.ofChange addrNamesSpec)) addrNamesCard

/-- THE TIED CARD OF 'scclaw1.AddrShifts'. -/
def addrShiftsCard : Claim7 := { stood := { row := addrShiftsRow, standIns := [], harness := (true, "a9ee1acddc37c31f7d281d78c2d70e68b4ebc06bf9cd9df7361fbc347c3f61ee"), looks := true }, kinds := [], alts := [], laidByText := true, laidKinds := [.handle], laidTests := true, laidLooks := .later }
def AddrShiftsCardSaid : Prop := Claim7.holds Tryd.pinned (.plain (OpenSpec.ofChange addrShiftsSpec)) addrShiftsCard

/-- THE TIED CARD OF 'scclaw1.AddrBack'. -/
def addrBackCard : Claim7 := { stood := { row := addrBackRow, standIns := [], harness := (true, "a9ee1acddc37c31f7d281d78c2d70e68b4ebc06bf9cd9df7361fbc347c3f61ee"), looks := true }, kinds := [], alts := [], laidByText := true, laidKinds := [.data, .data, .data], laidTests := true, laidLooks := .later }
def AddrBackCardSaid : Prop := Claim7.holds Tryd.pinned (.plain (OpenSpec.ofChange addrBackSpec)) addrBackCard

/-- THE SECOND FORM's CARD OF 'scclaw1.AddrNames'. -/
def addrNamesUptoCard : Claim7 := { stood := { row := addrNamesUptoRow, standIns := [], harness := (true, "a9ee1acddc37c31f7d281d78c2d70e68b4ebc06bf9cd9df7361fbc347c3f61ee"), looks := true }, kinds := [], alts := [], laidByText := true, laidKinds := [.data, .data, .data, .handle], laidTests := true, laidLooks := .later }
def AddrNamesUptoCardSaid : Prop := Claim7.holds Tryd.pinned (.plain (OpenSpec.upto addrNamesSpec)) addrNamesUptoCard

/-- THE SECOND FORM's CARD OF 'scclaw1.AddrShifts'. -/
def addrShiftsUptoCard : Claim7 := { stood := { row := addrShiftsUptoRow, standIns := [], harness := (true, "a9ee1acddc37c31f7d281d78c2d70e68b4ebc06bf9cd9df7361fbc347c3f61ee"), looks := true }, kinds := [], alts := [], laidByText := true, laidKinds := [.handle], laidTests := true, laidLooks := .later }
def AddrShiftsUptoCardSaid : Prop := Claim7.holds Tryd.pinned (.plain (OpenSpec.upto addrShiftsSpec)) addrShiftsUptoCard

/-- THE SECOND FORM's CARD OF 'scclaw1.AddrBack'. -/
def addrBackUptoCard : Claim7 := { stood := { row := addrBackUptoRow, standIns := [], harness := (true, "a9ee1acddc37c31f7d281d78c2d70e68b4ebc06bf9cd9df7361fbc347c3f61ee"), looks := true }, kinds := [], alts := [], laidByText := true, laidKinds := [.data, .data, .data], laidTests := true, laidLooks := .later }
def AddrBackUptoCardSaid : Prop := Claim7.holds Tryd.pinned (.plain (OpenSpec.upto addrBackSpec)) addrBackUptoCard
end Rows
end Go.Proofs.YtmaiabkggpifgaaDoor
