/-
  DERIVED. GIVEN WITH THE SEED: THE CARDS: each row of YtdinmgepdeigjaaGreatDoorRows.lean that lists a variable, with what it lists TIED to the program's text (the seventh form; the later family's looks); each row that meets fmt, with fmt's text TOLD by the authors' own Lean function (tested against real Go, not proved from fmt's source: count such statements apart). THE CARD IS WHAT COUNTS. Prove the row's statement (the work); the ties are given (YtdinmgepdeigjaaGreatDoorTie.lean); close each card by the builder's one call (the guide's Derived/Test/ToyasCard.lean, 'card_holds'). Laid BY PROGRAM, IN A SANDBOX (cutbox-door.mjs). By AI agents, Wed Nov 11 2026. No macro, syntax, notation, axiom, sorry.
-/
import Derived.Test.YtdinmgepdeigjaaGreatDoorRows
import GoSem.ClaimSeven
namespace Go.Proofs.YtdinmgepdeigjaaGreatDoor
namespace Rows

/-- THE TIED CARD OF 'scclaw4.CsvKeeps'. -/
def csvKeepsCard : Claim7 := { stood := { row := csvKeepsRow, standIns := [], harness := (true, "ce509cf93c418e30141fdfd3354f70fc1a648364617eac6ad23ec6a9a34054a6"), looks := true }, kinds := [], alts := [], laidByText := true, laidKinds := [.data, .data, .data, .sentinel, .sentinel, .data, .data], laidTests := true, laidLooks := .later }
def CsvKeepsCardSaid : Prop := Claim7.holds Tryz.pinned (.plain (OpenSpec.ofChange csvKeepsSpec)) csvKeepsCard

/-- THE SECOND FORM's CARD OF 'scclaw4.CsvKeeps'. -/
def csvKeepsUptoCard : Claim7 := { stood := { row := csvKeepsUptoRow, standIns := [], harness := (true, "ce509cf93c418e30141fdfd3354f70fc1a648364617eac6ad23ec6a9a34054a6"), looks := true }, kinds := [], alts := [], laidByText := true, laidKinds := [.data, .data, .data, .sentinel, .sentinel, .data, .data], laidTests := true, laidLooks := .later }
def CsvKeepsUptoCardSaid : Prop := Claim7.holds Tryz.pinned (.plain (OpenSpec.upto csvKeepsSpec)) csvKeepsUptoCard
end Rows
end Go.Proofs.YtdinmgepdeigjaaGreatDoor
