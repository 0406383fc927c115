/-
  DERIVED. GIVEN WITH THE SEED: THE CARDS: each row of YtjbdpcnebilmbaaDoorRows.lean that lists a variable, with what it lists TIED to the program's text (the seventh form; the later family's looks); each row that meets fmt, with fmt's text TOLD by the authors' own Lean function (tested against real Go, not proved from fmt's source: count such statements apart). THE CARD IS WHAT COUNTS. Prove the row's statement (the work); the ties are given (YtjbdpcnebilmbaaDoorTie.lean); close each card by the builder's one call (the guide's Derived/Test/ToyasCard.lean, 'card_holds'). Laid BY PROGRAM, IN A SANDBOX (cutbox-door.mjs). By AI agents, Wed Nov 11 2026. No macro, syntax, notation, axiom, sorry.
-/
import Derived.Test.YtjbdpcnebilmbaaDoorRows
import GoSem.ClaimSeven
namespace Go.Proofs.YtjbdpcnebilmbaaDoor
namespace Rows

/-- THE TIED CARD OF 'scclaw4.PickParts'. -/
def pickPartsCard : Claim7 := { stood := { row := pickPartsRow, standIns := [], harness := (true, "8b24bea444fccce33db149ba77430207b6aaa20a5c5840eeb7fd9a547423cd70"), looks := true }, kinds := [], alts := [], laidByText := true, laidKinds := [.data, .data, .data, .sentinel, .sentinel, .data], laidTests := true, laidLooks := .later }
def PickPartsCardSaid : Prop := Claim7.holds Tryd.pinned (.plain (OpenSpec.ofChange pickPartsSpec)) pickPartsCard

/-- THE SECOND FORM's CARD OF 'scclaw4.PickParts'. -/
def pickPartsUptoCard : Claim7 := { stood := { row := pickPartsUptoRow, standIns := [], harness := (true, "8b24bea444fccce33db149ba77430207b6aaa20a5c5840eeb7fd9a547423cd70"), looks := true }, kinds := [], alts := [], laidByText := true, laidKinds := [.data, .data, .data, .sentinel, .sentinel, .data], laidTests := true, laidLooks := .later }
def PickPartsUptoCardSaid : Prop := Claim7.holds Tryd.pinned (.plain (OpenSpec.upto pickPartsSpec)) pickPartsUptoCard
end Rows
end Go.Proofs.YtjbdpcnebilmbaaDoor
