/-
  DERIVED. GIVEN WITH THE SEED: THE CARDS: each row of YtbiikodnfaeceaaDoorRows.lean that lists a variable, with what it lists TIED to the program's text (the seventh form; the later family's looks); each row that meets fmt, with fmt's text TOLD by the authors' own Lean function (tested against real Go, not proved from fmt's source: count such statements apart). THE CARD IS WHAT COUNTS. Prove the row's statement (the work); the ties are given (YtbiikodnfaeceaaDoorTie.lean); close each card by the builder's one call (the guide's Derived/Test/ToyasCard.lean, 'card_holds'). Laid BY PROGRAM, IN A SANDBOX (cutbox-door.mjs). By AI agents, Wed Nov 11 2026. No macro, syntax, notation, axiom, sorry.
-/
import Derived.Test.YtbiikodnfaeceaaDoorRows
import GoSem.ClaimSeven
namespace Go.Proofs.YtbiikodnfaeceaaDoor
namespace Rows

/-- THE TIED CARD OF 'scclaw4.PickCounts'. -/
def pickCountsCard : Claim7 := { stood := { row := pickCountsRow, standIns := [], harness := (true, "1580820de84eeea58440837ba04b1f818a4628b1890225f74993b9c7b8ccd0c9"), looks := true }, kinds := [], alts := [], laidByText := true, laidKinds := [.data, .data, .data, .sentinel, .sentinel, .data], laidTests := true, laidLooks := .later }
def PickCountsCardSaid : Prop := Claim7.holds Tryd.pinned (.plain (OpenSpec.ofChange pickCountsSpec)) pickCountsCard

/-- THE SECOND FORM's CARD OF 'scclaw4.PickCounts'. -/
def pickCountsUptoCard : Claim7 := { stood := { row := pickCountsUptoRow, standIns := [], harness := (true, "1580820de84eeea58440837ba04b1f818a4628b1890225f74993b9c7b8ccd0c9"), looks := true }, kinds := [], alts := [], laidByText := true, laidKinds := [.data, .data, .data, .sentinel, .sentinel, .data], laidTests := true, laidLooks := .later }
def PickCountsUptoCardSaid : Prop := Claim7.holds Tryd.pinned (.plain (OpenSpec.upto pickCountsSpec)) pickCountsUptoCard
end Rows
end Go.Proofs.YtbiikodnfaeceaaDoor
