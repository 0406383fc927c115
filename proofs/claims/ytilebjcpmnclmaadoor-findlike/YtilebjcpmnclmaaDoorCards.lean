/-
  DERIVED. GIVEN WITH THE SEED: THE CARDS: each row of YtilebjcpmnclmaaDoorRows.lean that lists a variable, with what it lists TIED to the program's text (the seventh form; the later family's looks); each row that meets fmt, with fmt's text TOLD by the authors' own Lean function (tested against real Go, not proved from fmt's source: count such statements apart). THE CARD IS WHAT COUNTS. Prove the row's statement (the work); the ties are given (YtilebjcpmnclmaaDoorTie.lean); close each card by the builder's one call (the guide's Derived/Test/ToyasCard.lean, 'card_holds'). Laid BY PROGRAM, IN A SANDBOX (cutbox-door.mjs). By AI agents, Wed Nov 11 2026. No macro, syntax, notation, axiom, sorry.
-/
import Derived.Test.YtilebjcpmnclmaaDoorRows
import GoSem.ClaimSeven
namespace Go.Proofs.YtilebjcpmnclmaaDoor
namespace Rows

/-- THE TIED CARD OF 'scclaw3.FindLike'. -/
def findLikeCard : Claim7 := { stood := { row := findLikeRow, standIns := [], harness := (true, "b86590dd7a990ab553daf0254104878a9f041fe241bf2e03d91805efc14615c1"), looks := true }, kinds := [], alts := [], laidByText := true, laidKinds := [.handle], laidTests := true, laidLooks := .later }
def FindLikeCardSaid : Prop := Claim7.holds Tryd.pinned (.plain (OpenSpec.ofChange findLikeSpec)) findLikeCard

/-- THE SECOND FORM's CARD OF 'scclaw3.FindLike'. -/
def findLikeUptoCard : Claim7 := { stood := { row := findLikeUptoRow, standIns := [], harness := (true, "b86590dd7a990ab553daf0254104878a9f041fe241bf2e03d91805efc14615c1"), looks := true }, kinds := [], alts := [], laidByText := true, laidKinds := [.handle], laidTests := true, laidLooks := .later }
def FindLikeUptoCardSaid : Prop := Claim7.holds Tryd.pinned (.plain (OpenSpec.upto findLikeSpec)) findLikeUptoCard
end Rows
end Go.Proofs.YtilebjcpmnclmaaDoor
