/-
  DERIVED. GIVEN WITH THE SEED: THE CARDS: each row of YtehamdkjdbaceaaDoorRows.lean that lists a variable, with what it lists TIED to the program's text (the seventh form; the later family's looks); each row that meets fmt, with fmt's text TOLD by the authors' own Lean function (tested against real Go, not proved from fmt's source: count such statements apart). THE CARD IS WHAT COUNTS. Prove the row's statement (the work); the ties are given (YtehamdkjdbaceaaDoorTie.lean); close each card by the builder's one call (the guide's Derived/Test/ToyasCard.lean, 'card_holds'). Laid BY PROGRAM, IN A SANDBOX (cutbox-door.mjs). By AI agents, Wed Nov 11 2026. No macro, syntax, notation, axiom, sorry.
-/
import Derived.Test.YtehamdkjdbaceaaDoorRows
import GoSem.ClaimSeven
namespace Go.Proofs.YtehamdkjdbaceaaDoor
namespace Rows

/-- THE TIED CARD OF 'scclaw3.SortRows'. -/
def sortRowsCard : Claim7 := { stood := { row := sortRowsRow, standIns := [], harness := (true, "55e97a7bbfb3a2eb839a120a7155e4ed59a225ea57f5910f61ec722671d65fd0"), looks := true }, kinds := [], alts := [], laidByText := true, laidKinds := [.handle], laidTests := true, laidLooks := .later }
def SortRowsCardSaid : Prop := Claim7.holds Tryd.pinned (.plain (OpenSpec.ofChange sortRowsSpec)) sortRowsCard

/-- THE TIED CARD OF 'scclaw3.SortDistinct'. -/
def sortDistinctCard : Claim7 := { stood := { row := sortDistinctRow, standIns := [], harness := (true, "55e97a7bbfb3a2eb839a120a7155e4ed59a225ea57f5910f61ec722671d65fd0"), looks := true }, kinds := [], alts := [], laidByText := true, laidKinds := [.handle], laidTests := true, laidLooks := .later }
def SortDistinctCardSaid : Prop := Claim7.holds Tryd.pinned (.plain (OpenSpec.ofChange sortDistinctSpec)) sortDistinctCard

/-- THE SECOND FORM's CARD OF 'scclaw3.SortRows'. -/
def sortRowsUptoCard : Claim7 := { stood := { row := sortRowsUptoRow, standIns := [], harness := (true, "55e97a7bbfb3a2eb839a120a7155e4ed59a225ea57f5910f61ec722671d65fd0"), looks := true }, kinds := [], alts := [], laidByText := true, laidKinds := [.handle], laidTests := true, laidLooks := .later }
def SortRowsUptoCardSaid : Prop := Claim7.holds Tryd.pinned (.plain (OpenSpec.upto sortRowsSpec)) sortRowsUptoCard

/-- THE SECOND FORM's CARD OF 'scclaw3.SortDistinct'. -/
def sortDistinctUptoCard : Claim7 := { stood := { row := sortDistinctUptoRow, standIns := [], harness := (true, "55e97a7bbfb3a2eb839a120a7155e4ed59a225ea57f5910f61ec722671d65fd0"), looks := true }, kinds := [], alts := [], laidByText := true, laidKinds := [.handle], laidTests := true, laidLooks := .later }
def SortDistinctUptoCardSaid : Prop := Claim7.holds Tryd.pinned (.plain (OpenSpec.upto sortDistinctSpec)) sortDistinctUptoCard
end Rows
end Go.Proofs.YtehamdkjdbaceaaDoor
