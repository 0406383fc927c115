/-
  DERIVED. GIVEN WITH THE SEED: THE CARDS: each row of YtgifkepklnhddaaGreatDoorRows.lean that lists a variable, with what it lists TIED to the program's text (the seventh form; the later family's looks); each row that meets fmt, with fmt's text TOLD by the authors' own Lean function (tested against real Go, not proved from fmt's source: count such statements apart). THE CARD IS WHAT COUNTS. Prove the row's statement (the work); the ties are given (YtgifkepklnhddaaGreatDoorTie.lean); close each card by the builder's one call (the guide's Derived/Test/ToyasCard.lean, 'card_holds'). Laid BY PROGRAM, IN A SANDBOX (cutbox-door.mjs). By AI agents, Wed Nov 11 2026. No macro, syntax, notation, axiom, sorry.
-/
import Derived.Test.YtgifkepklnhddaaGreatDoorRows
import GoSem.ClaimSeven
namespace Go.Proofs.YtgifkepklnhddaaGreatDoor
namespace Rows

/-- THE TIED CARD OF 'scclaw3.RowsInsert'. -/
def rowsInsertCard : Claim7 := { stood := { row := rowsInsertRow, standIns := [], harness := (true, "1c8ccaa9c97fb3c4540fda7131011affd9c8b3c91441ff10975a1b35cda07ed5"), looks := true }, kinds := [], alts := [], laidByText := true, laidKinds := [.data, .data, .data, .data, .handle, .sentinel, .sentinel, .data, .data, .pinned], laidTests := true, laidLooks := .later }
def RowsInsertCardSaid : Prop := Claim7.holds Tryz.pinned (.plain (OpenSpec.ofChange rowsInsertSpec)) rowsInsertCard

/-- THE TIED CARD OF 'scclaw3.RowsDelete'. -/
def rowsDeleteCard : Claim7 := { stood := { row := rowsDeleteRow, standIns := [], harness := (true, "1c8ccaa9c97fb3c4540fda7131011affd9c8b3c91441ff10975a1b35cda07ed5"), looks := true }, kinds := [], alts := [], laidByText := true, laidKinds := [.data, .data, .data, .data, .handle, .sentinel, .sentinel, .data, .data, .pinned], laidTests := true, laidLooks := .later }
def RowsDeleteCardSaid : Prop := Claim7.holds Tryz.pinned (.plain (OpenSpec.ofChange rowsDeleteSpec)) rowsDeleteCard

/-- THE TIED CARD OF 'scclaw3.FillCopies'. -/
def fillCopiesCard : Claim7 := { stood := { row := fillCopiesRow, standIns := [], harness := (true, "1c8ccaa9c97fb3c4540fda7131011affd9c8b3c91441ff10975a1b35cda07ed5"), looks := true }, kinds := [], alts := [], laidByText := true, laidKinds := [.data, .data, .data, .data, .handle, .sentinel, .sentinel, .data, .data, .pinned], laidTests := true, laidLooks := .later }
def FillCopiesCardSaid : Prop := Claim7.holds Tryz.pinned (.plain (OpenSpec.ofChange fillCopiesSpec)) fillCopiesCard

/-- THE TIED CARD OF 'scclaw3.FillCarries'. -/
def fillCarriesCard : Claim7 := { stood := { row := fillCarriesRow, standIns := [], harness := (true, "1c8ccaa9c97fb3c4540fda7131011affd9c8b3c91441ff10975a1b35cda07ed5"), looks := true }, kinds := [], alts := [], laidByText := true, laidKinds := [.data, .data, .data, .data, .handle, .sentinel, .sentinel, .data, .data, .pinned], laidTests := true, laidLooks := .later }
def FillCarriesCardSaid : Prop := Claim7.holds Tryz.pinned (.plain (OpenSpec.ofChange fillCarriesSpec)) fillCarriesCard

/-- THE TIED CARD OF 'scclaw3.FillDown'. -/
def fillDownCard : Claim7 := { stood := { row := fillDownRow, standIns := [], harness := (true, "1c8ccaa9c97fb3c4540fda7131011affd9c8b3c91441ff10975a1b35cda07ed5"), looks := true }, kinds := [], alts := [], laidByText := true, laidKinds := [.data, .data, .data, .data, .handle, .sentinel, .sentinel, .data, .data, .pinned], laidTests := true, laidLooks := .later }
def FillDownCardSaid : Prop := Claim7.holds Tryz.pinned (.plain (OpenSpec.ofChange fillDownSpec)) fillDownCard

/-- THE SECOND FORM's CARD OF 'scclaw3.RowsInsert'. -/
def rowsInsertUptoCard : Claim7 := { stood := { row := rowsInsertUptoRow, standIns := [], harness := (true, "1c8ccaa9c97fb3c4540fda7131011affd9c8b3c91441ff10975a1b35cda07ed5"), looks := true }, kinds := [], alts := [], laidByText := true, laidKinds := [.data, .data, .data, .data, .handle, .sentinel, .sentinel, .data, .data, .pinned], laidTests := true, laidLooks := .later }
def RowsInsertUptoCardSaid : Prop := Claim7.holds Tryz.pinned (.plain (OpenSpec.upto rowsInsertSpec)) rowsInsertUptoCard

/-- THE SECOND FORM's CARD OF 'scclaw3.RowsDelete'. -/
def rowsDeleteUptoCard : Claim7 := { stood := { row := rowsDeleteUptoRow, standIns := [], harness := (true, "1c8ccaa9c97fb3c4540fda7131011affd9c8b3c91441ff10975a1b35cda07ed5"), looks := true }, kinds := [], alts := [], laidByText := true, laidKinds := [.data, .data, .data, .data, .handle, .sentinel, .sentinel, .data, .data, .pinned], laidTests := true, laidLooks := .later }
def RowsDeleteUptoCardSaid : Prop := Claim7.holds Tryz.pinned (.plain (OpenSpec.upto rowsDeleteSpec)) rowsDeleteUptoCard

/-- THE SECOND FORM's CARD OF 'scclaw3.FillCopies'. -/
def fillCopiesUptoCard : Claim7 := { stood := { row := fillCopiesUptoRow, standIns := [], harness := (true, "1c8ccaa9c97fb3c4540fda7131011affd9c8b3c91441ff10975a1b35cda07ed5"), looks := true }, kinds := [], alts := [], laidByText := true, laidKinds := [.data, .data, .data, .data, .handle, .sentinel, .sentinel, .data, .data, .pinned], laidTests := true, laidLooks := .later }
def FillCopiesUptoCardSaid : Prop := Claim7.holds Tryz.pinned (.plain (OpenSpec.upto fillCopiesSpec)) fillCopiesUptoCard

/-- THE SECOND FORM's CARD OF 'scclaw3.FillCarries'. -/
def fillCarriesUptoCard : Claim7 := { stood := { row := fillCarriesUptoRow, standIns := [], harness := (true, "1c8ccaa9c97fb3c4540fda7131011affd9c8b3c91441ff10975a1b35cda07ed5"), looks := true }, kinds := [], alts := [], laidByText := true, laidKinds := [.data, .data, .data, .data, .handle, .sentinel, .sentinel, .data, .data, .pinned], laidTests := true, laidLooks := .later }
def FillCarriesUptoCardSaid : Prop := Claim7.holds Tryz.pinned (.plain (OpenSpec.upto fillCarriesSpec)) fillCarriesUptoCard

/-- THE SECOND FORM's CARD OF 'scclaw3.FillDown'. -/
def fillDownUptoCard : Claim7 := { stood := { row := fillDownUptoRow, standIns := [], harness := (true, "1c8ccaa9c97fb3c4540fda7131011affd9c8b3c91441ff10975a1b35cda07ed5"), looks := true }, kinds := [], alts := [], laidByText := true, laidKinds := [.data, .data, .data, .data, .handle, .sentinel, .sentinel, .data, .data, .pinned], laidTests := true, laidLooks := .later }
def FillDownUptoCardSaid : Prop := Claim7.holds Tryz.pinned (.plain (OpenSpec.upto fillDownSpec)) fillDownUptoCard
end Rows
end Go.Proofs.YtgifkepklnhddaaGreatDoor
