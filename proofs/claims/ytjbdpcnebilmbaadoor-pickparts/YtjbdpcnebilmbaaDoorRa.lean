
/- The document's tables and columns: their faults, rows that are alike, rows that are like none ahead. Conditions: as each theorem says. -/
import Derived.Test.YtjbdpcnebilmbaaDoorRw
import Derived.Test.YtjbdpcnebilmbaaDoorSf
import Derived.BigQuiet
namespace Go.Proofs.YtjbdpcnebilmbaaDoor.so
open Go.RowKit Go.Sort Go.Shelf
theorem Bw.drewN (w : World) (m : Nat) : Bw w (w.drewN m) := Gr.below ⟨m, #[], by rw [grow_empty]⟩
end Go.Proofs.YtjbdpcnebilmbaaDoor.so
