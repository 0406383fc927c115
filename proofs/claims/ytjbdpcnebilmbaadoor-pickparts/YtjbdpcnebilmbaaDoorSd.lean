
/- Package sort: the rows that are like none ahead. Conditions: as each theorem says. -/
import Derived.Test.YtjbdpcnebilmbaaDoorSc
import Derived.OwnWalk
import Derived.Deep.AppendLies
namespace Go.Proofs.YtjbdpcnebilmbaaDoor.so
open Go.RowKit Go.Sort Go.Shelf
end Go.Proofs.YtjbdpcnebilmbaaDoor.so
