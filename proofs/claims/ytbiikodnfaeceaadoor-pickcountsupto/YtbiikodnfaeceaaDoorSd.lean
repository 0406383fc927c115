
/- Package sort: the rows that are like none ahead. Conditions: as each theorem says. -/
import Derived.Test.YtbiikodnfaeceaaDoorSc
import Derived.OwnWalk
import Derived.Deep.AppendLies
namespace Go.Proofs.YtbiikodnfaeceaaDoor.so
open Go.RowKit Go.Sort Go.Shelf
end Go.Proofs.YtbiikodnfaeceaaDoor.so
