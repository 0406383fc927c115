
/- Package sort: the rows that are like none ahead. Conditions: as each theorem says. -/
import Derived.Test.YtbiikodnfaeceaaGreatDoorSc
import Derived.OwnWalk
import Derived.Deep.AppendLies
namespace Go.Proofs.YtbiikodnfaeceaaGreatDoor.so
open Go.RowKit Go.Sort Go.Shelf
end Go.Proofs.YtbiikodnfaeceaaGreatDoor.so
