
/- Sums of whole numbers of any size, neither less than 0. Conditions: as each theorem says. -/
import Derived.Test.YtnelglmbckgbgaaGreatDoorInt
namespace Go.Proofs.YtnelglmbckgbgaaGreatDoor
open Go.RowKit
end Go.Proofs.YtnelglmbckgbgaaGreatDoor
