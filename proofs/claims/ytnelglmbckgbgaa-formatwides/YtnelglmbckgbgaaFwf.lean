
/- The law FormatWide, whole, by what Wide, Column and Number answer. Conditions: as each theorem says. -/
import Derived.Test.YtnelglmbckgbgaaFwe
namespace Go.Proofs.Ytnelglmbckgbgaa.fw
open Go.RowKit Go.Sort
/-- What Column answers. -/
def coB (c : Int) : Bool := decide (1 ≤ c) && decide (c ≤ 1000000)
def coE (c : Int) : Int := if coB c = true then 0 else 1
def coT (c : Int) : ByteArray := if coB c = true then txt (letL c.toNat) else ⟨#[]⟩
/-- What Wide answers. -/
def wiB (wide side : Int) : Bool := decide (0 ≤ wide) && decide (wide ≤ 200) && decide (0 ≤ side) && decide (side ≤ 2)
def wiE (wide side : Int) : Int := if wiB wide side = true then 0 else 1
def wiT (s : ByteArray) (wide side : Int) : ByteArray := if wiB wide side = true then txt (wideL s.toList wide.toNat side) else ⟨#[]⟩
end Go.Proofs.Ytnelglmbckgbgaa.fw
