
/- The contract of the insertion sort of package slices at numbers, laid out of the shelf. Nothing is walked here. -/
import Derived.Shelf.SlSortCmp.Insertion1
import Derived.Test.YtehamdkjdbaceaaProg
namespace Go.Proofs
open Go.Shelf
def Try.sortF_ren : Go.Shelf.Ren := ⟨fun | 20 => 28 | n => n, fun | 22 => 24 | 24 => 3 | 25 => 46 | n => n, fun | n => n⟩
theorem Try.sortF : Go.Proofs.SlLaysF.n20 Try.prog Try.sortF_ren := {
  mixed := by kernel_rfl
  f20 := ⟨Try.f28.name, by decide, Try.func28.trans (congrArg some (by kernel_rfl))⟩
  t0 := Try.underlying0
  a0 := Try.isAgg0
  z0 := Try.sizeOf0
  v0 := Try.zeroValue0
  t3 := Try.underlying3
  a3 := Try.isAgg3
  z3 := Try.sizeOf3
  v3 := Try.zeroValue3
  t4 := Try.underlying4
  a4 := Try.isAgg4
  z4 := Try.sizeOf4
  v4 := Try.zeroValue4
  t22 := Try.underlying24
  a22 := Try.isAgg24
  z22 := Try.sizeOf24
  v22 := Try.zeroValue24
  a24 := Try.isAgg3
  z24 := Try.sizeOf3
  t25 := Try.underlying46
  a25 := Try.isAgg46
  z25 := Try.sizeOf46
  v25 := Try.zeroValue46
}
end Go.Proofs
