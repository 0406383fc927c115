
/- Which values are some, and the operators less and equal on two values of one kind. Conditions: as each theorem says. -/
import Derived.Test.YtnelglmbckgbgaaGreatDoorLeaf
import Derived.Deep.DeepCutAuto
import Derived.Deep.RegionHeld3
namespace Go.Proofs.YtnelglmbckgbgaaGreatDoor
open Go.RowKit
/-- What a value is. -/
def isVal (k n : Int) (s : ByteArray) : Bool :=
  if k = 0 then n == 0 && s.toList.isEmpty
  else if k = 1 then s.toList.isEmpty
  else if k = 2 then n == 0 && decide ((s.size : Int) ≤ 200)
  else if k = 3 then (n == 0 || n == 1) && s.toList.isEmpty
  else if k = 4 then (decide (1 ≤ n) && decide (n ≤ 6)) && s.toList.isEmpty
  else false
theorem isBadNum_any (n : Int) (w : World) :
    Calls Tryz.prog 46 #[.int .i64 n] w fun e w' => e = .returned (.bool (decide (1 ≤ n) && decide (n ≤ 6))) ∧ w' = w := by
  by_cases h : 1 ≤ n
  · have e1 : (decide (1 ≤ n) && decide (n ≤ 6)) = decide (n ≤ 6) := by simp [h]
    rw [e1]
    clear e1
    go_enter Tryz.func46, Tryz.ntmps46
    go_wp2
    go_ret
    exact ⟨by simp, rfl⟩
  · have e1 : (decide (1 ≤ n) && decide (n ≤ 6)) = false := by simp [h]
    rw [e1]
    clear e1
    go_enter Tryz.func46, Tryz.ntmps46
    go_wp2
    go_ret
    exact ⟨rfl, rfl⟩
end Go.Proofs.YtnelglmbckgbgaaGreatDoor
