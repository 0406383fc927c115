/- The corners of a box, which box is one, which cell stands ahead. Conditions: none. -/
import Derived.Test.YtmaiabkggpifgaaDoorArsh
import Derived.Test.YtmaiabkggpifgaaDoorAshape
namespace Go.Proofs.YtmaiabkggpifgaaDoor.adr
open Go.RowKit
/-- Does a cell stand ahead of another one? -/
def ahB (ac ar bc br : Int) : Bool := if ar = br then decide (ac < bc) else decide (ar < br)
set_option maxHeartbeats 1000000 in
theorem less_any (ac ar bc br : Int) (w : World) :
    Calls Tryd.prog 23 #[C ac ar, C bc br] w fun e w' => e = .returned (.bool (ahB ac ar bc br)) ∧ Below w.heap.size w w' := by
  by_cases h : ar = br
  · have e1 : ahB ac ar bc br = decide (ac < bc) := by unfold ahB; rw [if_pos h]
    have h1 : (ar != br) = false := by simp [h]
    rw [e1]
    clear e1 h
    go_enter Tryd.func23, Tryd.ntmps23
    go_wp2
    go_ret
    exact ⟨by simp, by (repeat (first | exact Below.refl _ _ | assumption | (refine Below.setCell ?_ (by first | omega | (simp <;> omega)) _) | (refine Below.alloc ?_ (by first | omega | (simp <;> omega)) _) | (refine Below.drew ?_)))⟩
  · have e1 : ahB ac ar bc br = decide (ar < br) := by unfold ahB; rw [if_neg h]
    have h1 : (ar != br) = true := by simp [h]
    rw [e1]
    clear e1 h
    go_enter Tryd.func23, Tryd.ntmps23
    go_wp2
    go_ret
    exact ⟨by simp, by (repeat (first | exact Below.refl _ _ | assumption | (refine Below.setCell ?_ (by first | omega | (simp <;> omega)) _) | (refine Below.alloc ?_ (by first | omega | (simp <;> omega)) _) | (refine Below.drew ?_)))⟩
set_option maxHeartbeats 1000000 in
theorem ahead_any (ac ar bc br : Int) (w : World) :
    Calls Tryd.prog 24 #[C ac ar, C bc br] w fun e w' => e = .returned (.bool (ahB ac ar bc br)) ∧ Below w.heap.size w w' := by
  by_cases h : ar = br
  · have e1 : ahB ac ar bc br = decide (ac < bc) := by unfold ahB; rw [if_pos h]
    have h1 : (ar != br) = false := by simp [h]
    rw [e1]
    clear e1 h
    go_enter Tryd.func24, Tryd.ntmps24
    go_wp2
    go_ret
    exact ⟨by simp, by (repeat (first | exact Below.refl _ _ | assumption | (refine Below.setCell ?_ (by first | omega | (simp <;> omega)) _) | (refine Below.alloc ?_ (by first | omega | (simp <;> omega)) _) | (refine Below.drew ?_)))⟩
  · have e1 : ahB ac ar bc br = decide (ar < br) := by unfold ahB; rw [if_neg h]
    have h1 : (ar != br) = true := by simp [h]
    rw [e1]
    clear e1 h
    go_enter Tryd.func24, Tryd.ntmps24
    go_wp2
    go_ret
    exact ⟨by simp, by (repeat (first | exact Below.refl _ _ | assumption | (refine Below.setCell ?_ (by first | omega | (simp <;> omega)) _) | (refine Below.alloc ?_ (by first | omega | (simp <;> omega)) _) | (refine Below.drew ?_)))⟩
set_option maxRecDepth 100000 in
set_option maxHeartbeats 4000000 in
theorem corn_00 (ac ar bc br : Int) (h1 : ¬ bc < ac) (h2 : ¬ br < ar) (w : World) :
    Calls Tryd.prog 17 #[C ac ar, C bc br] w fun e w' => e = .returned (X ac ar bc br) ∧ Below w.heap.size w w' := by
  go_enter Tryd.func17, Tryd.ntmps17
  go_wp2_with fail
  exact bodyPost_ret (v := X ac ar bc br) (by simp [results, Tryd.results17, go_sem]) rfl ⟨rfl, by (repeat (first | exact Below.refl _ _ | assumption | (refine Below.setCell ?_ (by first | omega | (simp <;> omega)) _) | (refine Below.alloc ?_ (by first | omega | (simp <;> omega)) _) | (refine Below.drew ?_)))⟩
set_option maxRecDepth 100000 in
set_option maxHeartbeats 4000000 in
theorem corn_01 (ac ar bc br : Int) (h1 : ¬ bc < ac) (h2 : br < ar) (w : World) :
    Calls Tryd.prog 17 #[C ac ar, C bc br] w fun e w' => e = .returned (X ac br bc ar) ∧ Below w.heap.size w w' := by
  go_enter Tryd.func17, Tryd.ntmps17
  go_wp2_with fail
  exact bodyPost_ret (v := X ac br bc ar) (by simp [results, Tryd.results17, go_sem]) rfl ⟨rfl, by (repeat (first | exact Below.refl _ _ | assumption | (refine Below.setCell ?_ (by first | omega | (simp <;> omega)) _) | (refine Below.alloc ?_ (by first | omega | (simp <;> omega)) _) | (refine Below.drew ?_)))⟩
set_option maxRecDepth 100000 in
set_option maxHeartbeats 4000000 in
theorem corn_10 (ac ar bc br : Int) (h1 : bc < ac) (h2 : ¬ br < ar) (w : World) :
    Calls Tryd.prog 17 #[C ac ar, C bc br] w fun e w' => e = .returned (X bc ar ac br) ∧ Below w.heap.size w w' := by
  go_enter Tryd.func17, Tryd.ntmps17
  go_wp2_with fail
  exact bodyPost_ret (v := X bc ar ac br) (by simp [results, Tryd.results17, go_sem]) rfl ⟨rfl, by (repeat (first | exact Below.refl _ _ | assumption | (refine Below.setCell ?_ (by first | omega | (simp <;> omega)) _) | (refine Below.alloc ?_ (by first | omega | (simp <;> omega)) _) | (refine Below.drew ?_)))⟩
set_option maxRecDepth 100000 in
set_option maxHeartbeats 4000000 in
theorem corn_11 (ac ar bc br : Int) (h1 : bc < ac) (h2 : br < ar) (w : World) :
    Calls Tryd.prog 17 #[C ac ar, C bc br] w fun e w' => e = .returned (X bc br ac ar) ∧ Below w.heap.size w w' := by
  go_enter Tryd.func17, Tryd.ntmps17
  go_wp2_with fail
  exact bodyPost_ret (v := X bc br ac ar) (by simp [results, Tryd.results17, go_sem]) rfl ⟨rfl, by (repeat (first | exact Below.refl _ _ | assumption | (refine Below.setCell ?_ (by first | omega | (simp <;> omega)) _) | (refine Below.alloc ?_ (by first | omega | (simp <;> omega)) _) | (refine Below.drew ?_)))⟩
theorem corners_any (ac ar bc br : Int) (w : World) :
    Calls Tryd.prog 17 #[C ac ar, C bc br] w fun e w' => e = .returned (X (min ac bc) (min ar br) (max ac bc) (max ar br)) ∧ Below w.heap.size w w' := by
  by_cases h1 : bc < ac
  · by_cases h2 : br < ar
    · rw [show min ac bc = bc from by omega, show max ac bc = ac from by omega, show min ar br = br from by omega, show max ar br = ar from by omega]
      exact corn_11 ac ar bc br h1 h2 w
    · rw [show min ac bc = bc from by omega, show max ac bc = ac from by omega, show min ar br = ar from by omega, show max ar br = br from by omega]
      exact corn_10 ac ar bc br h1 h2 w
  · by_cases h2 : br < ar
    · rw [show min ac bc = ac from by omega, show max ac bc = bc from by omega, show min ar br = br from by omega, show max ar br = ar from by omega]
      exact corn_01 ac ar bc br h1 h2 w
    · rw [show min ac bc = ac from by omega, show max ac bc = bc from by omega, show min ar br = ar from by omega, show max ar br = br from by omega]
      exact corn_00 ac ar bc br h1 h2 w
end Go.Proofs.YtmaiabkggpifgaaDoor.adr
