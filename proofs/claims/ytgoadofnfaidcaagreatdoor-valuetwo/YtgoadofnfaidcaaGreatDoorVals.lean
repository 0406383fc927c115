/- Which values are some, and the operators less and equal on two values of one kind. Conditions: as each theorem says. -/
import Derived.Test.YtgoadofnfaidcaaGreatDoorLeaf
import Derived.Deep.DeepCutAuto
import Derived.Deep.RegionHeld3
namespace Go.Proofs.YtgoadofnfaidcaaGreatDoor
open Go.RowKit
/-- What a value is. -/
def isVal (k n : Int) (s : ByteArray) : Bool :=
  if k = 0 then n == 0 && s.toList.isEmpty
  else if k = 1 then s.toList.isEmpty
  else if k = 2 then n == 0 && decide ((s.size : Int) ≤ 200)
  else if k = 3 then (n == 0 || n == 1) && s.toList.isEmpty
  else if k = 4 then (decide (1 ≤ n) && decide (n ≤ 6)) && s.toList.isEmpty
  else false
theorem isBadNum_any (n : Int) (w : World) :
    Calls Tryz.prog 55 #[.int .i64 n] w fun e w' => e = .returned (.bool (decide (1 ≤ n) && decide (n ≤ 6))) ∧ w' = w := by
  by_cases h : 1 ≤ n
  · have e1 : (decide (1 ≤ n) && decide (n ≤ 6)) = decide (n ≤ 6) := by simp [h]
    rw [e1]
    clear e1
    go_enter Tryz.func55, Tryz.ntmps55
    go_wp2
    go_ret
    exact ⟨by simp, rfl⟩
  · have e1 : (decide (1 ≤ n) && decide (n ≤ 6)) = false := by simp [h]
    rw [e1]
    clear e1
    go_enter Tryz.func55, Tryz.ntmps55
    go_wp2
    go_ret
    exact ⟨rfl, rfl⟩
set_option maxHeartbeats 1000000 in
theorem isValue_0 (n : Int) (s : ByteArray) (w : World) :
    Calls Tryz.prog 22 #[V 0 n s] w fun e w' => e = .returned (.bool (n == 0 && s.toList.isEmpty)) ∧ Below w.heap.size w w' := by
  by_cases h : n = 0
  · have h1 : (n == 0) = true := beq_iff_eq.2 h
    rw [h1, Bool.true_and]
    clear h
    go_enter Tryz.func22, Tryz.ntmps22
    go_wp2_with (first | (go_at_call 55; refine (isBadNum_any _ _).mono ?_; rintro e w' ⟨rfl, rfl⟩))
    go_ret
    exact ⟨by simp, (Below.refl _ _).alloc (Nat.le_refl _) _⟩
  · have h1 : (n == 0) = false := beq_eq_false_iff_ne.2 h
    rw [h1, Bool.false_and]
    clear h
    go_enter Tryz.func22, Tryz.ntmps22
    go_wp2_with (first | (go_at_call 55; refine (isBadNum_any _ _).mono ?_; rintro e w' ⟨rfl, rfl⟩))
    go_ret
    exact ⟨by simp, (Below.refl _ _).alloc (Nat.le_refl _) _⟩
set_option maxHeartbeats 1000000 in
theorem isValue_1 (n : Int) (s : ByteArray) (w : World) :
    Calls Tryz.prog 22 #[V 1 n s] w fun e w' => e = .returned (.bool (s.toList.isEmpty)) ∧ Below w.heap.size w w' := by
  go_enter Tryz.func22, Tryz.ntmps22
  go_wp2_with (first | (go_at_call 55; refine (isBadNum_any _ _).mono ?_; rintro e w' ⟨rfl, rfl⟩))
  go_ret
  exact ⟨by simp, (Below.refl _ _).alloc (Nat.le_refl _) _⟩
set_option maxHeartbeats 1000000 in
theorem isValue_2 (n : Int) (s : ByteArray) (w : World) :
    Calls Tryz.prog 22 #[V 2 n s] w fun e w' => e = .returned (.bool (n == 0 && decide ((s.size : Int) ≤ 200))) ∧ Below w.heap.size w w' := by
  by_cases h : n = 0
  · have h1 : (n == 0) = true := beq_iff_eq.2 h
    rw [h1, Bool.true_and]
    clear h
    go_enter Tryz.func22, Tryz.ntmps22
    go_wp2_with (first | (go_at_call 55; refine (isBadNum_any _ _).mono ?_; rintro e w' ⟨rfl, rfl⟩))
    go_ret
    exact ⟨by simp, (Below.refl _ _).alloc (Nat.le_refl _) _⟩
  · have h1 : (n == 0) = false := beq_eq_false_iff_ne.2 h
    rw [h1, Bool.false_and]
    clear h
    go_enter Tryz.func22, Tryz.ntmps22
    go_wp2_with (first | (go_at_call 55; refine (isBadNum_any _ _).mono ?_; rintro e w' ⟨rfl, rfl⟩))
    go_ret
    exact ⟨by simp, (Below.refl _ _).alloc (Nat.le_refl _) _⟩
set_option maxHeartbeats 1000000 in
theorem isValue_3 (n : Int) (s : ByteArray) (w : World) :
    Calls Tryz.prog 22 #[V 3 n s] w fun e w' => e = .returned (.bool ((n == 0 || n == 1) && s.toList.isEmpty)) ∧ Below w.heap.size w w' := by
  by_cases h : n = 0
  · have h1 : (n == 0) = true := beq_iff_eq.2 h
    rw [h1, Bool.true_or, Bool.true_and]
    clear h
    go_enter Tryz.func22, Tryz.ntmps22
    go_wp2_with (first | (go_at_call 55; refine (isBadNum_any _ _).mono ?_; rintro e w' ⟨rfl, rfl⟩))
    go_ret
    exact ⟨by simp, (Below.refl _ _).alloc (Nat.le_refl _) _⟩
  have h1 : (n == 0) = false := beq_eq_false_iff_ne.2 h
  by_cases g : n = 1
  · have h2 : (n == 1) = true := beq_iff_eq.2 g
    rw [h1, h2, Bool.false_or, Bool.true_and]
    clear h g
    go_enter Tryz.func22, Tryz.ntmps22
    go_wp2_with (first | (go_at_call 55; refine (isBadNum_any _ _).mono ?_; rintro e w' ⟨rfl, rfl⟩))
    go_ret
    exact ⟨by simp, (Below.refl _ _).alloc (Nat.le_refl _) _⟩
  · have h2 : (n == 1) = false := beq_eq_false_iff_ne.2 g
    rw [h1, h2, Bool.false_or, Bool.false_and]
    clear h g
    go_enter Tryz.func22, Tryz.ntmps22
    go_wp2_with (first | (go_at_call 55; refine (isBadNum_any _ _).mono ?_; rintro e w' ⟨rfl, rfl⟩))
    go_ret
    exact ⟨by simp, (Below.refl _ _).alloc (Nat.le_refl _) _⟩
set_option maxHeartbeats 1000000 in
theorem isValue_4 (n : Int) (s : ByteArray) (w : World) :
    Calls Tryz.prog 22 #[V 4 n s] w fun e w' => e = .returned (.bool ((decide (1 ≤ n) && decide (n ≤ 6)) && s.toList.isEmpty)) ∧ Below w.heap.size w w' := by
  by_cases h : (decide (1 ≤ n) && decide (n ≤ 6)) = true
  · rw [h, Bool.true_and]
    have HH : Hid ((decide (1 ≤ n) && decide (n ≤ 6)) = true) := h
    clear h
    go_enter Tryz.func22, Tryz.ntmps22
    go_wp2_with fail
    refine (isBadNum_any _ _).mono ?_
    rintro e w' ⟨rfl, rfl⟩
    rw [HH.out]
    go_wp2
    go_ret
    exact ⟨by simp, (Below.refl _ _).alloc (Nat.le_refl _) _⟩
  · rw [Bool.not_eq_true] at h
    rw [h, Bool.false_and]
    have HH : Hid ((decide (1 ≤ n) && decide (n ≤ 6)) = false) := h
    clear h
    go_enter Tryz.func22, Tryz.ntmps22
    go_wp2_with fail
    refine (isBadNum_any _ _).mono ?_
    rintro e w' ⟨rfl, rfl⟩
    rw [HH.out]
    go_wp2
    go_ret
    exact ⟨by simp, (Below.refl _ _).alloc (Nat.le_refl _) _⟩
set_option maxHeartbeats 1000000 in
theorem isValue_none (k n : Int) (s : ByteArray) (w : World) (h0 : (k == 0) = false) (h1 : (k == 1) = false) (h2 : (k == 2) = false) (h3 : (k == 3) = false) (h4 : (k == 4) = false) :
    Calls Tryz.prog 22 #[V k n s] w fun e w' => e = .returned (.bool false) ∧ Below w.heap.size w w' := by
  go_enter Tryz.func22, Tryz.ntmps22
  go_wp2
  go_ret
  exact ⟨rfl, (Below.refl _ _).alloc (Nat.le_refl _) _⟩
theorem isValue_any (k n : Int) (s : ByteArray) (w : World) :
    Calls Tryz.prog 22 #[V k n s] w fun e w' => e = .returned (.bool (isVal k n s)) ∧ Below w.heap.size w w' := by
  unfold isVal
  by_cases h0 : k = 0
  · subst h0; rw [if_pos rfl]; exact isValue_0 n s w
  by_cases h1 : k = 1
  · subst h1; rw [if_neg h0, if_pos rfl]; exact isValue_1 n s w
  by_cases h2 : k = 2
  · subst h2; rw [if_neg h0, if_neg h1, if_pos rfl]; exact isValue_2 n s w
  by_cases h3 : k = 3
  · subst h3; rw [if_neg h0, if_neg h1, if_neg h2, if_pos rfl]; exact isValue_3 n s w
  by_cases h4 : k = 4
  · subst h4; rw [if_neg h0, if_neg h1, if_neg h2, if_neg h3, if_pos rfl]; exact isValue_4 n s w
  rw [if_neg h0, if_neg h1, if_neg h2, if_neg h3, if_neg h4]
  exact isValue_none k n s w (beq_eq_false_iff_ne.2 h0) (beq_eq_false_iff_ne.2 h1) (beq_eq_false_iff_ne.2 h2) (beq_eq_false_iff_ne.2 h3) (beq_eq_false_iff_ne.2 h4)
set_option maxHeartbeats 1000000 in
theorem check_yes (k n : Int) (s : ByteArray) (w : World) (h : isVal k n s = true) :
    Calls Tryz.prog 6 #[V k n s] w fun e w' => e = .returned .nilIface ∧ Below w.heap.size w w' := by
  have HH : Hid (isVal k n s = true) := h
  clear h
  go_enter Tryz.func6, Tryz.ntmps6
  go_wp2_with fail
  refine (isValue_any _ _ _ _).mono ?_
  rintro e w1 ⟨rfl, h1⟩
  rw [HH.out]
  go_wp2
  go_ret
  exact ⟨rfl, bnext ((Below.refl _ _).alloc (Nat.le_refl _) _) h1 (by simp)⟩
set_option maxHeartbeats 1000000 in
theorem check_no (k n : Int) (s : ByteArray) (w : World) (h : isVal k n s = false) :
    Calls Tryz.prog 6 #[V k n s] w fun e w' => e = .returned (.iface 36 (.int .i64 1)) ∧ Below w.heap.size w w' := by
  have HH : Hid (isVal k n s = false) := h
  clear h
  go_enter Tryz.func6, Tryz.ntmps6
  go_wp2_with fail
  refine (isValue_any _ _ _ _).mono ?_
  rintro e w1 ⟨rfl, h1⟩
  rw [HH.out]
  go_wp2
  go_ret
  exact ⟨rfl, bnext ((Below.refl _ _).alloc (Nat.le_refl _) _) h1 (by simp)⟩
end Go.Proofs.YtgoadofnfaidcaaGreatDoor
