/- Which values are some by the reference, and how it shows one. Conditions: as each theorem says. -/
import Derived.Test.YtgoadofnfaidcaaGreatDoorVNum
namespace Go.Proofs.YtgoadofnfaidcaaGreatDoor
open Go.RowKit
set_option maxHeartbeats 2000000 in
theorem is_0a (n : Int) (s : ByteArray) (w : World) (h : (n == 0) = true) :
    Calls Tryz.prog 5 #[V 0 n s] w fun e w' => e = .returned (.bool s.toList.isEmpty) ∧ Below w.heap.size w w' := by
  go_enter Tryz.func5, Tryz.ntmps5
  go_wp2_with fail
  go_ret
  exact ⟨by simp, (Below.refl _ _).alloc (Nat.le_refl _) _⟩
set_option maxHeartbeats 2000000 in
theorem is_0b (n : Int) (s : ByteArray) (w : World) (h : (n == 0) = false) :
    Calls Tryz.prog 5 #[V 0 n s] w fun e w' => e = .returned (.bool false) ∧ Below w.heap.size w w' := by
  go_enter Tryz.func5, Tryz.ntmps5
  go_wp2_with fail
  go_ret
  exact ⟨rfl, (Below.refl _ _).alloc (Nat.le_refl _) _⟩
set_option maxHeartbeats 2000000 in
theorem is_1 (n : Int) (s : ByteArray) (w : World) :
    Calls Tryz.prog 5 #[V 1 n s] w fun e w' => e = .returned (.bool s.toList.isEmpty) ∧ Below w.heap.size w w' := by
  go_enter Tryz.func5, Tryz.ntmps5
  go_wp2_with fail
  go_ret
  exact ⟨by simp, (Below.refl _ _).alloc (Nat.le_refl _) _⟩
set_option maxHeartbeats 2000000 in
theorem is_2a (n : Int) (s : ByteArray) (w : World) (h : (n == 0) = true) :
    Calls Tryz.prog 5 #[V 2 n s] w fun e w' => e = .returned (.bool (decide ((s.size : Int) ≤ 200))) ∧ Below w.heap.size w w' := by
  go_enter Tryz.func5, Tryz.ntmps5
  go_wp2_with fail
  go_ret
  exact ⟨by simp, (Below.refl _ _).alloc (Nat.le_refl _) _⟩
set_option maxHeartbeats 2000000 in
theorem is_2b (n : Int) (s : ByteArray) (w : World) (h : (n == 0) = false) :
    Calls Tryz.prog 5 #[V 2 n s] w fun e w' => e = .returned (.bool false) ∧ Below w.heap.size w w' := by
  go_enter Tryz.func5, Tryz.ntmps5
  go_wp2_with fail
  go_ret
  exact ⟨rfl, (Below.refl _ _).alloc (Nat.le_refl _) _⟩
set_option maxHeartbeats 2000000 in
theorem is_3a (n : Int) (s : ByteArray) (w : World) (h : s.toList.isEmpty = false) :
    Calls Tryz.prog 5 #[V 3 n s] w fun e w' => e = .returned (.bool false) ∧ Below w.heap.size w w' := by
  go_enter Tryz.func5, Tryz.ntmps5
  go_wp2_with fail
  go_ret
  exact ⟨rfl, (Below.refl _ _).alloc (Nat.le_refl _) _⟩
set_option maxHeartbeats 2000000 in
theorem is_3b (n : Int) (s : ByteArray) (w : World) (h : s.toList.isEmpty = true) (h2 : (n == 0) = true) :
    Calls Tryz.prog 5 #[V 3 n s] w fun e w' => e = .returned (.bool true) ∧ Below w.heap.size w w' := by
  go_enter Tryz.func5, Tryz.ntmps5
  go_wp2_with fail
  go_ret
  exact ⟨rfl, (Below.refl _ _).alloc (Nat.le_refl _) _⟩
set_option maxHeartbeats 2000000 in
theorem is_3c (n : Int) (s : ByteArray) (w : World) (h : s.toList.isEmpty = true) (h2 : (n == 0) = false) :
    Calls Tryz.prog 5 #[V 3 n s] w fun e w' => e = .returned (.bool (n == 1)) ∧ Below w.heap.size w w' := by
  go_enter Tryz.func5, Tryz.ntmps5
  go_wp2_with fail
  go_ret
  exact ⟨by simp, (Below.refl _ _).alloc (Nat.le_refl _) _⟩
set_option maxHeartbeats 2000000 in
theorem is_4a (n : Int) (s : ByteArray) (w : World) (h : s.toList.isEmpty = false) :
    Calls Tryz.prog 5 #[V 4 n s] w fun e w' => e = .returned (.bool false) ∧ Below w.heap.size w w' := by
  go_enter Tryz.func5, Tryz.ntmps5
  go_wp2_with fail
  go_ret
  exact ⟨rfl, (Below.refl _ _).alloc (Nat.le_refl _) _⟩
set_option maxHeartbeats 2000000 in
theorem is_4b (n : Int) (s : ByteArray) (w : World) (h : s.toList.isEmpty = true) (h2 : ¬ 1 ≤ n) :
    Calls Tryz.prog 5 #[V 4 n s] w fun e w' => e = .returned (.bool false) ∧ Below w.heap.size w w' := by
  go_enter Tryz.func5, Tryz.ntmps5
  go_wp2_with fail
  go_ret
  exact ⟨rfl, (Below.refl _ _).alloc (Nat.le_refl _) _⟩
set_option maxHeartbeats 2000000 in
theorem is_4c (n : Int) (s : ByteArray) (w : World) (h : s.toList.isEmpty = true) (h2 : 1 ≤ n) :
    Calls Tryz.prog 5 #[V 4 n s] w fun e w' => e = .returned (.bool (decide (n ≤ 6))) ∧ Below w.heap.size w w' := by
  go_enter Tryz.func5, Tryz.ntmps5
  go_wp2_with fail
  go_ret
  exact ⟨by simp, (Below.refl _ _).alloc (Nat.le_refl _) _⟩
set_option maxHeartbeats 2000000 in
theorem is_no (k n : Int) (s : ByteArray) (w : World) (h0 : (k == 0) = false) (h1 : (k == 1) = false) (h2 : (k == 2) = false) (h3 : (k == 3) = false) (h4 : (k == 4) = false) :
    Calls Tryz.prog 5 #[V k n s] w fun e w' => e = .returned (.bool false) ∧ Below w.heap.size w w' := by
  go_enter Tryz.func5, Tryz.ntmps5
  go_wp2_with fail
  go_ret
  exact ⟨rfl, (Below.refl _ _).alloc (Nat.le_refl _) _⟩
theorem is_any (k n : Int) (s : ByteArray) (w : World) :
    Calls Tryz.prog 5 #[V k n s] w fun e w' => e = .returned (.bool (isVal k n s)) ∧ Below w.heap.size w w' := by
  unfold isVal
  by_cases h0 : k = 0
  · subst h0
    rw [if_pos rfl]
    cases h : (n == 0)
    · exact is_0b n s w h
    · exact is_0a n s w h
  by_cases h1 : k = 1
  · subst h1
    rw [if_neg h0, if_pos rfl]
    exact is_1 n s w
  by_cases h2 : k = 2
  · subst h2
    rw [if_neg h0, if_neg h1, if_pos rfl]
    cases h : (n == 0)
    · exact is_2b n s w h
    · exact is_2a n s w h
  by_cases h3 : k = 3
  · subst h3
    rw [if_neg h0, if_neg h1, if_neg h2, if_pos rfl]
    cases h : s.toList.isEmpty
    · rw [Bool.and_false]; exact is_3a n s w h
    · cases h2 : (n == 0)
      · rw [Bool.false_or, Bool.and_true]; exact is_3c n s w h h2
      · exact is_3b n s w h h2
  by_cases h4 : k = 4
  · subst h4
    rw [if_neg h0, if_neg h1, if_neg h2, if_neg h3, if_pos rfl]
    cases h : s.toList.isEmpty
    · rw [Bool.and_false]; exact is_4a n s w h
    · by_cases h2 : 1 ≤ n
      · rw [decide_eq_true h2, Bool.true_and, Bool.and_true]; exact is_4c n s w h h2
      · rw [decide_eq_false h2, Bool.false_and, Bool.false_and]; exact is_4b n s w h h2
  rw [if_neg h0, if_neg h1, if_neg h2, if_neg h3, if_neg h4]
  exact is_no k n s w (beq_eq_false_iff_ne.2 h0) (beq_eq_false_iff_ne.2 h1) (beq_eq_false_iff_ne.2 h2) (beq_eq_false_iff_ne.2 h3) (beq_eq_false_iff_ne.2 h4)
set_option maxHeartbeats 2000000 in
theorem rshow_0 (n : Int) (s : ByteArray) (w : World) :
    Calls Tryz.prog 12 #[V 0 n s] w fun e w' => e = .returned (.string nul) ∧ Below w.heap.size w w' := by
  go_enter Tryz.func12, Tryz.ntmps12
  go_wp2_with fail
  go_ret
  exact ⟨rfl, (Below.refl _ _).alloc (Nat.le_refl _) _⟩
set_option maxHeartbeats 2000000 in
theorem rshow_2 (n : Int) (s : ByteArray) (w : World) :
    Calls Tryz.prog 12 #[V 2 n s] w fun e w' => e = .returned (.string s) ∧ Below w.heap.size w w' := by
  go_enter Tryz.func12, Tryz.ntmps12
  go_wp2_with fail
  go_ret
  exact ⟨rfl, (Below.refl _ _).alloc (Nat.le_refl _) _⟩
set_option maxHeartbeats 2000000 in
theorem rshow_3a (n : Int) (s : ByteArray) (w : World) (h : (n == 1) = true) :
    Calls Tryz.prog 12 #[V 3 n s] w fun e w' => e = .returned (.string tT) ∧ Below w.heap.size w w' := by
  go_enter Tryz.func12, Tryz.ntmps12
  go_wp2_with fail
  go_ret
  exact ⟨rfl, (Below.refl _ _).alloc (Nat.le_refl _) _⟩
set_option maxHeartbeats 2000000 in
theorem rshow_3b (n : Int) (s : ByteArray) (w : World) (h : (n == 1) = false) :
    Calls Tryz.prog 12 #[V 3 n s] w fun e w' => e = .returned (.string tF) ∧ Below w.heap.size w w' := by
  go_enter Tryz.func12, Tryz.ntmps12
  go_wp2_with fail
  go_ret
  exact ⟨rfl, (Below.refl _ _).alloc (Nat.le_refl _) _⟩
set_option maxHeartbeats 2000000 in
theorem rshow_1 (n : Int) (s : ByteArray) (w : World) (h0 : -9223372036854775808 ≤ n) (h1 : n ≤ 9223372036854775807) :
    Calls Tryz.prog 12 #[V 1 n s] w fun e w' => e = .returned (.string (itoaB n)) ∧ Below w.heap.size w w' := by
  go_enter Tryz.func12, Tryz.ntmps12
  go_wp2_with fail
  refine (digits_any n _ h0 h1).mono ?_
  rintro e w1 ⟨rfl, b1⟩
  have hB := bnext ((Below.refl w.heap.size w).alloc (Nat.le_refl _) _) b1 (by simp)
  go_wp2_with fail
  go_ret
  exact ⟨rfl, hB⟩
set_option maxHeartbeats 2000000 in
theorem rshow_41 (s : ByteArray) (w : World) :
    Calls Tryz.prog 12 #[V 4 1 s] w fun e w' => e = .returned (.string bt0) ∧ Below w.heap.size w w' := by
  go_enter Tryz.func12, Tryz.ntmps12
  go_wp2_with fail
  refine (wrongs_any _).mono ?_
  rintro e w1 ⟨rfl, rfl⟩
  have hW := wrongs_cell (w.alloc (O3 4 1 s))
  rw [show (w.alloc (O3 4 1 s)).heap.size = w.heap.size + 1 from by simp] at hW
  obtain ⟨c1, c2, c3, c4, c5, c6⟩ := hW
  have c0 : ((w.alloc (O3 4 1 s)).alloc (.cells wrongsC 9)).cell? ⟨w.heap.size, 1, none⟩ = some (.int .i64 1) := by simp [World.cell?_alloc_some]
  go_wp2_with fail
  go_ret
  exact ⟨rfl, ((Below.refl _ _).alloc (Nat.le_refl _) _).alloc (by simp) _⟩
set_option maxHeartbeats 2000000 in
theorem rshow_42 (s : ByteArray) (w : World) :
    Calls Tryz.prog 12 #[V 4 2 s] w fun e w' => e = .returned (.string bt1) ∧ Below w.heap.size w w' := by
  go_enter Tryz.func12, Tryz.ntmps12
  go_wp2_with fail
  refine (wrongs_any _).mono ?_
  rintro e w1 ⟨rfl, rfl⟩
  have hW := wrongs_cell (w.alloc (O3 4 2 s))
  rw [show (w.alloc (O3 4 2 s)).heap.size = w.heap.size + 1 from by simp] at hW
  obtain ⟨c1, c2, c3, c4, c5, c6⟩ := hW
  have c0 : ((w.alloc (O3 4 2 s)).alloc (.cells wrongsC 9)).cell? ⟨w.heap.size, 1, none⟩ = some (.int .i64 2) := by simp [World.cell?_alloc_some]
  go_wp2_with fail
  go_ret
  exact ⟨rfl, ((Below.refl _ _).alloc (Nat.le_refl _) _).alloc (by simp) _⟩
set_option maxHeartbeats 2000000 in
theorem rshow_43 (s : ByteArray) (w : World) :
    Calls Tryz.prog 12 #[V 4 3 s] w fun e w' => e = .returned (.string bt2) ∧ Below w.heap.size w w' := by
  go_enter Tryz.func12, Tryz.ntmps12
  go_wp2_with fail
  refine (wrongs_any _).mono ?_
  rintro e w1 ⟨rfl, rfl⟩
  have hW := wrongs_cell (w.alloc (O3 4 3 s))
  rw [show (w.alloc (O3 4 3 s)).heap.size = w.heap.size + 1 from by simp] at hW
  obtain ⟨c1, c2, c3, c4, c5, c6⟩ := hW
  have c0 : ((w.alloc (O3 4 3 s)).alloc (.cells wrongsC 9)).cell? ⟨w.heap.size, 1, none⟩ = some (.int .i64 3) := by simp [World.cell?_alloc_some]
  go_wp2_with fail
  go_ret
  exact ⟨rfl, ((Below.refl _ _).alloc (Nat.le_refl _) _).alloc (by simp) _⟩
set_option maxHeartbeats 2000000 in
theorem rshow_44 (s : ByteArray) (w : World) :
    Calls Tryz.prog 12 #[V 4 4 s] w fun e w' => e = .returned (.string bt3) ∧ Below w.heap.size w w' := by
  go_enter Tryz.func12, Tryz.ntmps12
  go_wp2_with fail
  refine (wrongs_any _).mono ?_
  rintro e w1 ⟨rfl, rfl⟩
  have hW := wrongs_cell (w.alloc (O3 4 4 s))
  rw [show (w.alloc (O3 4 4 s)).heap.size = w.heap.size + 1 from by simp] at hW
  obtain ⟨c1, c2, c3, c4, c5, c6⟩ := hW
  have c0 : ((w.alloc (O3 4 4 s)).alloc (.cells wrongsC 9)).cell? ⟨w.heap.size, 1, none⟩ = some (.int .i64 4) := by simp [World.cell?_alloc_some]
  go_wp2_with fail
  go_ret
  exact ⟨rfl, ((Below.refl _ _).alloc (Nat.le_refl _) _).alloc (by simp) _⟩
set_option maxHeartbeats 2000000 in
theorem rshow_45 (s : ByteArray) (w : World) :
    Calls Tryz.prog 12 #[V 4 5 s] w fun e w' => e = .returned (.string bt4) ∧ Below w.heap.size w w' := by
  go_enter Tryz.func12, Tryz.ntmps12
  go_wp2_with fail
  refine (wrongs_any _).mono ?_
  rintro e w1 ⟨rfl, rfl⟩
  have hW := wrongs_cell (w.alloc (O3 4 5 s))
  rw [show (w.alloc (O3 4 5 s)).heap.size = w.heap.size + 1 from by simp] at hW
  obtain ⟨c1, c2, c3, c4, c5, c6⟩ := hW
  have c0 : ((w.alloc (O3 4 5 s)).alloc (.cells wrongsC 9)).cell? ⟨w.heap.size, 1, none⟩ = some (.int .i64 5) := by simp [World.cell?_alloc_some]
  go_wp2_with fail
  go_ret
  exact ⟨rfl, ((Below.refl _ _).alloc (Nat.le_refl _) _).alloc (by simp) _⟩
set_option maxHeartbeats 2000000 in
theorem rshow_46 (s : ByteArray) (w : World) :
    Calls Tryz.prog 12 #[V 4 6 s] w fun e w' => e = .returned (.string bt5) ∧ Below w.heap.size w w' := by
  go_enter Tryz.func12, Tryz.ntmps12
  go_wp2_with fail
  refine (wrongs_any _).mono ?_
  rintro e w1 ⟨rfl, rfl⟩
  have hW := wrongs_cell (w.alloc (O3 4 6 s))
  rw [show (w.alloc (O3 4 6 s)).heap.size = w.heap.size + 1 from by simp] at hW
  obtain ⟨c1, c2, c3, c4, c5, c6⟩ := hW
  have c0 : ((w.alloc (O3 4 6 s)).alloc (.cells wrongsC 9)).cell? ⟨w.heap.size, 1, none⟩ = some (.int .i64 6) := by simp [World.cell?_alloc_some]
  go_wp2_with fail
  go_ret
  exact ⟨rfl, ((Below.refl _ _).alloc (Nat.le_refl _) _).alloc (by simp) _⟩
theorem rshow_any (k n : Int) (s : ByteArray) (w : World) (hv : isVal k n s = true) (h0 : -9223372036854775808 ≤ n) (h1 : n ≤ 9223372036854775807) :
    Calls Tryz.prog 12 #[V k n s] w fun e w' => e = .returned (.string (sh k n s)) ∧ Below w.heap.size w w' := by
  rcases val_kinds hv with ⟨rfl, _⟩ | ⟨rfl, _⟩ | ⟨rfl, _⟩ | ⟨rfl, _⟩ | ⟨rfl, _⟩
  · exact rshow_0 n s w
  · exact rshow_1 n s w h0 h1
  · exact rshow_2 n s w
  · have hn : n = 0 ∨ n = 1 := by
      unfold isVal at hv
      simp only [show ¬ (3 : Int) = 0 from by decide, show ¬ (3 : Int) = 1 from by decide, show ¬ (3 : Int) = 2 from by decide, if_false, if_true, Bool.and_eq_true, Bool.or_eq_true, beq_iff_eq] at hv
      exact hv.1
    rcases hn with rfl | rfl
    · exact rshow_3b 0 s w rfl
    · exact rshow_3a 1 s w rfl
  · have hn : 1 ≤ n ∧ n ≤ 6 := by
      unfold isVal at hv
      simp only [show ¬ (4 : Int) = 0 from by decide, show ¬ (4 : Int) = 1 from by decide, show ¬ (4 : Int) = 2 from by decide, show ¬ (4 : Int) = 3 from by decide, if_false, if_true, Bool.and_eq_true, decide_eq_true_eq] at hv
      exact hv.1
    obtain rfl | rfl | rfl | rfl | rfl | rfl : n = 1 ∨ n = 2 ∨ n = 3 ∨ n = 4 ∨ n = 5 ∨ n = 6 := by omega
    · exact rshow_41 s w
    · exact rshow_42 s w
    · exact rshow_43 s w
    · exact rshow_44 s w
    · exact rshow_45 s w
    · exact rshow_46 s w
end Go.Proofs.YtgoadofnfaidcaaGreatDoor
