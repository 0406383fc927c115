/- Named and Read, as the reference has them: what each returns, for every text. Conditions: the text has at most 2^47 bytes. -/
import Derived.Test.YtgoadofnfaidcaaGreatDoorWhole
import Derived.Test.YtgoadofnfaidcaaGreatDoorRead
namespace Go.Proofs.YtgoadofnfaidcaaGreatDoor
open Go.RowKit
theorem rbad_any (n : Int) (w : World) :
    Calls Tryz.prog 36 #[.int .i64 n] w fun e w' => e = .returned (V 4 n nul) ∧ Below w.heap.size w w' := by
  go_enter Tryz.func36, Tryz.ntmps36
  go_wp2
  exact bodyPost_ret (v := V 4 n nul) (by simp [results, Tryz.results36, go_sem]) rfl ⟨rfl, (Below.refl _ _).alloc (Nat.le_refl _) _⟩
/-- The texts of what is bad, in a row of their own. -/
def wrongsC : Array Value := #[.string nul, .string bt0, .string bt1, .string bt2, .string bt3, .string bt4, .string bt5]
theorem wrongs_any (w : World) :
    Calls Tryz.prog 34 #[] w fun e w' => e = .returned (.slice (some ⟨w.heap.size, 0, none⟩) 7 7) ∧ w' = w.alloc (.cells wrongsC 9) := by
  go_enter Tryz.func34, Tryz.ntmps34
  go_wp2
  go_ret
  exact ⟨rfl, rfl⟩
theorem wrongs_cell (w : World) : (w.alloc (.cells wrongsC 9)).cell? ⟨w.heap.size, 1, none⟩ = some (.string bt0) ∧ (w.alloc (.cells wrongsC 9)).cell? ⟨w.heap.size, 2, none⟩ = some (.string bt1) ∧ (w.alloc (.cells wrongsC 9)).cell? ⟨w.heap.size, 3, none⟩ = some (.string bt2) ∧ (w.alloc (.cells wrongsC 9)).cell? ⟨w.heap.size, 4, none⟩ = some (.string bt3) ∧ (w.alloc (.cells wrongsC 9)).cell? ⟨w.heap.size, 5, none⟩ = some (.string bt4) ∧ (w.alloc (.cells wrongsC 9)).cell? ⟨w.heap.size, 6, none⟩ = some (.string bt5) := by
  refine ⟨?_, ?_, ?_, ?_, ?_, ?_⟩ <;> simp [wrongsC]
set_option maxRecDepth 100000 in
set_option maxHeartbeats 2000000 in
theorem named_true (s : ByteArray) (w : World) (ht : (s.toList == [84, 82, 85, 69]) = true) :
    Calls Tryz.prog 61 #[.string s] w fun e w' => e = .returned (.tuple #[V 3 (b2n true) nul, .bool true]) ∧ Below w.heap.size w w' := by
  have hC := Cell3.start w 23
  go_enter Tryz.func61, Tryz.ntmps61
  go_wp2_with fail
  refine (rtru_any _ _).mono ?_
  rintro e w1 ⟨rfl, b1⟩
  replace hC := hC.next b1
  obtain ⟨⟨_, hf⟩, ⟨_, c0, c1, c2⟩, hB, hle⟩ := hC
  go_wp2_with fail
  exact bodyPost_ret (v := .tuple #[V 3 (b2n true) nul, .bool true]) (by simp [results, Tryz.results61, go_sem, c0, c1, c2]) rfl ⟨rfl, by (repeat (first | exact Below.refl _ _ | assumption | (refine Below.setCell ?_ (by first | omega | (simp <;> omega)) _) | (refine Below.alloc ?_ (by first | omega | (simp <;> omega)) _) | (refine Below.drew ?_) | (refine Below.trans ?_ (Below.mono (by assumption) (by first | omega | (simp <;> omega))))))⟩
set_option maxRecDepth 100000 in
set_option maxHeartbeats 2000000 in
theorem named_false (s : ByteArray) (w : World) (ht : (s.toList == [84, 82, 85, 69]) = false) (hf0 : (s.toList == [70, 65, 76, 83, 69]) = true) :
    Calls Tryz.prog 61 #[.string s] w fun e w' => e = .returned (.tuple #[V 3 (b2n false) nul, .bool true]) ∧ Below w.heap.size w w' := by
  have hC := Cell3.start w 23
  go_enter Tryz.func61, Tryz.ntmps61
  go_wp2_with fail
  refine (rtru_any _ _).mono ?_
  rintro e w1 ⟨rfl, b1⟩
  replace hC := hC.next b1
  obtain ⟨⟨_, hf⟩, ⟨_, c0, c1, c2⟩, hB, hle⟩ := hC
  go_wp2_with fail
  exact bodyPost_ret (v := .tuple #[V 3 (b2n false) nul, .bool true]) (by simp [results, Tryz.results61, go_sem, c0, c1, c2]) rfl ⟨rfl, by (repeat (first | exact Below.refl _ _ | assumption | (refine Below.setCell ?_ (by first | omega | (simp <;> omega)) _) | (refine Below.alloc ?_ (by first | omega | (simp <;> omega)) _) | (refine Below.drew ?_) | (refine Below.trans ?_ (Below.mono (by assumption) (by first | omega | (simp <;> omega))))))⟩
set_option maxRecDepth 100000 in
set_option maxHeartbeats 2000000 in
theorem named_0 (s : ByteArray) (w : World) (ht : (s.toList == [84, 82, 85, 69]) = false) (hf0 : (s.toList == [70, 65, 76, 83, 69]) = false) (h0 : (s.toList == [35, 68, 73, 86, 33]) = true) :
    Calls Tryz.prog 61 #[.string s] w fun e w' => e = .returned (.tuple #[V 4 1 nul, .bool true]) ∧ Below w.heap.size w w' := by
  have g0 : ([35, 68, 73, 86, 33] == s.toList) = true := by rw [Bool.beq_comm]; exact h0
  have hC := Cell3.start w 23
  have hwc := wrongs_cell (w.alloc (.cells #[.int .i64 0, .int .i64 0, .string nul] 23))
  have bw : Below (w.alloc (.cells #[.int .i64 0, .int .i64 0, .string nul] 23)).heap.size (w.alloc (.cells #[.int .i64 0, .int .i64 0, .string nul] 23)) ((w.alloc (.cells #[.int .i64 0, .int .i64 0, .string nul] 23)).alloc (.cells wrongsC 9)) := (Below.refl _ _).alloc (Nat.le_refl _) _
  replace hC := hC.next bw
  go_enter Tryz.func61, Tryz.ntmps61
  go_wp2_with fail
  refine (wrongs_any _).mono ?_
  rintro e w1 ⟨rfl, rfl⟩
  generalize ((w.alloc (.cells #[.int .i64 0, .int .i64 0, .string nul] 23)).alloc (.cells wrongsC 9)) = W at *
  generalize (w.alloc (.cells #[.int .i64 0, .int .i64 0, .string nul] 23)).heap.size = bw0 at *
  clear bw
  obtain ⟨k1, k2, k3, k4, k5, k6⟩ := hwc
  go_wp2_with fail
  refine wp_loop_rounds 7 ?_
  iterate 1 (rw [rounds_succ]; go_wp2_with fail)
  refine (rbad_any _ _).mono ?_
  rintro e w2 ⟨rfl, b2⟩
  replace hC := hC.next b2
  obtain ⟨⟨_, hf⟩, ⟨_, c0, c1, c2⟩, hB, hle⟩ := hC
  go_wp2_with fail
  exact bodyPost_ret (v := .tuple #[V 4 1 nul, .bool true]) (by simp [results, Tryz.results61, go_sem, c0, c1, c2]) rfl ⟨rfl, by (repeat (first | exact Below.refl _ _ | assumption | (refine Below.setCell ?_ (by first | omega | (simp <;> omega)) _) | (refine Below.alloc ?_ (by first | omega | (simp <;> omega)) _) | (refine Below.drew ?_) | (refine Below.trans ?_ (Below.mono (by assumption) (by first | omega | (simp <;> omega))))))⟩
set_option maxRecDepth 100000 in
set_option maxHeartbeats 2000000 in
theorem named_1 (s : ByteArray) (w : World) (ht : (s.toList == [84, 82, 85, 69]) = false) (hf0 : (s.toList == [70, 65, 76, 83, 69]) = false) (h0 : (s.toList == [35, 68, 73, 86, 33]) = false) (h1 : (s.toList == [35, 86, 65, 76, 85, 69, 33]) = true) :
    Calls Tryz.prog 61 #[.string s] w fun e w' => e = .returned (.tuple #[V 4 2 nul, .bool true]) ∧ Below w.heap.size w w' := by
  have g0 : ([35, 68, 73, 86, 33] == s.toList) = false := by rw [Bool.beq_comm]; exact h0
  have g1 : ([35, 86, 65, 76, 85, 69, 33] == s.toList) = true := by rw [Bool.beq_comm]; exact h1
  have hC := Cell3.start w 23
  have hwc := wrongs_cell (w.alloc (.cells #[.int .i64 0, .int .i64 0, .string nul] 23))
  have bw : Below (w.alloc (.cells #[.int .i64 0, .int .i64 0, .string nul] 23)).heap.size (w.alloc (.cells #[.int .i64 0, .int .i64 0, .string nul] 23)) ((w.alloc (.cells #[.int .i64 0, .int .i64 0, .string nul] 23)).alloc (.cells wrongsC 9)) := (Below.refl _ _).alloc (Nat.le_refl _) _
  replace hC := hC.next bw
  go_enter Tryz.func61, Tryz.ntmps61
  go_wp2_with fail
  refine (wrongs_any _).mono ?_
  rintro e w1 ⟨rfl, rfl⟩
  generalize ((w.alloc (.cells #[.int .i64 0, .int .i64 0, .string nul] 23)).alloc (.cells wrongsC 9)) = W at *
  generalize (w.alloc (.cells #[.int .i64 0, .int .i64 0, .string nul] 23)).heap.size = bw0 at *
  clear bw
  obtain ⟨k1, k2, k3, k4, k5, k6⟩ := hwc
  go_wp2_with fail
  refine wp_loop_rounds 7 ?_
  iterate 2 (rw [rounds_succ]; go_wp2_with fail)
  refine (rbad_any _ _).mono ?_
  rintro e w2 ⟨rfl, b2⟩
  replace hC := hC.next b2
  obtain ⟨⟨_, hf⟩, ⟨_, c0, c1, c2⟩, hB, hle⟩ := hC
  go_wp2_with fail
  exact bodyPost_ret (v := .tuple #[V 4 2 nul, .bool true]) (by simp [results, Tryz.results61, go_sem, c0, c1, c2]) rfl ⟨rfl, by (repeat (first | exact Below.refl _ _ | assumption | (refine Below.setCell ?_ (by first | omega | (simp <;> omega)) _) | (refine Below.alloc ?_ (by first | omega | (simp <;> omega)) _) | (refine Below.drew ?_) | (refine Below.trans ?_ (Below.mono (by assumption) (by first | omega | (simp <;> omega))))))⟩
set_option maxRecDepth 100000 in
set_option maxHeartbeats 2000000 in
theorem named_2 (s : ByteArray) (w : World) (ht : (s.toList == [84, 82, 85, 69]) = false) (hf0 : (s.toList == [70, 65, 76, 83, 69]) = false) (h0 : (s.toList == [35, 68, 73, 86, 33]) = false) (h1 : (s.toList == [35, 86, 65, 76, 85, 69, 33]) = false) (h2 : (s.toList == [35, 82, 69, 70, 33]) = true) :
    Calls Tryz.prog 61 #[.string s] w fun e w' => e = .returned (.tuple #[V 4 3 nul, .bool true]) ∧ Below w.heap.size w w' := by
  have g0 : ([35, 68, 73, 86, 33] == s.toList) = false := by rw [Bool.beq_comm]; exact h0
  have g1 : ([35, 86, 65, 76, 85, 69, 33] == s.toList) = false := by rw [Bool.beq_comm]; exact h1
  have g2 : ([35, 82, 69, 70, 33] == s.toList) = true := by rw [Bool.beq_comm]; exact h2
  have hC := Cell3.start w 23
  have hwc := wrongs_cell (w.alloc (.cells #[.int .i64 0, .int .i64 0, .string nul] 23))
  have bw : Below (w.alloc (.cells #[.int .i64 0, .int .i64 0, .string nul] 23)).heap.size (w.alloc (.cells #[.int .i64 0, .int .i64 0, .string nul] 23)) ((w.alloc (.cells #[.int .i64 0, .int .i64 0, .string nul] 23)).alloc (.cells wrongsC 9)) := (Below.refl _ _).alloc (Nat.le_refl _) _
  replace hC := hC.next bw
  go_enter Tryz.func61, Tryz.ntmps61
  go_wp2_with fail
  refine (wrongs_any _).mono ?_
  rintro e w1 ⟨rfl, rfl⟩
  generalize ((w.alloc (.cells #[.int .i64 0, .int .i64 0, .string nul] 23)).alloc (.cells wrongsC 9)) = W at *
  generalize (w.alloc (.cells #[.int .i64 0, .int .i64 0, .string nul] 23)).heap.size = bw0 at *
  clear bw
  obtain ⟨k1, k2, k3, k4, k5, k6⟩ := hwc
  go_wp2_with fail
  refine wp_loop_rounds 7 ?_
  iterate 3 (rw [rounds_succ]; go_wp2_with fail)
  refine (rbad_any _ _).mono ?_
  rintro e w2 ⟨rfl, b2⟩
  replace hC := hC.next b2
  obtain ⟨⟨_, hf⟩, ⟨_, c0, c1, c2⟩, hB, hle⟩ := hC
  go_wp2_with fail
  exact bodyPost_ret (v := .tuple #[V 4 3 nul, .bool true]) (by simp [results, Tryz.results61, go_sem, c0, c1, c2]) rfl ⟨rfl, by (repeat (first | exact Below.refl _ _ | assumption | (refine Below.setCell ?_ (by first | omega | (simp <;> omega)) _) | (refine Below.alloc ?_ (by first | omega | (simp <;> omega)) _) | (refine Below.drew ?_) | (refine Below.trans ?_ (Below.mono (by assumption) (by first | omega | (simp <;> omega))))))⟩
set_option maxRecDepth 100000 in
set_option maxHeartbeats 2000000 in
theorem named_3 (s : ByteArray) (w : World) (ht : (s.toList == [84, 82, 85, 69]) = false) (hf0 : (s.toList == [70, 65, 76, 83, 69]) = false) (h0 : (s.toList == [35, 68, 73, 86, 33]) = false) (h1 : (s.toList == [35, 86, 65, 76, 85, 69, 33]) = false) (h2 : (s.toList == [35, 82, 69, 70, 33]) = false) (h3 : (s.toList == [35, 78, 65, 77, 69, 33]) = true) :
    Calls Tryz.prog 61 #[.string s] w fun e w' => e = .returned (.tuple #[V 4 4 nul, .bool true]) ∧ Below w.heap.size w w' := by
  have g0 : ([35, 68, 73, 86, 33] == s.toList) = false := by rw [Bool.beq_comm]; exact h0
  have g1 : ([35, 86, 65, 76, 85, 69, 33] == s.toList) = false := by rw [Bool.beq_comm]; exact h1
  have g2 : ([35, 82, 69, 70, 33] == s.toList) = false := by rw [Bool.beq_comm]; exact h2
  have g3 : ([35, 78, 65, 77, 69, 33] == s.toList) = true := by rw [Bool.beq_comm]; exact h3
  have hC := Cell3.start w 23
  have hwc := wrongs_cell (w.alloc (.cells #[.int .i64 0, .int .i64 0, .string nul] 23))
  have bw : Below (w.alloc (.cells #[.int .i64 0, .int .i64 0, .string nul] 23)).heap.size (w.alloc (.cells #[.int .i64 0, .int .i64 0, .string nul] 23)) ((w.alloc (.cells #[.int .i64 0, .int .i64 0, .string nul] 23)).alloc (.cells wrongsC 9)) := (Below.refl _ _).alloc (Nat.le_refl _) _
  replace hC := hC.next bw
  go_enter Tryz.func61, Tryz.ntmps61
  go_wp2_with fail
  refine (wrongs_any _).mono ?_
  rintro e w1 ⟨rfl, rfl⟩
  generalize ((w.alloc (.cells #[.int .i64 0, .int .i64 0, .string nul] 23)).alloc (.cells wrongsC 9)) = W at *
  generalize (w.alloc (.cells #[.int .i64 0, .int .i64 0, .string nul] 23)).heap.size = bw0 at *
  clear bw
  obtain ⟨k1, k2, k3, k4, k5, k6⟩ := hwc
  go_wp2_with fail
  refine wp_loop_rounds 7 ?_
  iterate 4 (rw [rounds_succ]; go_wp2_with fail)
  refine (rbad_any _ _).mono ?_
  rintro e w2 ⟨rfl, b2⟩
  replace hC := hC.next b2
  obtain ⟨⟨_, hf⟩, ⟨_, c0, c1, c2⟩, hB, hle⟩ := hC
  go_wp2_with fail
  exact bodyPost_ret (v := .tuple #[V 4 4 nul, .bool true]) (by simp [results, Tryz.results61, go_sem, c0, c1, c2]) rfl ⟨rfl, by (repeat (first | exact Below.refl _ _ | assumption | (refine Below.setCell ?_ (by first | omega | (simp <;> omega)) _) | (refine Below.alloc ?_ (by first | omega | (simp <;> omega)) _) | (refine Below.drew ?_) | (refine Below.trans ?_ (Below.mono (by assumption) (by first | omega | (simp <;> omega))))))⟩
set_option maxRecDepth 100000 in
set_option maxHeartbeats 2000000 in
theorem named_4 (s : ByteArray) (w : World) (ht : (s.toList == [84, 82, 85, 69]) = false) (hf0 : (s.toList == [70, 65, 76, 83, 69]) = false) (h0 : (s.toList == [35, 68, 73, 86, 33]) = false) (h1 : (s.toList == [35, 86, 65, 76, 85, 69, 33]) = false) (h2 : (s.toList == [35, 82, 69, 70, 33]) = false) (h3 : (s.toList == [35, 78, 65, 77, 69, 33]) = false) (h4 : (s.toList == [35, 78, 85, 77, 33]) = true) :
    Calls Tryz.prog 61 #[.string s] w fun e w' => e = .returned (.tuple #[V 4 5 nul, .bool true]) ∧ Below w.heap.size w w' := by
  have g0 : ([35, 68, 73, 86, 33] == s.toList) = false := by rw [Bool.beq_comm]; exact h0
  have g1 : ([35, 86, 65, 76, 85, 69, 33] == s.toList) = false := by rw [Bool.beq_comm]; exact h1
  have g2 : ([35, 82, 69, 70, 33] == s.toList) = false := by rw [Bool.beq_comm]; exact h2
  have g3 : ([35, 78, 65, 77, 69, 33] == s.toList) = false := by rw [Bool.beq_comm]; exact h3
  have g4 : ([35, 78, 85, 77, 33] == s.toList) = true := by rw [Bool.beq_comm]; exact h4
  have hC := Cell3.start w 23
  have hwc := wrongs_cell (w.alloc (.cells #[.int .i64 0, .int .i64 0, .string nul] 23))
  have bw : Below (w.alloc (.cells #[.int .i64 0, .int .i64 0, .string nul] 23)).heap.size (w.alloc (.cells #[.int .i64 0, .int .i64 0, .string nul] 23)) ((w.alloc (.cells #[.int .i64 0, .int .i64 0, .string nul] 23)).alloc (.cells wrongsC 9)) := (Below.refl _ _).alloc (Nat.le_refl _) _
  replace hC := hC.next bw
  go_enter Tryz.func61, Tryz.ntmps61
  go_wp2_with fail
  refine (wrongs_any _).mono ?_
  rintro e w1 ⟨rfl, rfl⟩
  generalize ((w.alloc (.cells #[.int .i64 0, .int .i64 0, .string nul] 23)).alloc (.cells wrongsC 9)) = W at *
  generalize (w.alloc (.cells #[.int .i64 0, .int .i64 0, .string nul] 23)).heap.size = bw0 at *
  clear bw
  obtain ⟨k1, k2, k3, k4, k5, k6⟩ := hwc
  go_wp2_with fail
  refine wp_loop_rounds 7 ?_
  iterate 5 (rw [rounds_succ]; go_wp2_with fail)
  refine (rbad_any _ _).mono ?_
  rintro e w2 ⟨rfl, b2⟩
  replace hC := hC.next b2
  obtain ⟨⟨_, hf⟩, ⟨_, c0, c1, c2⟩, hB, hle⟩ := hC
  go_wp2_with fail
  exact bodyPost_ret (v := .tuple #[V 4 5 nul, .bool true]) (by simp [results, Tryz.results61, go_sem, c0, c1, c2]) rfl ⟨rfl, by (repeat (first | exact Below.refl _ _ | assumption | (refine Below.setCell ?_ (by first | omega | (simp <;> omega)) _) | (refine Below.alloc ?_ (by first | omega | (simp <;> omega)) _) | (refine Below.drew ?_) | (refine Below.trans ?_ (Below.mono (by assumption) (by first | omega | (simp <;> omega))))))⟩
set_option maxRecDepth 100000 in
set_option maxHeartbeats 2000000 in
theorem named_5 (s : ByteArray) (w : World) (ht : (s.toList == [84, 82, 85, 69]) = false) (hf0 : (s.toList == [70, 65, 76, 83, 69]) = false) (h0 : (s.toList == [35, 68, 73, 86, 33]) = false) (h1 : (s.toList == [35, 86, 65, 76, 85, 69, 33]) = false) (h2 : (s.toList == [35, 82, 69, 70, 33]) = false) (h3 : (s.toList == [35, 78, 65, 77, 69, 33]) = false) (h4 : (s.toList == [35, 78, 85, 77, 33]) = false) (h5 : (s.toList == [35, 78, 79, 78, 69, 33]) = true) :
    Calls Tryz.prog 61 #[.string s] w fun e w' => e = .returned (.tuple #[V 4 6 nul, .bool true]) ∧ Below w.heap.size w w' := by
  have g0 : ([35, 68, 73, 86, 33] == s.toList) = false := by rw [Bool.beq_comm]; exact h0
  have g1 : ([35, 86, 65, 76, 85, 69, 33] == s.toList) = false := by rw [Bool.beq_comm]; exact h1
  have g2 : ([35, 82, 69, 70, 33] == s.toList) = false := by rw [Bool.beq_comm]; exact h2
  have g3 : ([35, 78, 65, 77, 69, 33] == s.toList) = false := by rw [Bool.beq_comm]; exact h3
  have g4 : ([35, 78, 85, 77, 33] == s.toList) = false := by rw [Bool.beq_comm]; exact h4
  have g5 : ([35, 78, 79, 78, 69, 33] == s.toList) = true := by rw [Bool.beq_comm]; exact h5
  have hC := Cell3.start w 23
  have hwc := wrongs_cell (w.alloc (.cells #[.int .i64 0, .int .i64 0, .string nul] 23))
  have bw : Below (w.alloc (.cells #[.int .i64 0, .int .i64 0, .string nul] 23)).heap.size (w.alloc (.cells #[.int .i64 0, .int .i64 0, .string nul] 23)) ((w.alloc (.cells #[.int .i64 0, .int .i64 0, .string nul] 23)).alloc (.cells wrongsC 9)) := (Below.refl _ _).alloc (Nat.le_refl _) _
  replace hC := hC.next bw
  go_enter Tryz.func61, Tryz.ntmps61
  go_wp2_with fail
  refine (wrongs_any _).mono ?_
  rintro e w1 ⟨rfl, rfl⟩
  generalize ((w.alloc (.cells #[.int .i64 0, .int .i64 0, .string nul] 23)).alloc (.cells wrongsC 9)) = W at *
  generalize (w.alloc (.cells #[.int .i64 0, .int .i64 0, .string nul] 23)).heap.size = bw0 at *
  clear bw
  obtain ⟨k1, k2, k3, k4, k5, k6⟩ := hwc
  go_wp2_with fail
  refine wp_loop_rounds 7 ?_
  iterate 6 (rw [rounds_succ]; go_wp2_with fail)
  refine (rbad_any _ _).mono ?_
  rintro e w2 ⟨rfl, b2⟩
  replace hC := hC.next b2
  obtain ⟨⟨_, hf⟩, ⟨_, c0, c1, c2⟩, hB, hle⟩ := hC
  go_wp2_with fail
  exact bodyPost_ret (v := .tuple #[V 4 6 nul, .bool true]) (by simp [results, Tryz.results61, go_sem, c0, c1, c2]) rfl ⟨rfl, by (repeat (first | exact Below.refl _ _ | assumption | (refine Below.setCell ?_ (by first | omega | (simp <;> omega)) _) | (refine Below.alloc ?_ (by first | omega | (simp <;> omega)) _) | (refine Below.drew ?_) | (refine Below.trans ?_ (Below.mono (by assumption) (by first | omega | (simp <;> omega))))))⟩
set_option maxRecDepth 100000 in
set_option maxHeartbeats 2000000 in
theorem named_6 (s : ByteArray) (w : World) (ht : (s.toList == [84, 82, 85, 69]) = false) (hf0 : (s.toList == [70, 65, 76, 83, 69]) = false) (h0 : (s.toList == [35, 68, 73, 86, 33]) = false) (h1 : (s.toList == [35, 86, 65, 76, 85, 69, 33]) = false) (h2 : (s.toList == [35, 82, 69, 70, 33]) = false) (h3 : (s.toList == [35, 78, 65, 77, 69, 33]) = false) (h4 : (s.toList == [35, 78, 85, 77, 33]) = false) (h5 : (s.toList == [35, 78, 79, 78, 69, 33]) = false) :
    Calls Tryz.prog 61 #[.string s] w fun e w' => e = .returned (.tuple #[V 0 0 nul, .bool false]) ∧ Below w.heap.size w w' := by
  have g0 : ([35, 68, 73, 86, 33] == s.toList) = false := by rw [Bool.beq_comm]; exact h0
  have g1 : ([35, 86, 65, 76, 85, 69, 33] == s.toList) = false := by rw [Bool.beq_comm]; exact h1
  have g2 : ([35, 82, 69, 70, 33] == s.toList) = false := by rw [Bool.beq_comm]; exact h2
  have g3 : ([35, 78, 65, 77, 69, 33] == s.toList) = false := by rw [Bool.beq_comm]; exact h3
  have g4 : ([35, 78, 85, 77, 33] == s.toList) = false := by rw [Bool.beq_comm]; exact h4
  have g5 : ([35, 78, 79, 78, 69, 33] == s.toList) = false := by rw [Bool.beq_comm]; exact h5
  have hC := Cell3.start w 23
  have hwc := wrongs_cell (w.alloc (.cells #[.int .i64 0, .int .i64 0, .string nul] 23))
  have bw : Below (w.alloc (.cells #[.int .i64 0, .int .i64 0, .string nul] 23)).heap.size (w.alloc (.cells #[.int .i64 0, .int .i64 0, .string nul] 23)) ((w.alloc (.cells #[.int .i64 0, .int .i64 0, .string nul] 23)).alloc (.cells wrongsC 9)) := (Below.refl _ _).alloc (Nat.le_refl _) _
  replace hC := hC.next bw
  go_enter Tryz.func61, Tryz.ntmps61
  go_wp2_with fail
  refine (wrongs_any _).mono ?_
  rintro e w1 ⟨rfl, rfl⟩
  generalize ((w.alloc (.cells #[.int .i64 0, .int .i64 0, .string nul] 23)).alloc (.cells wrongsC 9)) = W at *
  generalize (w.alloc (.cells #[.int .i64 0, .int .i64 0, .string nul] 23)).heap.size = bw0 at *
  clear bw
  obtain ⟨k1, k2, k3, k4, k5, k6⟩ := hwc
  go_wp2_with fail
  refine wp_loop_rounds 7 ?_
  obtain ⟨⟨_, hf⟩, ⟨_, c0, c1, c2⟩, hB, hle⟩ := hC
  iterate 7 (rw [rounds_succ]; go_wp2_with fail)
  exact bodyPost_ret (v := .tuple #[V 0 0 nul, .bool false]) (by simp [results, Tryz.results61, go_sem, c0, c1, c2]) rfl ⟨rfl, by (repeat (first | exact Below.refl _ _ | assumption | (refine Below.setCell ?_ (by first | omega | (simp <;> omega)) _) | (refine Below.alloc ?_ (by first | omega | (simp <;> omega)) _) | (refine Below.drew ?_) | (refine Below.trans ?_ (Below.mono (by assumption) (by first | omega | (simp <;> omega))))))⟩
end Go.Proofs.YtgoadofnfaidcaaGreatDoor
