
/- The reference's Named: which texts are truths, or bad. Condition: none. -/
import Derived.Test.YtlaeoofjoofbcaaGreatDoorRead
import Derived.Test.YtlaeoofjoofbcaaGreatDoorRm
namespace Go.Proofs.YtlaeoofjoofbcaaGreatDoor
open Go.RowKit
theorem rbad_any (n : Int) (w : World) :
    Calls Tryz.prog 89 #[.int .i64 n] w fun e w' => e = .returned (V 4 n nul) ∧ Below w.heap.size w w' := by
  go_enter Tryz.func89, Tryz.ntmps89
  go_wp2
  exact bodyPost_ret (v := V 4 n nul) (by simp [results, Tryz.results89, go_sem]) rfl ⟨rfl, (Below.refl _ _).alloc (Nat.le_refl _) _⟩
/-- The texts of what is bad, in a row of their own. -/
def wrongsC : Array Value := #[.string nul, .string bt0, .string bt1, .string bt2, .string bt3, .string bt4, .string bt5]
theorem wrongs_any (w : World) :
    Calls Tryz.prog 55 #[] w fun e w' => e = .returned (.slice (some ⟨w.heap.size, 0, none⟩) 7 7) ∧ w' = w.alloc (.cells wrongsC 9) := by
  go_enter Tryz.func55, Tryz.ntmps55
  go_wp2
  go_ret
  exact ⟨rfl, rfl⟩
theorem wrongs_cell (w : World) : (w.alloc (.cells wrongsC 9)).cell? ⟨w.heap.size, 1, none⟩ = some (.string bt0) ∧ (w.alloc (.cells wrongsC 9)).cell? ⟨w.heap.size, 2, none⟩ = some (.string bt1) ∧ (w.alloc (.cells wrongsC 9)).cell? ⟨w.heap.size, 3, none⟩ = some (.string bt2) ∧ (w.alloc (.cells wrongsC 9)).cell? ⟨w.heap.size, 4, none⟩ = some (.string bt3) ∧ (w.alloc (.cells wrongsC 9)).cell? ⟨w.heap.size, 5, none⟩ = some (.string bt4) ∧ (w.alloc (.cells wrongsC 9)).cell? ⟨w.heap.size, 6, none⟩ = some (.string bt5) := by
  refine ⟨?_, ?_, ?_, ?_, ?_, ?_⟩ <;> simp [wrongsC]
set_option maxRecDepth 100000 in
set_option maxHeartbeats 2000000 in
theorem named_0 (s : ByteArray) (w : World) (ht : (s.toList == [84, 82, 85, 69]) = false) (hf0 : (s.toList == [70, 65, 76, 83, 69]) = false) (h0 : (s.toList == [35, 68, 73, 86, 33]) = true) :
    Calls Tryz.prog 73 #[.string s] w fun e w' => e = .returned (.tuple #[V 4 1 nul, .bool true]) ∧ Below w.heap.size w w' := by
  have g0 : ([35, 68, 73, 86, 33] == s.toList) = true := by rw [Bool.beq_comm]; exact h0
  have hC := Cell3.start w 142
  have hwc := wrongs_cell (w.alloc (.cells #[.int .i64 0, .int .i64 0, .string nul] 142))
  have bw : Below (w.alloc (.cells #[.int .i64 0, .int .i64 0, .string nul] 142)).heap.size (w.alloc (.cells #[.int .i64 0, .int .i64 0, .string nul] 142)) ((w.alloc (.cells #[.int .i64 0, .int .i64 0, .string nul] 142)).alloc (.cells wrongsC 9)) := (Below.refl _ _).alloc (Nat.le_refl _) _
  replace hC := hC.next bw
  go_enter Tryz.func73, Tryz.ntmps73
  go_wp2_with fail
  refine (wrongs_any _).mono ?_
  rintro e w1 ⟨rfl, rfl⟩
  generalize ((w.alloc (.cells #[.int .i64 0, .int .i64 0, .string nul] 142)).alloc (.cells wrongsC 9)) = W at *
  generalize (w.alloc (.cells #[.int .i64 0, .int .i64 0, .string nul] 142)).heap.size = bw0 at *
  clear bw
  obtain ⟨k1, k2, k3, k4, k5, k6⟩ := hwc
  go_wp2_with fail
  refine wp_loop_rounds 7 ?_
  iterate 1 (rw [rounds_succ]; go_wp2_with fail)
  refine (rbad_any _ _).mono ?_
  rintro e w2 ⟨rfl, b2⟩
  replace hC := hC.next b2
  obtain ⟨⟨_, hf⟩, ⟨_, c0, c1, c2⟩, hB, hle⟩ := hC
  go_wp2_with fail
  exact bodyPost_ret (v := .tuple #[V 4 1 nul, .bool true]) (by simp [results, Tryz.results73, go_sem, c0, c1, c2]) rfl ⟨rfl, by (repeat (first | exact Below.refl _ _ | assumption | (refine Below.setCell ?_ (by first | omega | (simp <;> omega)) _) | (refine Below.alloc ?_ (by first | omega | (simp <;> omega)) _) | (refine Below.drew ?_) | (refine Below.trans ?_ (Below.mono (by assumption) (by first | omega | (simp <;> omega))))))⟩
set_option maxRecDepth 100000 in
set_option maxHeartbeats 2000000 in
theorem named_1 (s : ByteArray) (w : World) (ht : (s.toList == [84, 82, 85, 69]) = false) (hf0 : (s.toList == [70, 65, 76, 83, 69]) = false) (h0 : (s.toList == [35, 68, 73, 86, 33]) = false) (h1 : (s.toList == [35, 86, 65, 76, 85, 69, 33]) = true) :
    Calls Tryz.prog 73 #[.string s] w fun e w' => e = .returned (.tuple #[V 4 2 nul, .bool true]) ∧ Below w.heap.size w w' := by
  have g0 : ([35, 68, 73, 86, 33] == s.toList) = false := by rw [Bool.beq_comm]; exact h0
  have g1 : ([35, 86, 65, 76, 85, 69, 33] == s.toList) = true := by rw [Bool.beq_comm]; exact h1
  have hC := Cell3.start w 142
  have hwc := wrongs_cell (w.alloc (.cells #[.int .i64 0, .int .i64 0, .string nul] 142))
  have bw : Below (w.alloc (.cells #[.int .i64 0, .int .i64 0, .string nul] 142)).heap.size (w.alloc (.cells #[.int .i64 0, .int .i64 0, .string nul] 142)) ((w.alloc (.cells #[.int .i64 0, .int .i64 0, .string nul] 142)).alloc (.cells wrongsC 9)) := (Below.refl _ _).alloc (Nat.le_refl _) _
  replace hC := hC.next bw
  go_enter Tryz.func73, Tryz.ntmps73
  go_wp2_with fail
  refine (wrongs_any _).mono ?_
  rintro e w1 ⟨rfl, rfl⟩
  generalize ((w.alloc (.cells #[.int .i64 0, .int .i64 0, .string nul] 142)).alloc (.cells wrongsC 9)) = W at *
  generalize (w.alloc (.cells #[.int .i64 0, .int .i64 0, .string nul] 142)).heap.size = bw0 at *
  clear bw
  obtain ⟨k1, k2, k3, k4, k5, k6⟩ := hwc
  go_wp2_with fail
  refine wp_loop_rounds 7 ?_
  iterate 2 (rw [rounds_succ]; go_wp2_with fail)
  refine (rbad_any _ _).mono ?_
  rintro e w2 ⟨rfl, b2⟩
  replace hC := hC.next b2
  obtain ⟨⟨_, hf⟩, ⟨_, c0, c1, c2⟩, hB, hle⟩ := hC
  go_wp2_with fail
  exact bodyPost_ret (v := .tuple #[V 4 2 nul, .bool true]) (by simp [results, Tryz.results73, go_sem, c0, c1, c2]) rfl ⟨rfl, by (repeat (first | exact Below.refl _ _ | assumption | (refine Below.setCell ?_ (by first | omega | (simp <;> omega)) _) | (refine Below.alloc ?_ (by first | omega | (simp <;> omega)) _) | (refine Below.drew ?_) | (refine Below.trans ?_ (Below.mono (by assumption) (by first | omega | (simp <;> omega))))))⟩
set_option maxRecDepth 100000 in
set_option maxHeartbeats 2000000 in
theorem named_2 (s : ByteArray) (w : World) (ht : (s.toList == [84, 82, 85, 69]) = false) (hf0 : (s.toList == [70, 65, 76, 83, 69]) = false) (h0 : (s.toList == [35, 68, 73, 86, 33]) = false) (h1 : (s.toList == [35, 86, 65, 76, 85, 69, 33]) = false) (h2 : (s.toList == [35, 82, 69, 70, 33]) = true) :
    Calls Tryz.prog 73 #[.string s] w fun e w' => e = .returned (.tuple #[V 4 3 nul, .bool true]) ∧ Below w.heap.size w w' := by
  have g0 : ([35, 68, 73, 86, 33] == s.toList) = false := by rw [Bool.beq_comm]; exact h0
  have g1 : ([35, 86, 65, 76, 85, 69, 33] == s.toList) = false := by rw [Bool.beq_comm]; exact h1
  have g2 : ([35, 82, 69, 70, 33] == s.toList) = true := by rw [Bool.beq_comm]; exact h2
  have hC := Cell3.start w 142
  have hwc := wrongs_cell (w.alloc (.cells #[.int .i64 0, .int .i64 0, .string nul] 142))
  have bw : Below (w.alloc (.cells #[.int .i64 0, .int .i64 0, .string nul] 142)).heap.size (w.alloc (.cells #[.int .i64 0, .int .i64 0, .string nul] 142)) ((w.alloc (.cells #[.int .i64 0, .int .i64 0, .string nul] 142)).alloc (.cells wrongsC 9)) := (Below.refl _ _).alloc (Nat.le_refl _) _
  replace hC := hC.next bw
  go_enter Tryz.func73, Tryz.ntmps73
  go_wp2_with fail
  refine (wrongs_any _).mono ?_
  rintro e w1 ⟨rfl, rfl⟩
  generalize ((w.alloc (.cells #[.int .i64 0, .int .i64 0, .string nul] 142)).alloc (.cells wrongsC 9)) = W at *
  generalize (w.alloc (.cells #[.int .i64 0, .int .i64 0, .string nul] 142)).heap.size = bw0 at *
  clear bw
  obtain ⟨k1, k2, k3, k4, k5, k6⟩ := hwc
  go_wp2_with fail
  refine wp_loop_rounds 7 ?_
  iterate 3 (rw [rounds_succ]; go_wp2_with fail)
  refine (rbad_any _ _).mono ?_
  rintro e w2 ⟨rfl, b2⟩
  replace hC := hC.next b2
  obtain ⟨⟨_, hf⟩, ⟨_, c0, c1, c2⟩, hB, hle⟩ := hC
  go_wp2_with fail
  exact bodyPost_ret (v := .tuple #[V 4 3 nul, .bool true]) (by simp [results, Tryz.results73, go_sem, c0, c1, c2]) rfl ⟨rfl, by (repeat (first | exact Below.refl _ _ | assumption | (refine Below.setCell ?_ (by first | omega | (simp <;> omega)) _) | (refine Below.alloc ?_ (by first | omega | (simp <;> omega)) _) | (refine Below.drew ?_) | (refine Below.trans ?_ (Below.mono (by assumption) (by first | omega | (simp <;> omega))))))⟩
set_option maxRecDepth 100000 in
set_option maxHeartbeats 2000000 in
theorem named_3 (s : ByteArray) (w : World) (ht : (s.toList == [84, 82, 85, 69]) = false) (hf0 : (s.toList == [70, 65, 76, 83, 69]) = false) (h0 : (s.toList == [35, 68, 73, 86, 33]) = false) (h1 : (s.toList == [35, 86, 65, 76, 85, 69, 33]) = false) (h2 : (s.toList == [35, 82, 69, 70, 33]) = false) (h3 : (s.toList == [35, 78, 65, 77, 69, 33]) = true) :
    Calls Tryz.prog 73 #[.string s] w fun e w' => e = .returned (.tuple #[V 4 4 nul, .bool true]) ∧ Below w.heap.size w w' := by
  have g0 : ([35, 68, 73, 86, 33] == s.toList) = false := by rw [Bool.beq_comm]; exact h0
  have g1 : ([35, 86, 65, 76, 85, 69, 33] == s.toList) = false := by rw [Bool.beq_comm]; exact h1
  have g2 : ([35, 82, 69, 70, 33] == s.toList) = false := by rw [Bool.beq_comm]; exact h2
  have g3 : ([35, 78, 65, 77, 69, 33] == s.toList) = true := by rw [Bool.beq_comm]; exact h3
  have hC := Cell3.start w 142
  have hwc := wrongs_cell (w.alloc (.cells #[.int .i64 0, .int .i64 0, .string nul] 142))
  have bw : Below (w.alloc (.cells #[.int .i64 0, .int .i64 0, .string nul] 142)).heap.size (w.alloc (.cells #[.int .i64 0, .int .i64 0, .string nul] 142)) ((w.alloc (.cells #[.int .i64 0, .int .i64 0, .string nul] 142)).alloc (.cells wrongsC 9)) := (Below.refl _ _).alloc (Nat.le_refl _) _
  replace hC := hC.next bw
  go_enter Tryz.func73, Tryz.ntmps73
  go_wp2_with fail
  refine (wrongs_any _).mono ?_
  rintro e w1 ⟨rfl, rfl⟩
  generalize ((w.alloc (.cells #[.int .i64 0, .int .i64 0, .string nul] 142)).alloc (.cells wrongsC 9)) = W at *
  generalize (w.alloc (.cells #[.int .i64 0, .int .i64 0, .string nul] 142)).heap.size = bw0 at *
  clear bw
  obtain ⟨k1, k2, k3, k4, k5, k6⟩ := hwc
  go_wp2_with fail
  refine wp_loop_rounds 7 ?_
  iterate 4 (rw [rounds_succ]; go_wp2_with fail)
  refine (rbad_any _ _).mono ?_
  rintro e w2 ⟨rfl, b2⟩
  replace hC := hC.next b2
  obtain ⟨⟨_, hf⟩, ⟨_, c0, c1, c2⟩, hB, hle⟩ := hC
  go_wp2_with fail
  exact bodyPost_ret (v := .tuple #[V 4 4 nul, .bool true]) (by simp [results, Tryz.results73, go_sem, c0, c1, c2]) rfl ⟨rfl, by (repeat (first | exact Below.refl _ _ | assumption | (refine Below.setCell ?_ (by first | omega | (simp <;> omega)) _) | (refine Below.alloc ?_ (by first | omega | (simp <;> omega)) _) | (refine Below.drew ?_) | (refine Below.trans ?_ (Below.mono (by assumption) (by first | omega | (simp <;> omega))))))⟩
set_option maxRecDepth 100000 in
set_option maxHeartbeats 2000000 in
theorem named_4 (s : ByteArray) (w : World) (ht : (s.toList == [84, 82, 85, 69]) = false) (hf0 : (s.toList == [70, 65, 76, 83, 69]) = false) (h0 : (s.toList == [35, 68, 73, 86, 33]) = false) (h1 : (s.toList == [35, 86, 65, 76, 85, 69, 33]) = false) (h2 : (s.toList == [35, 82, 69, 70, 33]) = false) (h3 : (s.toList == [35, 78, 65, 77, 69, 33]) = false) (h4 : (s.toList == [35, 78, 85, 77, 33]) = true) :
    Calls Tryz.prog 73 #[.string s] w fun e w' => e = .returned (.tuple #[V 4 5 nul, .bool true]) ∧ Below w.heap.size w w' := by
  have g0 : ([35, 68, 73, 86, 33] == s.toList) = false := by rw [Bool.beq_comm]; exact h0
  have g1 : ([35, 86, 65, 76, 85, 69, 33] == s.toList) = false := by rw [Bool.beq_comm]; exact h1
  have g2 : ([35, 82, 69, 70, 33] == s.toList) = false := by rw [Bool.beq_comm]; exact h2
  have g3 : ([35, 78, 65, 77, 69, 33] == s.toList) = false := by rw [Bool.beq_comm]; exact h3
  have g4 : ([35, 78, 85, 77, 33] == s.toList) = true := by rw [Bool.beq_comm]; exact h4
  have hC := Cell3.start w 142
  have hwc := wrongs_cell (w.alloc (.cells #[.int .i64 0, .int .i64 0, .string nul] 142))
  have bw : Below (w.alloc (.cells #[.int .i64 0, .int .i64 0, .string nul] 142)).heap.size (w.alloc (.cells #[.int .i64 0, .int .i64 0, .string nul] 142)) ((w.alloc (.cells #[.int .i64 0, .int .i64 0, .string nul] 142)).alloc (.cells wrongsC 9)) := (Below.refl _ _).alloc (Nat.le_refl _) _
  replace hC := hC.next bw
  go_enter Tryz.func73, Tryz.ntmps73
  go_wp2_with fail
  refine (wrongs_any _).mono ?_
  rintro e w1 ⟨rfl, rfl⟩
  generalize ((w.alloc (.cells #[.int .i64 0, .int .i64 0, .string nul] 142)).alloc (.cells wrongsC 9)) = W at *
  generalize (w.alloc (.cells #[.int .i64 0, .int .i64 0, .string nul] 142)).heap.size = bw0 at *
  clear bw
  obtain ⟨k1, k2, k3, k4, k5, k6⟩ := hwc
  go_wp2_with fail
  refine wp_loop_rounds 7 ?_
  iterate 5 (rw [rounds_succ]; go_wp2_with fail)
  refine (rbad_any _ _).mono ?_
  rintro e w2 ⟨rfl, b2⟩
  replace hC := hC.next b2
  obtain ⟨⟨_, hf⟩, ⟨_, c0, c1, c2⟩, hB, hle⟩ := hC
  go_wp2_with fail
  exact bodyPost_ret (v := .tuple #[V 4 5 nul, .bool true]) (by simp [results, Tryz.results73, go_sem, c0, c1, c2]) rfl ⟨rfl, by (repeat (first | exact Below.refl _ _ | assumption | (refine Below.setCell ?_ (by first | omega | (simp <;> omega)) _) | (refine Below.alloc ?_ (by first | omega | (simp <;> omega)) _) | (refine Below.drew ?_) | (refine Below.trans ?_ (Below.mono (by assumption) (by first | omega | (simp <;> omega))))))⟩
set_option maxRecDepth 100000 in
set_option maxHeartbeats 2000000 in
theorem named_5 (s : ByteArray) (w : World) (ht : (s.toList == [84, 82, 85, 69]) = false) (hf0 : (s.toList == [70, 65, 76, 83, 69]) = false) (h0 : (s.toList == [35, 68, 73, 86, 33]) = false) (h1 : (s.toList == [35, 86, 65, 76, 85, 69, 33]) = false) (h2 : (s.toList == [35, 82, 69, 70, 33]) = false) (h3 : (s.toList == [35, 78, 65, 77, 69, 33]) = false) (h4 : (s.toList == [35, 78, 85, 77, 33]) = false) (h5 : (s.toList == [35, 78, 79, 78, 69, 33]) = true) :
    Calls Tryz.prog 73 #[.string s] w fun e w' => e = .returned (.tuple #[V 4 6 nul, .bool true]) ∧ Below w.heap.size w w' := by
  have g0 : ([35, 68, 73, 86, 33] == s.toList) = false := by rw [Bool.beq_comm]; exact h0
  have g1 : ([35, 86, 65, 76, 85, 69, 33] == s.toList) = false := by rw [Bool.beq_comm]; exact h1
  have g2 : ([35, 82, 69, 70, 33] == s.toList) = false := by rw [Bool.beq_comm]; exact h2
  have g3 : ([35, 78, 65, 77, 69, 33] == s.toList) = false := by rw [Bool.beq_comm]; exact h3
  have g4 : ([35, 78, 85, 77, 33] == s.toList) = false := by rw [Bool.beq_comm]; exact h4
  have g5 : ([35, 78, 79, 78, 69, 33] == s.toList) = true := by rw [Bool.beq_comm]; exact h5
  have hC := Cell3.start w 142
  have hwc := wrongs_cell (w.alloc (.cells #[.int .i64 0, .int .i64 0, .string nul] 142))
  have bw : Below (w.alloc (.cells #[.int .i64 0, .int .i64 0, .string nul] 142)).heap.size (w.alloc (.cells #[.int .i64 0, .int .i64 0, .string nul] 142)) ((w.alloc (.cells #[.int .i64 0, .int .i64 0, .string nul] 142)).alloc (.cells wrongsC 9)) := (Below.refl _ _).alloc (Nat.le_refl _) _
  replace hC := hC.next bw
  go_enter Tryz.func73, Tryz.ntmps73
  go_wp2_with fail
  refine (wrongs_any _).mono ?_
  rintro e w1 ⟨rfl, rfl⟩
  generalize ((w.alloc (.cells #[.int .i64 0, .int .i64 0, .string nul] 142)).alloc (.cells wrongsC 9)) = W at *
  generalize (w.alloc (.cells #[.int .i64 0, .int .i64 0, .string nul] 142)).heap.size = bw0 at *
  clear bw
  obtain ⟨k1, k2, k3, k4, k5, k6⟩ := hwc
  go_wp2_with fail
  refine wp_loop_rounds 7 ?_
  iterate 6 (rw [rounds_succ]; go_wp2_with fail)
  refine (rbad_any _ _).mono ?_
  rintro e w2 ⟨rfl, b2⟩
  replace hC := hC.next b2
  obtain ⟨⟨_, hf⟩, ⟨_, c0, c1, c2⟩, hB, hle⟩ := hC
  go_wp2_with fail
  exact bodyPost_ret (v := .tuple #[V 4 6 nul, .bool true]) (by simp [results, Tryz.results73, go_sem, c0, c1, c2]) rfl ⟨rfl, by (repeat (first | exact Below.refl _ _ | assumption | (refine Below.setCell ?_ (by first | omega | (simp <;> omega)) _) | (refine Below.alloc ?_ (by first | omega | (simp <;> omega)) _) | (refine Below.drew ?_) | (refine Below.trans ?_ (Below.mono (by assumption) (by first | omega | (simp <;> omega))))))⟩
end Go.Proofs.YtlaeoofjoofbcaaGreatDoor
/- The reference's One at what is bad. Condition: the place lies in the text, which has at most 200 bytes. -/
namespace Go.Proofs.YtlaeoofjoofbcaaGreatDoor.fm
open Go.RowKit
theorem named_bad (n : Nat) (h1 : 1 ≤ n) (h6 : n ≤ 6) (w : World) : Calls Tryz.prog 73 #[.string (sh 4 (n : Nat) YtlaeoofjoofbcaaGreatDoor.nul)] w fun e w' => e = .returned (.tuple #[V 4 (n : Nat) YtlaeoofjoofbcaaGreatDoor.nul, .bool true]) ∧ Below w.heap.size w w' := by
  match n, h1, h6 with
  | 1, _, _ => exact named_0 _ w (by decide +kernel) (by decide +kernel) (by decide +kernel)
  | 2, _, _ => exact named_1 _ w (by decide +kernel) (by decide +kernel) (by decide +kernel) (by decide +kernel)
  | 3, _, _ => exact named_2 _ w (by decide +kernel) (by decide +kernel) (by decide +kernel) (by decide +kernel) (by decide +kernel)
  | 4, _, _ => exact named_3 _ w (by decide +kernel) (by decide +kernel) (by decide +kernel) (by decide +kernel) (by decide +kernel) (by decide +kernel)
  | 5, _, _ => exact named_4 _ w (by decide +kernel) (by decide +kernel) (by decide +kernel) (by decide +kernel) (by decide +kernel) (by decide +kernel) (by decide +kernel)
  | 6, _, _ => exact named_5 _ w (by decide +kernel) (by decide +kernel) (by decide +kernel) (by decide +kernel) (by decide +kernel) (by decide +kernel) (by decide +kernel) (by decide +kernel)
  | n + 7, _, h6 => omega
set_option maxRecDepth 100000 in
set_option maxHeartbeats 8000000 in
theorem rone_bad (pb k d : Nat) (wr : Int) (s : ByteArray) (hs : s.size ≤ 200) (w : World) (h : PD w pb s k wr 0 d) (hk : k ≤ s.size) (t : Tk) (ht : tkR s k = t) (hc : t.kind = 3) (n : Nat) (h1 : 1 ≤ n) (h6 : n ≤ 6) (hn : t.t = sh 4 (n : Nat) YtlaeoofjoofbcaaGreatDoor.nul) :
    Calls Tryz.prog 51 #[ptr pb] w (OutR w pb s d wr (.ok (tBad n) t.e)) := by
  have hte : t.e ≤ s.size := ht ▸ (tk_spec s k hk).2.2
  have HT : Hid (∀ w, Calls Tryz.prog 36 #[.string s, .int .i64 k] w fun e w' => e = .returned (KV (tkR s k).kind ((tkR s k).a : Nat) ((tkR s k).e : Nat) (tkR s k).t) ∧ Below w.heap.size w w') := fun w => token_at s k w hs hk
  rw [ht] at HT
  clear ht
  have HHC : Hid (t.kind = 3) := hc
  clear hc
  have HNB : Hid (∀ w, Calls Tryz.prog 73 #[.string t.t] w fun e w' => e = .returned (.tuple #[V 4 (n : Nat) YtlaeoofjoofbcaaGreatDoor.nul, .bool true]) ∧ Below w.heap.size w w') := fun w => by rw [hn]; exact named_bad n h1 h6 w
  clear hn h1 h6
  go_enter Tryz.func51, Tryz.ntmps51
  go_upto_region 1 with fail
  have h0 : PD (w.alloc (.cells NZ 62)) pb s k wr 0 d := h.below ((Below.refl _ _).alloc (Nat.le_refl _) _)
  have hr : (w.alloc (.cells NZ 62)).heap[w.heap.size]? = some (.cells NZ 62 (0, 0)) := blk_new _ _
  have hK0 : Kp (· = pb) w (w.alloc (.cells NZ 62)) := (Kp.refl _ w).alloc _
  have hlt := h.lt
  have hrl : w.heap.size < (w.alloc (.cells NZ 62)).heap.size := by simp
  obtain ⟨rb, hrb⟩ : ∃ rb, w.heap.size = rb := ⟨_, rfl⟩
  rw [hrb] at hr hrl hlt ⊢
  have HRB : Hid (w.heap.size = rb) := hrb
  clear hrb
  generalize w.alloc (.cells NZ 62) = w0 at *
  obtain ⟨⟨c0, c1, c2, c3, c4⟩, f0, f1, f2, f3, f4⟩ := h0.cells
  have hrp : rb ≠ pb := by omega
  go_cut [3] (fun s3 wx => ∃ kb, s3 = ptr kb ∧ KS w0 t kb wx)
  case first =>
    have hlt0 := h0.lt
    have hne : w0.heap.size ≠ pb := by omega
    have hne' : pb ≠ w0.heap.size := by omega
    have KK : Hid (∀ wx, Below w0.heap.size w0 wx → wx.cell? ⟨pb, 0, none⟩ = some (.string s) ∧ wx.cell? ⟨pb, 1, none⟩ = some (.int .i64 k)) := fun wx hb => ⟨(hb.cell (p := ⟨pb, 0, none⟩) hlt0).trans c0, (hb.cell (p := ⟨pb, 1, none⟩) hlt0).trans c1⟩
    clear c0 c1 c2 c3 c4 f0 f1 f2 f3 f4
    go_region_held3 (fun wx => wx.cell? ⟨pb, 0, none⟩ = some (.string s) ∧ wx.cell? ⟨pb, 1, none⟩ = some (.int .i64 k)) (exact KK.out _ (by (repeat (first | exact Below.refl _ _ | assumption | (refine Below.setCell ?_ (by first | exact Nat.le_refl _ | omega) _) | (refine Below.alloc ?_ (by first | exact Nat.le_refl _ | exact hb'.size | omega | (simp <;> omega)) _) | (refine Below.drew ?_))))) ((go_at_call 36; refine (HT.out _).mono ?_; rintro e w1 ⟨rfl, hb⟩; have hb' : Below w0.heap.size w0 w1 := (by first | exact kb1 hb | exact kb2 hb); first | (have hz := kz_a hb; have hz4 := cells4f hz; obtain ⟨⟨z0, z1, z2, z3⟩, y0, y1, y2, y3⟩ := hz4) | skip))
    all_goals
      go_wp2_with fail
      go_meet
      case rel => first | exact ⟨_, rfl, ks3 hb⟩ | exact ks2 hb (Q := fun W => ∃ kb, _ = ptr kb ∧ KS w0 t kb W) (fun w2 h2 => ⟨_, rfl, h2⟩)
  case rest =>
  obtain ⟨kb, rfl, hS⟩ := hcut
  clear c0 c1 c2 c3 c4 f0 f1 f2 f3 f4 HT
  have hlo := hS.lo
  have hne : kb ≠ pb := by have := h0.lt; omega
  have hner : kb ≠ rb := by omega
  have hP : PD wc pb s k wr 0 d := h0.below hS.below
  obtain ⟨⟨c0, c1, c2, c3, c4⟩, f0, f1, f2, f3, f4⟩ := hP.cells
  obtain ⟨⟨z0, z1, z2, z3⟩, y0, y1, y2, y3⟩ := cells4f hS.blk
  have hKx : Kp (· = pb) w wc := hK0.below hS.below
  have hrc : wc.heap[rb]? = some (.cells NZ 62 (0, 0)) := by rw [hS.below.block rb hrl]; exact hr
  have hPe := hP.setAt t.e
  have hKe : Kp (· = pb) wc (wc.setCell ⟨pb, 1, none⟩ (.int .i64 t.e)) := kpset _ _ _ _
  have hrce := hKe.blk hrc hrp
  have hkbe := hKe.blk hS.blk hne
  have hKw := hKx.trans hKe (fun n e => .inl e)
  rw [HHC.out] at z0
  go_wp2_with fail
  go_at_call 73
  refine (HNB.out _).mono ?_
  rintro e w3 ⟨rfl, hb3⟩
  clear c0 c1 c2 c3 c4 f0 f1 f2 f3 f4 z0 z1 z2 z3 y0 y1 y2 y3
  have hr3 : w3.heap[rb]? = some (.cells NZ 62 (0, 0)) := by rw [hb3.block _ (lt_blk hrce)]; exact hrce
  have hr4 : (w3.alloc (.cells #[.int .i64 4, .int .i64 (n : Nat), .string YtlaeoofjoofbcaaGreatDoor.nul] 142)).heap[rb]? = some (.cells NZ 62 (0, 0)) := by rw [Below.heap_alloc _ _ _ (lt_blk hr3)]; exact hr3
  have hP4 := (hPe.below hb3).below ((Below.refl w3.heap.size w3).alloc (Nat.le_refl _) (.cells #[.int .i64 4, .int .i64 (n : Nat), .string YtlaeoofjoofbcaaGreatDoor.nul] 142))
  have hKw4 := (hKw.below hb3).alloc (.cells #[.int .i64 4, .int .i64 (n : Nat), .string YtlaeoofjoofbcaaGreatDoor.nul] 142)
  obtain ⟨⟨d0, d1, d2, d3, d4, d5, d6, d7, d8, d9, d10, d11⟩, df⟩ := cells12 hr4
  go_wp2_with fail
  clear d0 d1 d2 d3 d4 d5 d6 d7 d8 d9 d10 d11 df
  refine fin12 hr4 (Q := bodyPost _ _ _ _ _) ?_
  intro w9 hq9 hk9
  obtain ⟨⟨b0, b1, b2, b3, b4, b5, b6, b7, b8, b9, b10, b11⟩, bf⟩ := cells12 hq9
  refine bodyPost_ret (v := NV 4 (n : Nat) nul .z .z (.slice none 0 0)) (by simp [results, Tryz.results51, go_sem, b0, b1, b2, b3, b4, b5, b6, b7, b8, b9, b10, b11]) rfl ?_
  have hP9 := hP4.keep hk9 (fun e => hrp e.symm)
  have hK9 := hKw4.trans hk9 (fun n e => by right; rw [HRB.out, e]; exact Nat.le_refl _)
  exact ⟨_, t.e, rfl, Nd.leaf, hP9, hte, rfl, hK9⟩
end Go.Proofs.YtlaeoofjoofbcaaGreatDoor.fm
