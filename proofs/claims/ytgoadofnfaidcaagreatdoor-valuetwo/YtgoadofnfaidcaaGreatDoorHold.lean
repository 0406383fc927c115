/- The operators less and equal on two values of one kind that is not bad. Conditions: both are values. -/
import Derived.Test.YtgoadofnfaidcaaGreatDoorVals
namespace Go.Proofs.YtgoadofnfaidcaaGreatDoor
open Go.RowKit
theorem toList_nil {s : ByteArray} (h : s.toList.isEmpty = true) : s = nul := by
  rw [ByteArray.toList_eq, List.isEmpty_iff] at h
  obtain ⟨⟨l⟩⟩ := s
  simp at h
  subst h
  rfl
/-- A block may be written. -/
structure Mine (w : World) (b : Nat) : Prop where
  lt : b < w.heap.size
  free : ∀ o, w.frozen? ⟨b, o, none⟩ = false
theorem Mine.below {w w' : World} {b : Nat} (h : Mine w b) (hb : Below w.heap.size w w') : Mine w' b :=
  ⟨Nat.lt_of_lt_of_le h.lt hb.size, fun o => by rw [hb.frozen h.lt]; exact h.free o⟩
theorem Mine.alloc {w : World} {b : Nat} (h : Mine w b) (o : Obj) : Mine (w.alloc o) b := h.below ((Below.refl _ _).alloc (Nat.le_refl _) _)
theorem Mine.drew {w : World} {b : Nat} (h : Mine w b) : Mine w.drew b := ⟨h.lt, h.free⟩
theorem Mine.new (w : World) (c : Array Value) (t : TypeId) : Mine (w.alloc (.cells c t)) w.heap.size := ⟨by simp, fun o => by simp [go_sem]⟩
set_option maxHeartbeats 400000 in
theorem firstBad_no (k n k' n' : Int) (s s' : ByteArray) (w : World) (h : (k == 4) = false) (h' : (k' == 4) = false) :
    Calls Tryz.prog 68 #[V k n s, V k' n' s'] w fun e w' => e = .returned (.tuple #[V 0 0 nul, .bool false]) ∧ Below w.heap.size w w' := by
  go_enter Tryz.func68, Tryz.ntmps68
  go_wp2
  exact bodyPost_ret (v := .tuple #[V 0 0 nul, .bool false]) (by simp [results, Tryz.results68, go_sem]) rfl ⟨rfl, by (repeat (first | exact Below.refl _ _ | assumption | (refine Below.setCell ?_ (by first | omega | (simp <;> omega)) _) | (refine Below.alloc ?_ (by first | omega | (simp <;> omega)) _) | (refine Below.drew ?_) | (refine Below.trans ?_ (Below.mono (by assumption) (by first | omega | (simp <;> omega))))))⟩
set_option maxHeartbeats 400000 in
theorem blankAs_blank (kk n : Int) (s : ByteArray) (w : World) :
    Calls Tryz.prog 70 #[.int .i64 kk, V 0 n s] w fun e w' => e = .returned (V kk 0 nul) ∧ Below w.heap.size w w' := by
  go_enter Tryz.func70, Tryz.ntmps70
  go_wp2
  exact bodyPost_ret (v := V kk 0 nul) (by simp [results, Tryz.results70, go_sem]) rfl ⟨rfl, by (repeat (first | exact Below.refl _ _ | assumption | (refine Below.setCell ?_ (by first | omega | (simp <;> omega)) _) | (refine Below.alloc ?_ (by first | omega | (simp <;> omega)) _) | (refine Below.drew ?_) | (refine Below.trans ?_ (Below.mono (by assumption) (by first | omega | (simp <;> omega))))))⟩
set_option maxHeartbeats 400000 in
theorem blankAs_other (kk k n : Int) (s : ByteArray) (w : World) (h : (k == 0) = false) :
    Calls Tryz.prog 70 #[.int .i64 kk, V k n s] w fun e w' => e = .returned (V k n s) ∧ Below w.heap.size w w' := by
  go_enter Tryz.func70, Tryz.ntmps70
  go_wp2
  exact bodyPost_ret (v := V k n s) (by simp [results, Tryz.results70, go_sem]) rfl ⟨rfl, by (repeat (first | exact Below.refl _ _ | assumption | (refine Below.setCell ?_ (by first | omega | (simp <;> omega)) _) | (refine Below.alloc ?_ (by first | omega | (simp <;> omega)) _) | (refine Below.drew ?_) | (refine Below.trans ?_ (Below.mono (by assumption) (by first | omega | (simp <;> omega))))))⟩
/-- Beside one of its own kind what is blank stays what it is. -/
theorem blankAs_same (k n : Int) (s : ByteArray) (w : World) (h : isVal k n s = true) :
    Calls Tryz.prog 70 #[.int .i64 k, V k n s] w fun e w' => e = .returned (V k n s) ∧ Below w.heap.size w w' := by
  by_cases h0 : k = 0
  · subst h0
    unfold isVal at h
    rw [if_pos rfl, Bool.and_eq_true, beq_iff_eq] at h
    obtain ⟨rfl, h2⟩ := h
    rw [toList_nil h2]
    exact blankAs_blank 0 0 nul w
  · exact blankAs_other k k n s w (beq_eq_false_iff_ne.2 h0)
/-- What is held while the region is gone through. -/
def Held (w0 : World) (b4 b5 b6 : Nat) (k n : Int) (s : ByteArray) (n' : Int) (s' : ByteArray) (w : World) : Prop :=
  Has w b4 k n s ∧ Has w b5 k n' s' ∧ Has w b6 0 0 nul ∧ Mine w b6 ∧ Below w0.heap.size w0 w ∧ w0.heap.size ≤ b6
theorem Held.below {w0 : World} {b4 b5 b6 : Nat} {k n : Int} {s : ByteArray} {n' : Int} {s' : ByteArray} {w w' : World} (h : Held w0 b4 b5 b6 k n s n' s' w) (hb : Below w.heap.size w w') : Held w0 b4 b5 b6 k n s n' s' w' :=
  ⟨h.1.below hb, h.2.1.below hb, h.2.2.1.below hb, h.2.2.2.1.below hb, bnext h.2.2.2.2.1 hb h.2.2.2.2.1.size, h.2.2.2.2.2⟩
theorem Held.drew {w0 : World} {b4 b5 b6 : Nat} {k n : Int} {s : ByteArray} {n' : Int} {s' : ByteArray} {w : World} (h : Held w0 b4 b5 b6 k n s n' s' w) : Held w0 b4 b5 b6 k n s n' s' w.drew :=
  ⟨h.1.drew, h.2.1.drew, h.2.2.1.drew, h.2.2.2.1.drew, h.2.2.2.2.1.drew, h.2.2.2.2.2⟩
theorem Held.alloc {w0 : World} {b4 b5 b6 : Nat} {k n : Int} {s : ByteArray} {n' : Int} {s' : ByteArray} {w : World} (h : Held w0 b4 b5 b6 k n s n' s' w) (o : Obj) : Held w0 b4 b5 b6 k n s n' s' (w.alloc o) := h.below ((Below.refl _ _).alloc (Nat.le_refl _) _)
/-- The same, opened. -/
abbrev Opened (w0 : World) (b4 b5 b6 : Nat) (k n : Int) (s : ByteArray) (n' : Int) (s' : ByteArray) (w : World) : Prop :=
  w.cell? ⟨b4, 0, none⟩ = some (.int .i64 k) ∧ w.cell? ⟨b4, 1, none⟩ = some (.int .i64 n) ∧ w.cell? ⟨b4, 2, none⟩ = some (.string s) ∧ w.cell? ⟨b5, 0, none⟩ = some (.int .i64 k) ∧ w.cell? ⟨b5, 1, none⟩ = some (.int .i64 n') ∧ w.cell? ⟨b5, 2, none⟩ = some (.string s') ∧ Held w0 b4 b5 b6 k n s n' s' w
theorem Held.opened {w0 : World} {b4 b5 b6 : Nat} {k n : Int} {s : ByteArray} {n' : Int} {s' : ByteArray} {w : World} (h : Held w0 b4 b5 b6 k n s n' s' w) : Opened w0 b4 b5 b6 k n s n' s' w :=
  ⟨h.1.c0, h.1.c1, h.1.c2, h.2.1.c0, h.2.1.c1, h.2.1.c2, h⟩
theorem opened_below {w0 : World} {b4 b5 b6 : Nat} {k n : Int} {s : ByteArray} {n' : Int} {s' : ByteArray} {w w' : World} (h : Opened w0 b4 b5 b6 k n s n' s' w) (hb : Below w.heap.size w w') : Opened w0 b4 b5 b6 k n s n' s' w' := (h.2.2.2.2.2.2.below hb).opened
theorem opened_held {w0 : World} {b4 b5 b6 : Nat} {k n : Int} {s : ByteArray} {n' : Int} {s' : ByteArray} {w : World} (h : Opened w0 b4 b5 b6 k n s n' s' w) : Held w0 b4 b5 b6 k n s n' s' w := h.2.2.2.2.2.2
theorem held_start (w : World) (k n : Int) (s : ByteArray) (n' : Int) (s' : ByteArray) (t : TypeId) : Held w w.heap.size (w.heap.size + 1) (w.heap.size + 1 + 1) k n s n' s' (((w.alloc (.cells #[.int .i64 k, .int .i64 n, .string s] t)).alloc (.cells #[.int .i64 k, .int .i64 n', .string s'] t)).alloc (.cells #[.int .i64 0, .int .i64 0, .string nul] t)) := by
  have a := ((Has.new w k n s t).alloc (.cells #[.int .i64 k, .int .i64 n', .string s'] t)).alloc (.cells #[.int .i64 0, .int .i64 0, .string nul] t)
  have b := (Has.new (w.alloc (.cells #[.int .i64 k, .int .i64 n, .string s] t)) k n' s' t).alloc (.cells #[.int .i64 0, .int .i64 0, .string nul] t)
  have c := Has.new ((w.alloc (.cells #[.int .i64 k, .int .i64 n, .string s] t)).alloc (.cells #[.int .i64 k, .int .i64 n', .string s'] t)) 0 0 nul t
  have d := Mine.new ((w.alloc (.cells #[.int .i64 k, .int .i64 n, .string s] t)).alloc (.cells #[.int .i64 k, .int .i64 n', .string s'] t)) #[.int .i64 0, .int .i64 0, .string nul] t
  rw [World.size_alloc] at b
  rw [World.size_alloc, World.size_alloc] at c d
  exact ⟨a, b, c, d, by (repeat (first | exact Below.refl _ _ | assumption | (refine Below.setCell ?_ (by first | omega | (simp <;> omega)) _) | (refine Below.alloc ?_ (by first | omega | (simp <;> omega)) _) | (refine Below.drew ?_) | (refine Below.trans ?_ (Below.mono (by assumption) (by first | omega | (simp <;> omega)))))), by omega⟩
set_option maxRecDepth 100000 in
set_option maxHeartbeats 2000000 in
theorem hold_less (k n n' : Int) (s s' : ByteArray) (w : World) (h4 : (k == 4) = false) (hv : isVal k n s = true) (hv' : isVal k n' s' = true) :
    Calls Tryz.prog 47 #[.int .i64 3, V k n s, V k n' s'] w fun e w' => e = .returned (V 3 (b2n (decide (cmpV k n s k n' s' < 0))) nul) ∧ Below w.heap.size w w' := by
  have HV : Hid (isVal k n s = true) := hv
  have HV' : Hid (isVal k n' s' = true) := hv'
  clear hv hv'
  go_enter Tryz.func47, Tryz.ntmps47
  go_upto_region 4 with (go_at_call 68; refine (firstBad_no _ _ _ _ _ _ _ h4 h4).mono ?_; rintro e w1 ⟨rfl, h1⟩; obtain ⟨hc, hf⟩ := bcell h1)
  have h0 := ((held_start w k n s n' s' 23).below h1).alloc (.cells #[.int .i64 0, .int .i64 0, .string nul] 23)
  have h0d := h0.drew.opened
  have ⟨q0, q1, q2, q3, q4, q5, q6⟩ := h0.opened
  clear hc hf
  go_cut [9] (fun s9 wx => s9 = .int .i64 (cmpV k n s k n' s') ∧ Held w w.heap.size (w.heap.size + 1) (w.heap.size + 1 + 1) k n s n' s' wx)
  case first =>
    go_region_held3 (fun wx => Opened w w.heap.size (w.heap.size + 1) (w.heap.size + 1 + 1) k n s n' s' wx) (first | exact h0d | exact opened_below (by assumption) (by assumption)) (first | (go_at_call_of 70 (Value.string s); refine (blankAs_same _ _ _ _ HV.out).mono ?_; rintro e wa ⟨rfl, ha⟩) | (go_at_call_of 70 (Value.string s'); refine (blankAs_same _ _ _ _ HV'.out).mono ?_; rintro e wa ⟨rfl, ha⟩) | (go_at_call 17; refine (compare_any _ _ _ _ _ _ _).mono ?_; rintro e wa ⟨rfl, ha⟩))
    all_goals
      go_wp2_with fail
      go_meet
      case rel => exact ⟨rfl, opened_held (by assumption)⟩
  case rest =>
  clear h0 h0d q0 q1 q2 q3 q4 q5 q6 h1 HV HV'
  obtain ⟨rfl, hh⟩ := hcut
  go_wp2_with fail
  refine (truth_any _ _).mono ?_
  rintro e w2 ⟨rfl, h2⟩
  obtain ⟨_, _, ⟨l6, c0, c1, c2⟩, ⟨_, hf⟩, hB, hle⟩ := hh.below h2
  go_wp2_with fail
  exact bodyPost_ret (v := V 3 (b2n (decide (cmpV k n s k n' s' < 0))) nul) (by simp [results, Tryz.results47, go_sem, c0, c1, c2]) rfl ⟨rfl, by (repeat (first | exact Below.refl _ _ | assumption | (refine Below.setCell ?_ (by first | omega | (simp <;> omega)) _) | (refine Below.alloc ?_ (by first | omega | (simp <;> omega)) _) | (refine Below.drew ?_) | (refine Below.trans ?_ (Below.mono (by assumption) (by first | omega | (simp <;> omega))))))⟩
set_option maxRecDepth 100000 in
set_option maxHeartbeats 2000000 in
theorem hold_equal (k n n' : Int) (s s' : ByteArray) (w : World) (h4 : (k == 4) = false) (hv : isVal k n s = true) (hv' : isVal k n' s' = true) :
    Calls Tryz.prog 47 #[.int .i64 1, V k n s, V k n' s'] w fun e w' => e = .returned (V 3 (b2n (cmpV k n s k n' s' == 0)) nul) ∧ Below w.heap.size w w' := by
  have HV : Hid (isVal k n s = true) := hv
  have HV' : Hid (isVal k n' s' = true) := hv'
  clear hv hv'
  go_enter Tryz.func47, Tryz.ntmps47
  go_upto_region 4 with (go_at_call 68; refine (firstBad_no _ _ _ _ _ _ _ h4 h4).mono ?_; rintro e w1 ⟨rfl, h1⟩; obtain ⟨hc, hf⟩ := bcell h1)
  have h0 := ((held_start w k n s n' s' 23).below h1).alloc (.cells #[.int .i64 0, .int .i64 0, .string nul] 23)
  have h0d := h0.drew.opened
  have ⟨q0, q1, q2, q3, q4, q5, q6⟩ := h0.opened
  clear hc hf
  go_cut [9] (fun s9 wx => s9 = .int .i64 (cmpV k n s k n' s') ∧ Held w w.heap.size (w.heap.size + 1) (w.heap.size + 1 + 1) k n s n' s' wx)
  case first =>
    go_region_held3 (fun wx => Opened w w.heap.size (w.heap.size + 1) (w.heap.size + 1 + 1) k n s n' s' wx) (first | exact h0d | exact opened_below (by assumption) (by assumption)) (first | (go_at_call_of 70 (Value.string s); refine (blankAs_same _ _ _ _ HV.out).mono ?_; rintro e wa ⟨rfl, ha⟩) | (go_at_call_of 70 (Value.string s'); refine (blankAs_same _ _ _ _ HV'.out).mono ?_; rintro e wa ⟨rfl, ha⟩) | (go_at_call 17; refine (compare_any _ _ _ _ _ _ _).mono ?_; rintro e wa ⟨rfl, ha⟩))
    all_goals
      go_wp2_with fail
      go_meet
      case rel => exact ⟨rfl, opened_held (by assumption)⟩
  case rest =>
  clear h0 h0d q0 q1 q2 q3 q4 q5 q6 h1 HV HV'
  obtain ⟨rfl, hh⟩ := hcut
  go_wp2_with fail
  refine (truth_any _ _).mono ?_
  rintro e w2 ⟨rfl, h2⟩
  obtain ⟨_, _, ⟨l6, c0, c1, c2⟩, ⟨_, hf⟩, hB, hle⟩ := hh.below h2
  go_wp2_with fail
  exact bodyPost_ret (v := V 3 (b2n (cmpV k n s k n' s' == 0)) nul) (by simp [results, Tryz.results47, go_sem, c0, c1, c2]) rfl ⟨rfl, by (repeat (first | exact Below.refl _ _ | assumption | (refine Below.setCell ?_ (by first | omega | (simp <;> omega)) _) | (refine Below.alloc ?_ (by first | omega | (simp <;> omega)) _) | (refine Below.drew ?_) | (refine Below.trans ?_ (Below.mono (by assumption) (by first | omega | (simp <;> omega))))))⟩
end Go.Proofs.YtgoadofnfaidcaaGreatDoor
