
/- The operators less and equal on two values of one kind that is not bad. Conditions: both are values. -/
import Derived.Test.YtnelglmbckgbgaaGreatDoorVals
namespace Go.Proofs.YtnelglmbckgbgaaGreatDoor
open Go.RowKit
theorem toList_nil {s : ByteArray} (h : s.toList.isEmpty = true) : s = nul := by
  rw [ByteArray.toList_eq, List.isEmpty_iff] at h
  obtain ⟨⟨l⟩⟩ := s
  simp at h
  subst h
  rfl
/-- A block may be written. -/
structure Mine (w : World) (b : Nat) : Prop where
  lt : b < w.heap.size
  free : ∀ o, w.frozen? ⟨b, o, none⟩ = false
theorem Mine.below {w w' : World} {b : Nat} (h : Mine w b) (hb : Below w.heap.size w w') : Mine w' b :=
  ⟨Nat.lt_of_lt_of_le h.lt hb.size, fun o => by rw [hb.frozen h.lt]; exact h.free o⟩
theorem Mine.alloc {w : World} {b : Nat} (h : Mine w b) (o : Obj) : Mine (w.alloc o) b := h.below ((Below.refl _ _).alloc (Nat.le_refl _) _)
theorem Mine.drew {w : World} {b : Nat} (h : Mine w b) : Mine w.drew b := ⟨h.lt, h.free⟩
theorem Mine.new (w : World) (c : Array Value) (t : TypeId) : Mine (w.alloc (.cells c t)) w.heap.size := ⟨by simp, fun o => by simp [go_sem]⟩
/-- What is held while the region is gone through. -/
def Held (w0 : World) (b4 b5 b6 : Nat) (k n : Int) (s : ByteArray) (n' : Int) (s' : ByteArray) (w : World) : Prop :=
  Has w b4 k n s ∧ Has w b5 k n' s' ∧ Has w b6 0 0 nul ∧ Mine w b6 ∧ Below w0.heap.size w0 w ∧ w0.heap.size ≤ b6
theorem Held.below {w0 : World} {b4 b5 b6 : Nat} {k n : Int} {s : ByteArray} {n' : Int} {s' : ByteArray} {w w' : World} (h : Held w0 b4 b5 b6 k n s n' s' w) (hb : Below w.heap.size w w') : Held w0 b4 b5 b6 k n s n' s' w' :=
  ⟨h.1.below hb, h.2.1.below hb, h.2.2.1.below hb, h.2.2.2.1.below hb, bnext h.2.2.2.2.1 hb h.2.2.2.2.1.size, h.2.2.2.2.2⟩
theorem Held.drew {w0 : World} {b4 b5 b6 : Nat} {k n : Int} {s : ByteArray} {n' : Int} {s' : ByteArray} {w : World} (h : Held w0 b4 b5 b6 k n s n' s' w) : Held w0 b4 b5 b6 k n s n' s' w.drew :=
  ⟨h.1.drew, h.2.1.drew, h.2.2.1.drew, h.2.2.2.1.drew, h.2.2.2.2.1.drew, h.2.2.2.2.2⟩
theorem Held.alloc {w0 : World} {b4 b5 b6 : Nat} {k n : Int} {s : ByteArray} {n' : Int} {s' : ByteArray} {w : World} (h : Held w0 b4 b5 b6 k n s n' s' w) (o : Obj) : Held w0 b4 b5 b6 k n s n' s' (w.alloc o) := h.below ((Below.refl _ _).alloc (Nat.le_refl _) _)
/-- The same, opened. -/
abbrev Opened (w0 : World) (b4 b5 b6 : Nat) (k n : Int) (s : ByteArray) (n' : Int) (s' : ByteArray) (w : World) : Prop :=
  w.cell? ⟨b4, 0, none⟩ = some (.int .i64 k) ∧ w.cell? ⟨b4, 1, none⟩ = some (.int .i64 n) ∧ w.cell? ⟨b4, 2, none⟩ = some (.string s) ∧ w.cell? ⟨b5, 0, none⟩ = some (.int .i64 k) ∧ w.cell? ⟨b5, 1, none⟩ = some (.int .i64 n') ∧ w.cell? ⟨b5, 2, none⟩ = some (.string s') ∧ Held w0 b4 b5 b6 k n s n' s' w
theorem Held.opened {w0 : World} {b4 b5 b6 : Nat} {k n : Int} {s : ByteArray} {n' : Int} {s' : ByteArray} {w : World} (h : Held w0 b4 b5 b6 k n s n' s' w) : Opened w0 b4 b5 b6 k n s n' s' w :=
  ⟨h.1.c0, h.1.c1, h.1.c2, h.2.1.c0, h.2.1.c1, h.2.1.c2, h⟩
theorem opened_below {w0 : World} {b4 b5 b6 : Nat} {k n : Int} {s : ByteArray} {n' : Int} {s' : ByteArray} {w w' : World} (h : Opened w0 b4 b5 b6 k n s n' s' w) (hb : Below w.heap.size w w') : Opened w0 b4 b5 b6 k n s n' s' w' := (h.2.2.2.2.2.2.below hb).opened
theorem opened_held {w0 : World} {b4 b5 b6 : Nat} {k n : Int} {s : ByteArray} {n' : Int} {s' : ByteArray} {w : World} (h : Opened w0 b4 b5 b6 k n s n' s' w) : Held w0 b4 b5 b6 k n s n' s' w := h.2.2.2.2.2.2
theorem held_start (w : World) (k n : Int) (s : ByteArray) (n' : Int) (s' : ByteArray) (t : TypeId) : Held w w.heap.size (w.heap.size + 1) (w.heap.size + 1 + 1) k n s n' s' (((w.alloc (.cells #[.int .i64 k, .int .i64 n, .string s] t)).alloc (.cells #[.int .i64 k, .int .i64 n', .string s'] t)).alloc (.cells #[.int .i64 0, .int .i64 0, .string nul] t)) := by
  have a := ((Has.new w k n s t).alloc (.cells #[.int .i64 k, .int .i64 n', .string s'] t)).alloc (.cells #[.int .i64 0, .int .i64 0, .string nul] t)
  have b := (Has.new (w.alloc (.cells #[.int .i64 k, .int .i64 n, .string s] t)) k n' s' t).alloc (.cells #[.int .i64 0, .int .i64 0, .string nul] t)
  have c := Has.new ((w.alloc (.cells #[.int .i64 k, .int .i64 n, .string s] t)).alloc (.cells #[.int .i64 k, .int .i64 n', .string s'] t)) 0 0 nul t
  have d := Mine.new ((w.alloc (.cells #[.int .i64 k, .int .i64 n, .string s] t)).alloc (.cells #[.int .i64 k, .int .i64 n', .string s'] t)) #[.int .i64 0, .int .i64 0, .string nul] t
  rw [World.size_alloc] at b
  rw [World.size_alloc, World.size_alloc] at c d
  exact ⟨a, b, c, d, by (repeat (first | exact Below.refl _ _ | assumption | (refine Below.setCell ?_ (by first | omega | (simp <;> omega)) _) | (refine Below.alloc ?_ (by first | omega | (simp <;> omega)) _) | (refine Below.drew ?_) | (refine Below.trans ?_ (Below.mono (by assumption) (by first | omega | (simp <;> omega)))))), by omega⟩
end Go.Proofs.YtnelglmbckgbgaaGreatDoor
