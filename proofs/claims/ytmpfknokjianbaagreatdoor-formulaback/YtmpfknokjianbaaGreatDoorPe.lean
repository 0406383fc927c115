/- A level deeper. Condition: lengths up to 2^47. -/
import Derived.Test.YtmpfknokjianbaaGreatDoorPd
namespace Go.Proofs.YtmpfknokjianbaaGreatDoor.fm
open Go.RowKit
set_option maxHeartbeats 4000000 in
set_option maxRecDepth 100000 in
theorem deeper70 (B wb pb nb : Nat) (x y : List UInt8) (op sh : ByteArray) (d m ε : Nat) (w : World) (h : WB w B wb x d m) (hdm : d ≤ m) (hm : m + ε < 1000000) (hlen : x.length + op.size + y.length + sh.size ≤ 140737488355328) (hBw : B ≤ w.heap.size)
    (hin : ∀ w1, WB w1 B wb (x ++ op.data.toList) (d + 1) (max m (d + 1)) → Kw B wb w w1 → Calls Tryz.prog 70 #[ptr pb, ptr nb] w1 fun e w' => e = .returned (.tuple #[]) ∧ WB w' B wb (x ++ op.data.toList ++ y) (d + 1) (max (max m (d + 1)) (d + 1 + ε)) ∧ Kw B wb w1 w') :
    Calls Tryz.prog 69 #[ptr wb, .string op, .func (.func 70) #[] #[ptr pb, ptr nb], .string sh] w fun e w' => e = .returned (.tuple #[]) ∧ WB w' B wb (x ++ op.data.toList ++ y ++ sh.data.toList) d (max m (d + 1 + ε)) ∧ Kw B wb w w' := by
  have HIN : Hid (∀ w1, WB w1 B wb (x ++ op.data.toList) (d + 1) (max m (d + 1)) → Kw B wb w w1 → Calls Tryz.prog 70 #[ptr pb, ptr nb] w1 fun e w' => e = .returned (.tuple #[]) ∧ WB w' B wb (x ++ op.data.toList ++ y) (d + 1) (max (max m (d + 1)) (d + 1 + ε)) ∧ Kw B wb w1 w') := hin
  clear hin
  have hB := h.ge
  obtain ⟨⟨c2, c3⟩, f2, f3⟩ := h.cells
  have h1 := h.setD (d + 1)
  have k1 := (Kw.refl B wb w).set hB 2 (.int .i64 ((d : Int) + 1))
  obtain ⟨⟨b2, b3⟩, e2, e3⟩ := h1.cells
  rw [show ((d + 1 : Nat) : Int) = (d : Int) + 1 from by omega] at h1 b2 b3 e2 e3
  have hd6 : (d : Int) < 1000000 := by omega
  have hm6 : (m : Int) < 1000000 := by omega
  go_enter Tryz.func69, Tryz.ntmps69
  go_wp2_with fail
  generalize w.setCell ⟨wb, 2, none⟩ (.int .i64 ((d : Int) + 1)) = w0 at *
  clear c2 c3 f2 f3
  go_region
  have h2 := (h1.setM (max m (d + 1))).drew
  have k2 := (k1.set hB 3 (.int .i64 (max (m : Int) ((d : Int) + 1)))).drew
  rw [show ((max m (d + 1) : Nat) : Int) = max (m : Int) ((d : Int) + 1) from by omega] at h2
  clear b2 b3 e2 e3 h1 k1
  generalize (w0.setCell ⟨wb, 3, none⟩ (.int .i64 (max (m : Int) ((d : Int) + 1)))).drew = w1 at *
  go_wp2_with fail
  have s2 := k2.b.size
  refine (write_any B wb x _ _ op w1 h2 (by omega) (by omega)).mono ?_
  rintro e w2 ⟨rfl, h3, k3⟩
  have k23 := k2.trans k3
  go_wp2_with fail
  refine (HIN.out _ h3 k23).mono ?_
  rintro e w3 ⟨rfl, h4, k4⟩
  have k24 := k23.trans k4
  have s4 := k24.b.size
  go_wp2_with fail
  refine (write_any B wb _ _ _ sh w3 h4 (by simp only [List.length_append, Array.length_toList]; have e1 : op.size = op.data.size := rfl; omega) (by omega)).mono ?_
  rintro e w4 ⟨rfl, h5, k5⟩
  have k25 := k24.trans k5
  obtain ⟨⟨c2, c3⟩, f2, f3⟩ := h5.cells
  rw [show ((d + 1 : Nat) : Int) = (d : Int) + 1 from by omega] at c2
  have hd7 : (d : Int) + 1 - 1 = (d : Int) := by omega
  go_wp2_with fail
  go_end0
  refine ⟨rfl, ?_, ?_⟩
  · have := h5.setD d
    rw [show max (max m (d + 1)) (d + 1 + ε) = max m (d + 1 + ε) from by omega] at this
    exact this
  · exact k25.set hB 2 _
set_option maxHeartbeats 4000000 in
set_option maxRecDepth 100000 in
theorem deeper72 (B wb pb nb : Nat) (x y : List UInt8) (op sh : ByteArray) (d m ε : Nat) (w : World) (h : WB w B wb x d m) (hdm : d ≤ m) (hm : m + ε < 1000000) (hlen : x.length + op.size + y.length + sh.size ≤ 140737488355328) (hBw : B ≤ w.heap.size)
    (hin : ∀ w1, WB w1 B wb (x ++ op.data.toList) (d + 1) (max m (d + 1)) → Kw B wb w w1 → Calls Tryz.prog 72 #[ptr pb, ptr nb] w1 fun e w' => e = .returned (.tuple #[]) ∧ WB w' B wb (x ++ op.data.toList ++ y) (d + 1) (max (max m (d + 1)) (d + 1 + ε)) ∧ Kw B wb w1 w') :
    Calls Tryz.prog 69 #[ptr wb, .string op, .func (.func 72) #[] #[ptr pb, ptr nb], .string sh] w fun e w' => e = .returned (.tuple #[]) ∧ WB w' B wb (x ++ op.data.toList ++ y ++ sh.data.toList) d (max m (d + 1 + ε)) ∧ Kw B wb w w' := by
  have HIN : Hid (∀ w1, WB w1 B wb (x ++ op.data.toList) (d + 1) (max m (d + 1)) → Kw B wb w w1 → Calls Tryz.prog 72 #[ptr pb, ptr nb] w1 fun e w' => e = .returned (.tuple #[]) ∧ WB w' B wb (x ++ op.data.toList ++ y) (d + 1) (max (max m (d + 1)) (d + 1 + ε)) ∧ Kw B wb w1 w') := hin
  clear hin
  have hB := h.ge
  obtain ⟨⟨c2, c3⟩, f2, f3⟩ := h.cells
  have h1 := h.setD (d + 1)
  have k1 := (Kw.refl B wb w).set hB 2 (.int .i64 ((d : Int) + 1))
  obtain ⟨⟨b2, b3⟩, e2, e3⟩ := h1.cells
  rw [show ((d + 1 : Nat) : Int) = (d : Int) + 1 from by omega] at h1 b2 b3 e2 e3
  have hd6 : (d : Int) < 1000000 := by omega
  have hm6 : (m : Int) < 1000000 := by omega
  go_enter Tryz.func69, Tryz.ntmps69
  go_wp2_with fail
  generalize w.setCell ⟨wb, 2, none⟩ (.int .i64 ((d : Int) + 1)) = w0 at *
  clear c2 c3 f2 f3
  go_region
  have h2 := (h1.setM (max m (d + 1))).drew
  have k2 := (k1.set hB 3 (.int .i64 (max (m : Int) ((d : Int) + 1)))).drew
  rw [show ((max m (d + 1) : Nat) : Int) = max (m : Int) ((d : Int) + 1) from by omega] at h2
  clear b2 b3 e2 e3 h1 k1
  generalize (w0.setCell ⟨wb, 3, none⟩ (.int .i64 (max (m : Int) ((d : Int) + 1)))).drew = w1 at *
  go_wp2_with fail
  have s2 := k2.b.size
  refine (write_any B wb x _ _ op w1 h2 (by omega) (by omega)).mono ?_
  rintro e w2 ⟨rfl, h3, k3⟩
  have k23 := k2.trans k3
  go_wp2_with fail
  refine (HIN.out _ h3 k23).mono ?_
  rintro e w3 ⟨rfl, h4, k4⟩
  have k24 := k23.trans k4
  have s4 := k24.b.size
  go_wp2_with fail
  refine (write_any B wb _ _ _ sh w3 h4 (by simp only [List.length_append, Array.length_toList]; have e1 : op.size = op.data.size := rfl; omega) (by omega)).mono ?_
  rintro e w4 ⟨rfl, h5, k5⟩
  have k25 := k24.trans k5
  obtain ⟨⟨c2, c3⟩, f2, f3⟩ := h5.cells
  rw [show ((d + 1 : Nat) : Int) = (d : Int) + 1 from by omega] at c2
  have hd7 : (d : Int) + 1 - 1 = (d : Int) := by omega
  go_wp2_with fail
  go_end0
  refine ⟨rfl, ?_, ?_⟩
  · have := h5.setD d
    rw [show max (max m (d + 1)) (d + 1 + ε) = max m (d + 1 + ε) from by omega] at this
    exact this
  · exact k25.set hB 2 _
set_option maxHeartbeats 4000000 in
set_option maxRecDepth 100000 in
theorem deeper95 (B wb pb nb : Nat) (x y : List UInt8) (op sh : ByteArray) (d m ε : Nat) (w : World) (h : WB w B wb x d m) (hdm : d ≤ m) (hm : m + ε < 1000000) (hlen : x.length + op.size + y.length + sh.size ≤ 140737488355328) (hBw : B ≤ w.heap.size)
    (hin : ∀ w1, WB w1 B wb (x ++ op.data.toList) (d + 1) (max m (d + 1)) → Kw B wb w w1 → Calls Tryz.prog 95 #[ptr pb, ptr nb] w1 fun e w' => e = .returned (.tuple #[]) ∧ WB w' B wb (x ++ op.data.toList ++ y) (d + 1) (max (max m (d + 1)) (d + 1 + ε)) ∧ Kw B wb w1 w') :
    Calls Tryz.prog 69 #[ptr wb, .string op, .func (.func 95) #[] #[ptr pb, ptr nb], .string sh] w fun e w' => e = .returned (.tuple #[]) ∧ WB w' B wb (x ++ op.data.toList ++ y ++ sh.data.toList) d (max m (d + 1 + ε)) ∧ Kw B wb w w' := by
  have HIN : Hid (∀ w1, WB w1 B wb (x ++ op.data.toList) (d + 1) (max m (d + 1)) → Kw B wb w w1 → Calls Tryz.prog 95 #[ptr pb, ptr nb] w1 fun e w' => e = .returned (.tuple #[]) ∧ WB w' B wb (x ++ op.data.toList ++ y) (d + 1) (max (max m (d + 1)) (d + 1 + ε)) ∧ Kw B wb w1 w') := hin
  clear hin
  have hB := h.ge
  obtain ⟨⟨c2, c3⟩, f2, f3⟩ := h.cells
  have h1 := h.setD (d + 1)
  have k1 := (Kw.refl B wb w).set hB 2 (.int .i64 ((d : Int) + 1))
  obtain ⟨⟨b2, b3⟩, e2, e3⟩ := h1.cells
  rw [show ((d + 1 : Nat) : Int) = (d : Int) + 1 from by omega] at h1 b2 b3 e2 e3
  have hd6 : (d : Int) < 1000000 := by omega
  have hm6 : (m : Int) < 1000000 := by omega
  go_enter Tryz.func69, Tryz.ntmps69
  go_wp2_with fail
  generalize w.setCell ⟨wb, 2, none⟩ (.int .i64 ((d : Int) + 1)) = w0 at *
  clear c2 c3 f2 f3
  go_region
  have h2 := (h1.setM (max m (d + 1))).drew
  have k2 := (k1.set hB 3 (.int .i64 (max (m : Int) ((d : Int) + 1)))).drew
  rw [show ((max m (d + 1) : Nat) : Int) = max (m : Int) ((d : Int) + 1) from by omega] at h2
  clear b2 b3 e2 e3 h1 k1
  generalize (w0.setCell ⟨wb, 3, none⟩ (.int .i64 (max (m : Int) ((d : Int) + 1)))).drew = w1 at *
  go_wp2_with fail
  have s2 := k2.b.size
  refine (write_any B wb x _ _ op w1 h2 (by omega) (by omega)).mono ?_
  rintro e w2 ⟨rfl, h3, k3⟩
  have k23 := k2.trans k3
  go_wp2_with fail
  refine (HIN.out _ h3 k23).mono ?_
  rintro e w3 ⟨rfl, h4, k4⟩
  have k24 := k23.trans k4
  have s4 := k24.b.size
  go_wp2_with fail
  refine (write_any B wb _ _ _ sh w3 h4 (by simp only [List.length_append, Array.length_toList]; have e1 : op.size = op.data.size := rfl; omega) (by omega)).mono ?_
  rintro e w4 ⟨rfl, h5, k5⟩
  have k25 := k24.trans k5
  obtain ⟨⟨c2, c3⟩, f2, f3⟩ := h5.cells
  rw [show ((d + 1 : Nat) : Int) = (d : Int) + 1 from by omega] at c2
  have hd7 : (d : Int) + 1 - 1 = (d : Int) := by omega
  go_wp2_with fail
  go_end0
  refine ⟨rfl, ?_, ?_⟩
  · have := h5.setD d
    rw [show max (max m (d + 1)) (d + 1 + ε) = max m (d + 1 + ε) from by omega] at this
    exact this
  · exact k25.set hB 2 _
end Go.Proofs.YtmpfknokjianbaaGreatDoor.fm
