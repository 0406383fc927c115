/- The text of a box. Condition: its refs are cells. -/
import Derived.Test.YtmpfknokjianbaaGreatDoorPg
namespace Go.Proofs.YtmpfknokjianbaaGreatDoor.fm
open Go.RowKit
/-- A node in its block, its refs opened. -/
abbrev Op8 (w : World) (k n : Int) (s : ByteArray) (r t : Rf) (v : Value) (wx : World) : Prop :=
  wx.cell? ⟨w.heap.size, 3, none⟩ = some (.int .i64 r.c) ∧ wx.cell? ⟨w.heap.size, 4, none⟩ = some (.int .i64 r.r) ∧ wx.cell? ⟨w.heap.size, 5, none⟩ = some (.bool r.fc) ∧ wx.cell? ⟨w.heap.size, 6, none⟩ = some (.bool r.fr) ∧ wx.cell? ⟨w.heap.size, 7, none⟩ = some (.int .i64 t.c) ∧ wx.cell? ⟨w.heap.size, 8, none⟩ = some (.int .i64 t.r) ∧ wx.cell? ⟨w.heap.size, 9, none⟩ = some (.bool t.fc) ∧ wx.cell? ⟨w.heap.size, 10, none⟩ = some (.bool t.fr) ∧ OB w w (N12 k n s r t v) wx
theorem Op8.mk {w : World} {k n : Int} {s : ByteArray} {r t : Rf} {v : Value} {wx : World} (h : OB w w (N12 k n s r t v) wx) : Op8 w k n s r t v wx := by
  obtain ⟨⟨a0, a1, a2, a3, a4, a5, a6, a7, a8, a9, a10, a11⟩, af⟩ := cells12 h.a
  exact ⟨a3, a4, a5, a6, a7, a8, a9, a10, h⟩
theorem op8_below {w : World} {k n : Int} {s : ByteArray} {r t : Rf} {v : Value} {wx wy : World} (h : Op8 w k n s r t v wx) (hb : Below wx.heap.size wx wy) : Op8 w k n s r t v wy :=
  .mk (h.2.2.2.2.2.2.2.2.next hb)
theorem op8_end {w : World} {k n : Int} {s : ByteArray} {r t : Rf} {v : Value} {wx : World} (h : Op8 w k n s r t v wx) : Below w.heap.size w wx := h.2.2.2.2.2.2.2.2.below
set_option maxHeartbeats 4000000 in
set_option maxRecDepth 100000 in
theorem leaf_box (n : Int) (s : ByteArray) (r t : Rf) (p : Option Addr) (m c : Nat) (w : World) (h : adr.isC r.c r.r = true) (h2 : adr.isC t.c t.r = true) :
    Calls Tryz.prog 74 #[NV 6 n s r t (.slice p m c)] w fun e w' => e = .returned (.string ⟨(ink.ref r ++ 58 :: ink.ref t).toArray⟩) ∧ Below w.heap.size w w' := by
  have hb0 : Below w.heap.size w (w.alloc (.cells (N12 6 n s r t (.slice p m c)) 28)) := (Below.refl _ _).alloc (Nat.le_refl _) _
  have hq0 := blk_new w (.cells (N12 6 n s r t (.slice p m c)) 28)
  obtain ⟨⟨a0, a1, a2, a3, a4, a5, a6, a7, a8, a9, a10, a11⟩, af⟩ := cells12 hq0
  have z1 := ref_size r h
  have z2 := ref_size t h2
  have HC1 : Hid (∀ w, Calls Tryz.prog 99 #[RV r] w fun e w' => e = .returned (.string ⟨(ink.ref r).toArray⟩) ∧ Below w.heap.size w w') := fun w => refText_any r w h
  have HC2 : Hid (∀ w, Calls Tryz.prog 99 #[RV t] w fun e w' => e = .returned (.string ⟨(ink.ref t).toArray⟩) ∧ Below w.heap.size w w') := fun w => refText_any t w h2
  have HR : Hid (((⟨(ink.ref r).toArray⟩ : ByteArray) ++ ⟨#[58]⟩) ++ ⟨(ink.ref t).toArray⟩ = ⟨(ink.ref r ++ 58 :: ink.ref t).toArray⟩) := by
    unfold Hid
    apply ByteArray.ext
    simp [ByteArray.data_append]
  obtain ⟨D, hD⟩ : ∃ D : ByteArray, ⟨(ink.ref r).toArray⟩ = D := ⟨_, rfl⟩
  obtain ⟨E, hE⟩ : ∃ E : ByteArray, ⟨(ink.ref t).toArray⟩ = E := ⟨_, rfl⟩
  rw [hD] at HC1 HR z1
  rw [hE] at HC2 HR z2
  clear hD hE h h2
  have q0 : (⟨#[58]⟩ : ByteArray).size = 1 := rfl
  have q1 : ¬ 9223372036854775807 < D.size + (⟨#[58]⟩ : ByteArray).size := by omega
  have q2 : ¬ 9223372036854775807 < D.size + (⟨#[58]⟩ : ByteArray).size + E.size := by omega
  have q3 : ¬ 9223372036854775807 < D.size + 1 := by omega
  have q4 : ¬ 9223372036854775807 < D.size + 1 + E.size := by omega
  clear q0
  have h0d : Op8 w 6 n s r t (.slice p m c) (w.alloc (.cells (N12 6 n s r t (.slice p m c)) 28)).drew := Op8.mk (OB.start (Below.refl _ _) _).drew
  clear hq0 hb0
  go_enter Tryz.func74, Tryz.ntmps74
  go_wp2_with fail
  clear a0 a1 a2 a11 af
  generalize hw0 : w.alloc _ = w0 at *
  clear hw0
  go_region_held3 (fun wx => Op8 w 6 n s r t (.slice p m c) wx) (first | with_reducible exact h0d | with_reducible assumption | exact op8_below (by with_reducible assumption) (by with_reducible assumption)) (first | (go_at_call 99; with_reducible refine (HC1.out _).mono ?_; rintro e wa ⟨rfl, ha⟩) | (go_at_call 99; with_reducible refine (HC2.out _).mono ?_; rintro e wa ⟨rfl, ha⟩))
  all_goals
    go_wp2_with fail
    go_ret
    exact ⟨by rw [← HR.out]; rfl, op8_end (by assumption)⟩
end Go.Proofs.YtmpfknokjianbaaGreatDoor.fm
