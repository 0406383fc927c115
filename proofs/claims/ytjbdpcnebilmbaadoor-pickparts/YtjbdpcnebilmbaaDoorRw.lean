
/- The document on values: which of two stands ahead, and what is a value. Conditions: as each theorem says. -/
import Derived.Test.YtjbdpcnebilmbaaDoorSw
namespace Go.Proofs.YtjbdpcnebilmbaaDoor.so
open Go.RowKit Go.Sort Go.Shelf
theorem bkg {wx wy : World} {b : Nat} {o : Obj} (h : wx.heap[b]? = some o) (hb : Gr wx wy) : wy.heap[b]? = some o := by rw [hb.below.block _ (lt_of_blk h)]; exact h
theorem bl_cbt : ∀ a b : List UInt8, Op.bytesLess a b = true ↔ Lib.compareBytes a b < 0
  | [], [] => by simp [Lib.compareBytes, Op.bytesLess]
  | [], _ :: _ => by simp [Lib.compareBytes, Op.bytesLess]
  | _ :: _, [] => by simp [Lib.compareBytes, Op.bytesLess]
  | a :: al, b :: bl => by
    have ih := bl_cbt al bl
    have e1 : Lib.compareBytes (a :: al) (b :: bl) = if a < b then -1 else if b < a then 1 else Lib.compareBytes al bl := rfl
    have e2 : Op.bytesLess (a :: al) (b :: bl) = (decide (a < b) || (a == b && Op.bytesLess al bl)) := rfl
    rw [e1, e2]
    by_cases h : a < b
    · rw [if_pos h, decide_eq_true h]; simp
    · rw [if_neg h, decide_eq_false h, Bool.false_or]
      by_cases h2 : b < a
      · have hne : a ≠ b := by rintro rfl; exact h h2
        rw [if_pos h2, beq_eq_false_iff_ne.2 hne]; simp
      · have he : a = b := by rw [UInt8.lt_iff_toNat_lt] at *; exact UInt8.toNat_inj.1 (by omega)
        rw [if_neg h2, beq_iff_eq.2 he, Bool.true_and, ih]
theorem bl_cb (a b : List UInt8) : Op.bytesLess a b = decide (Lib.compareBytes a b < 0) := by
  rw [Bool.eq_iff_iff, bl_cbt, decide_eq_true_iff]
theorem cmpI_ltd (a b : Int) : decide (cmpI a b < 0) = decide (a < b) := by
  apply decide_eq_decide.2; unfold cmpI; split <;> (try split) <;> omega
/-- Two values, each in a block of its own. -/
structure PS (w : World) (k n : Int) (s : ByteArray) (k' n' : Int) (s' : ByteArray) (wx : World) : Prop where
  a : wx.heap[w.heap.size]? = some (O3 k n s)
  b : wx.heap[w.heap.size + 1]? = some (O3 k' n' s')
  below : Gr w wx
theorem PS.start (w : World) (k n : Int) (s : ByteArray) (k' n' : Int) (s' : ByteArray) : PS w k n s k' n' s' ((w.alloc (O3 k n s)).alloc (O3 k' n' s')) :=
  ⟨by rw [Below.heap_alloc _ _ _ (by simp), hat _ _ _ rfl], hat _ _ _ (by simp), ((Gr.refl _).alloc _).alloc _⟩
theorem PS.next {w wx wy : World} {k n : Int} {s : ByteArray} {k' n' : Int} {s' : ByteArray} (h : PS w k n s k' n' s' wx) (hb : Gr wx wy) : PS w k n s k' n' s' wy := ⟨bkg h.a hb, bkg h.b hb, h.below.trans hb⟩
end Go.Proofs.YtjbdpcnebilmbaaDoor.so