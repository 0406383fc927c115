/- What both sides' Two and cat are said of: two values held open, and the lengths of their texts. Nothing is walked here. -/
import Derived.Test.YtgoadofnfaidcaaGreatDoorRCmp
import Derived.Test.YtgoadofnfaidcaaGreatDoorRShow
namespace Go.Proofs.YtgoadofnfaidcaaGreatDoor
open Go.RowKit
theorem sh_len {k n : Int} {s : ByteArray} (hv : isVal k n s = true) (hb : B64 n) : (sh k n s).size ≤ 200 := by
  unfold sh
  have hl := itoa_len n hb.1 hb.2
  have hs : (itoaB n).size ≤ 20 := by
    show (itoaB n).data.size ≤ 20
    rw [← Array.length_toList]; exact hl
  have ht : (truText n).size ≤ 200 := by unfold truText; split <;> decide
  have hd : (badText n).size ≤ 200 := by unfold badText; repeat' split
                                         all_goals decide
  have hn : nul.size ≤ 200 := by decide
  rcases val_kinds hv with ⟨rfl, _⟩ | ⟨rfl, _⟩ | ⟨rfl, q⟩ | ⟨rfl, _⟩ | ⟨rfl, _⟩
  · simp; exact hn
  · simp; omega
  · simp; omega
  · simp; exact ht
  · simp; exact hd
/-- The two values, opened. -/
abbrev MO (w : World) (k n : Int) (s : ByteArray) (k' n' : Int) (s' : ByteArray) (wx : World) : Prop :=
  wx.cell? ⟨w.heap.size, 0, none⟩ = some (.int .i64 k) ∧ wx.cell? ⟨w.heap.size, 1, none⟩ = some (.int .i64 n) ∧ wx.cell? ⟨w.heap.size, 2, none⟩ = some (.string s) ∧ wx.cell? ⟨w.heap.size + 1, 0, none⟩ = some (.int .i64 k') ∧ wx.cell? ⟨w.heap.size + 1, 1, none⟩ = some (.int .i64 n') ∧ wx.cell? ⟨w.heap.size + 1, 2, none⟩ = some (.string s') ∧ MS w k n s k' n' s' wx
theorem MS.opened {w : World} {k n : Int} {s : ByteArray} {k' n' : Int} {s' : ByteArray} {wx : World} (h : MS w k n s k' n' s' wx) : MO w k n s k' n' s' wx := by
  obtain ⟨⟨o0, o1, o2⟩, -⟩ := cells3 h.a
  obtain ⟨⟨a0, a1, a2⟩, -⟩ := cells3 h.b
  exact ⟨o0, o1, o2, a0, a1, a2, h⟩
theorem mo_ms {w : World} {k n : Int} {s : ByteArray} {k' n' : Int} {s' : ByteArray} {wx : World} (h : MO w k n s k' n' s' wx) : MS w k n s k' n' s' wx := h.2.2.2.2.2.2
theorem mo_below {w : World} {k n : Int} {s : ByteArray} {k' n' : Int} {s' : ByteArray} {wx wy : World} (h : MO w k n s k' n' s' wx) (hb : Below wx.heap.size wx wy) : MO w k n s k' n' s' wy := ((mo_ms h).next hb).opened
/-- How two values stand to each other where what is blank takes the other's kind. -/
def cmpB (k n : Int) (s : ByteArray) (k' n' : Int) (s' : ByteArray) : Int := cmpV (bsK k k') (bsN k n) (bsS k s) (bsK k' k) (bsN k' n') (bsS k' s')
end Go.Proofs.YtgoadofnfaidcaaGreatDoor
