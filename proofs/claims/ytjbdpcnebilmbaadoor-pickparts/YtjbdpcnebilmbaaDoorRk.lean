
/- The document's wants: their faults, and how many a row meets. Conditions: as each theorem says. -/
import Derived.Test.YtjbdpcnebilmbaaDoorSx
import Derived.Test.YtjbdpcnebilmbaaDoorRt
import Derived.Test.YtjbdpcnebilmbaaDoorRb
namespace Go.Proofs.YtjbdpcnebilmbaaDoor.so
open Go.RowKit Go.Sort Go.Shelf
theorem cells3w {w : World} {b : Nat} {a0 a1 a2 : Value} {t : TypeId} (h : w.heap[b]? = some (.cells #[a0, a1, a2] t (0, 0))) : w.cell? ⟨b, 0, none⟩ = some a0 ∧ w.cell? ⟨b, 1, none⟩ = some a1 ∧ w.cell? ⟨b, 2, none⟩ = some a2 := by simp [World.cell?, h]
theorem frz {w : World} {b : Nat} {cs : Array Value} {t : TypeId} (h : w.heap[b]? = some (.cells cs t (0, 0))) (o : Nat) : w.frozen? ⟨b, o, none⟩ = false := by
  unfold World.frozen?
  simp [h]
theorem fin3 {w : World} {b : Nat} {a0 a1 a2 u0 u1 u2 : Value} {t : TypeId} (h : w.heap[b]? = some (.cells #[a0, a1, a2] t (0, 0))) : (((w.setCell ⟨b, 0, none⟩ u0).setCell ⟨b, 1, none⟩ u1).setCell ⟨b, 2, none⟩ u2).heap[b]? = some (.cells #[u0, u1, u2] t (0, 0)) := by
  have h0 : (w.setCell ⟨b, 0, none⟩ u0).heap[b]? = some (.cells #[u0, a1, a2] t (0, 0)) := by rw [blk_set3 h]; rfl
  have h1 : ((w.setCell ⟨b, 0, none⟩ u0).setCell ⟨b, 1, none⟩ u1).heap[b]? = some (.cells #[u0, u1, a2] t (0, 0)) := by rw [blk_set3 h0]; rfl
  rw [blk_set3 h1]; rfl
theorem bw_set3 {w w3 : World} (h : Bw w w3) {u0 u1 u2 : Value} {b : Nat} (hb : w.heap.size ≤ b) : Bw w (((w3.setCell ⟨b, 0, none⟩ u0).setCell ⟨b, 1, none⟩ u1).setCell ⟨b, 2, none⟩ u2) := ((h.setCell hb _).setCell hb _).setCell hb _
/-- A want and a value of a row, opened. -/
abbrev MQ (w : World) (g o i gr u : Nat) (c t : Int) (y x : Vl) (wx : World) : Prop :=
  wx.cell? ⟨g, o + i * 5, none⟩ = some (.int .i64 c) ∧ wx.cell? ⟨g, o + i * 5 + 1, none⟩ = some (.int .i64 t) ∧ wx.cell? ⟨g, o + i * 5 + 2, none⟩ = some (.int .i64 y.k) ∧ wx.cell? ⟨g, o + i * 5 + 2 + 1, none⟩ = some (.int .i64 y.n) ∧ wx.cell? ⟨g, o + i * 5 + 2 + 2, none⟩ = some (.string y.s) ∧
  wx.cell? ⟨gr, u, none⟩ = some (.int .i64 x.k) ∧ wx.cell? ⟨gr, u + 1, none⟩ = some (.int .i64 x.n) ∧ wx.cell? ⟨gr, u + 2, none⟩ = some (.string x.s) ∧ Bw w wx
theorem mq_bw {w : World} {g o i gr u : Nat} {c t : Int} {y x : Vl} {wx : World} (h : MQ w g o i gr u c t y x wx) : Bw w wx := h.2.2.2.2.2.2.2.2
end Go.Proofs.YtjbdpcnebilmbaaDoor.so
