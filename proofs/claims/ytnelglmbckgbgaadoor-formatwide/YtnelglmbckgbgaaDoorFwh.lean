
/- The law FormatWides, by what Wide, Column and Number answer. Conditions: as each theorem says. -/
import Derived.Test.YtnelglmbckgbgaaDoorFwg
namespace Go.Proofs.YtnelglmbckgbgaaDoor.fw
open Go.RowKit Go.Sort
theorem errV_zero : errV 0 = .nilIface := rfl
theorem errV_one : errV 1 = .iface 40 (.int .i64 1) := rfl
theorem txt_list (l : List UInt8) : (txt l).toList = l := by
  rw [ByteArray.toList_eq]
  simp [txt]
theorem bless : ∀ x y : List UInt8, Op.bytesLess x y = true ↔ x < y
  | x, [] => by cases x <;> simp [Op.bytesLess]
  | [], _ :: _ => by simp [Op.bytesLess]
  | a :: x, b :: y => by
    rw [Op.bytesLess, List.cons_lt_cons_iff, ← bless x y]
    simp
theorem co_no {c : Int} (h : coB c = false) : coE c = 1 ∧ coT c = ⟨#[]⟩ := by unfold coE coT; rw [h]; exact ⟨rfl, rfl⟩
theorem co_yes {c : Int} (h : coB c = true) : ∃ n : Nat, c = (n : Int) ∧ 0 < n ∧ n ≤ 1000000 ∧ coE c = 0 ∧ coT c = txt (letL n) := by
  have h2 := h
  unfold coB at h2
  simp at h2
  refine ⟨c.toNat, by omega, by omega, by omega, ?_, ?_⟩
  · unfold coE; rw [h]; rfl
  · unfold coT; rw [h]; rfl
end Go.Proofs.YtnelglmbckgbgaaDoor.fw
