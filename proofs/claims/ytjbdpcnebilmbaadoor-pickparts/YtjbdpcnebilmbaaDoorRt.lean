
/- The document on operators that hold two values against each other. Conditions: as each theorem says. -/
import Derived.Test.YtjbdpcnebilmbaaDoorRw
namespace Go.Proofs.YtjbdpcnebilmbaaDoor.so
open Go.RowKit Go.Sort Go.Shelf
theorem rnum_any (n : Int) (w : World) :
    Calls Tryd.prog 5 #[.int .i64 n] w fun e w' => e = .returned (V 1 n nul) ∧ Below w.heap.size w w' := by
  go_enter Tryd.func5, Tryd.ntmps5
  go_wp2
  exact bodyPost_ret (v := V 1 n nul) (by simp [results, Tryd.results5, go_sem]) rfl ⟨rfl, (Below.refl _ _).alloc (Nat.le_refl _) _⟩
theorem val_kinds {k n : Int} {s : ByteArray} (h : isVal k n s = true) : (k = 0 ∧ s = nul) ∨ (k = 1 ∧ s = nul) ∨ (k = 2 ∧ (s.size : Int) ≤ 200) ∨ (k = 3 ∧ s = nul) ∨ (k = 4 ∧ s = nul) := by
  unfold isVal at h
  by_cases h0 : k = 0
  · rw [if_pos h0, Bool.and_eq_true] at h; exact Or.inl ⟨h0, toList_nil h.2⟩
  rw [if_neg h0] at h
  by_cases h1 : k = 1
  · rw [if_pos h1] at h; exact Or.inr (Or.inl ⟨h1, toList_nil h⟩)
  rw [if_neg h1] at h
  by_cases h2 : k = 2
  · rw [if_pos h2, Bool.and_eq_true, decide_eq_true_eq] at h; exact Or.inr (Or.inr (Or.inl ⟨h2, h.2⟩))
  rw [if_neg h2] at h
  by_cases h3 : k = 3
  · rw [if_pos h3, Bool.and_eq_true] at h; exact Or.inr (Or.inr (Or.inr (Or.inl ⟨h3, toList_nil h.2⟩)))
  rw [if_neg h3] at h
  by_cases h4 : k = 4
  · rw [if_pos h4, Bool.and_eq_true] at h; exact Or.inr (Or.inr (Or.inr (Or.inr ⟨h4, toList_nil h.2⟩)))
  rw [if_neg h4] at h
  cases h
theorem val_zero {n : Int} {s : ByteArray} (h : isVal 0 n s = true) : n = 0 ∧ s = nul := by
  unfold isVal at h
  rw [if_pos rfl, Bool.and_eq_true, beq_iff_eq] at h
  exact ⟨h.1, toList_nil h.2⟩
end Go.Proofs.YtjbdpcnebilmbaaDoor.so