/- Plain facts on signs. Nothing is walked here. -/
import Derived.Test.YtgoadofnfaidcaaGreatDoorSum
namespace Go.Proofs.YtgoadofnfaidcaaGreatDoor
open Go.RowKit
theorem sv_pos (n : Nat) : sv false n = (n : Int) := rfl
theorem sv_neg (n : Nat) : sv true n = -(n : Int) := rfl
theorem sv_nat (neg : Bool) (n : Nat) (h : n = 0 ∨ neg = false) : sv neg n = (n : Int) := by
  rcases h with rfl | rfl
  · cases neg <;> rfl
  · rfl
theorem sign_cases (x : Int) : (decide (x < 0) = false ∧ ∃ n : Nat, x = (n : Int)) ∨ (decide (x < 0) = true ∧ ∃ n : Nat, 0 < n ∧ x = -(n : Int)) := by
  by_cases h : x < 0
  · exact Or.inr ⟨decide_eq_true h, x.natAbs, by omega, by omega⟩
  · exact Or.inl ⟨decide_eq_false h, x.natAbs, by omega⟩
theorem nr (a b : Nat) : (a : Int).tmod (b : Int) = (a : Int) % (b : Int) := rfl
theorem sv_mul (x y : Int) : sv (decide (x < 0) != decide (y < 0)) (x.natAbs * y.natAbs) = x * y := by
  rcases sign_cases x with ⟨hx, a, rfl⟩ | ⟨hx, a, _, rfl⟩ <;> rcases sign_cases y with ⟨hy, b, rfl⟩ | ⟨hy, b, _, rfl⟩ <;> rw [hx, hy]
  · simp [sv]
  · simp [sv, Int.mul_neg]
  · simp [sv, Int.neg_mul]
  · simp [sv, Int.neg_mul_neg]
theorem sv_quo (x y : Int) : sv (decide (x < 0) != decide (y < 0)) (x.natAbs / y.natAbs) = x.tdiv y := by
  rcases sign_cases x with ⟨hx, a, rfl⟩ | ⟨hx, a, _, rfl⟩ <;> rcases sign_cases y with ⟨hy, b, rfl⟩ | ⟨hy, b, _, rfl⟩ <;> rw [hx, hy]
  · simp [sv]
  · simp [sv, Int.tdiv_neg]
  · simp [sv, Int.neg_tdiv]
  · simp [sv, Int.neg_tdiv, Int.tdiv_neg]
theorem sv_rem (x y : Int) : sv (decide (x < 0)) (x.natAbs % y.natAbs) = x.tmod y := by
  rcases sign_cases x with ⟨hx, a, rfl⟩ | ⟨hx, a, _, rfl⟩ <;> rcases sign_cases y with ⟨hy, b, rfl⟩ | ⟨hy, b, _, rfl⟩ <;> rw [hx]
  · simp [sv, nr]
  · simp [sv, nr, Int.tmod_neg]
  · simp [sv, nr, Int.neg_tmod]
  · simp [sv, nr, Int.neg_tmod, Int.tmod_neg]
end Go.Proofs.YtgoadofnfaidcaaGreatDoor
