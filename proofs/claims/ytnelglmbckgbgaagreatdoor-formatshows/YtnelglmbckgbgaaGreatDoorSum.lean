
/- Whole numbers with their signs: which of two is greater, and the sum of two. Conditions: as each theorem says. -/
import Derived.Test.YtnelglmbckgbgaaGreatDoorSub
import Derived.Test.YtnelglmbckgbgaaGreatDoorIntAdd
namespace Go.Proofs.YtnelglmbckgbgaaGreatDoor
open Go.RowKit
theorem val_top {f g : Nat → Nat} {k : Nat} : ∀ n, k ≤ n → (∀ i, k ≤ i → i < n → f i = g i) → valN n f + valN k g = valN n g + valN k f
  | 0, h, _ => by
    obtain rfl : k = 0 := by omega
    rfl
  | n + 1, h, he => by
    by_cases q : k = n + 1
    · subst q; omega
    · have := val_top n (by omega) (fun i h1 h2 => he i h1 (by omega))
      show valN n f + f n * W32 ^ n + valN k g = valN n g + g n * W32 ^ n + valN k f
      rw [he n (by omega) (by omega)]
      omega
theorem val_less {f g : Nat → Nat} {n j : Nat} (hj : j < n) (he : ∀ i, j + 1 ≤ i → i < n → f i = g i) (hl : f j < g j) (hw : ∀ i, i < n → f i < W32) : valN n f < valN n g := by
  have h1 := val_top (k := j + 1) n hj he
  have h2 := valN_lt j f (fun i hi => hw i (by omega))
  have h3 : valN (j + 1) f = valN j f + f j * W32 ^ j := rfl
  have h4 : valN (j + 1) g = valN j g + g j * W32 ^ j := rfl
  have h5 : (f j + 1) * W32 ^ j ≤ g j * W32 ^ j := Nat.mul_le_mul_right _ hl
  rw [Nat.add_mul, Nat.one_mul] at h5
  omega
theorem val_short {f g : Nat → Nat} {n m : Nat} (h : n < m) (hf : ∀ i, i < n → f i < W32) (hg : Norm m g) : valN n f < valN m g := by
  obtain ⟨k, rfl⟩ : ∃ k, m = k + 1 := ⟨m - 1, by omega⟩
  have h1 := valN_lt n f hf
  have h2 := valN_ge (hg k rfl)
  have h3 : W32 ^ n ≤ W32 ^ k := Nat.pow_le_pow_right (by decide) (by omega)
  omega
theorem cmpI_lt {x y : Nat} (h : x < y) : cmpI x y = -1 := by unfold cmpI; rw [if_pos (by omega)]
theorem cmpI_gt {x y : Nat} (h : y < x) : cmpI x y = 1 := by unfold cmpI; rw [if_neg (by omega), if_pos (by omega)]
theorem cmpI_eq {x y : Nat} (h : x = y) : cmpI x y = 0 := by unfold cmpI; rw [if_neg (by omega), if_neg (by omega)]
theorem bdrewN {B : Nat} {a w : World} (h : Below B a w) (n : Nat) : Below B a (w.drewN n) := ⟨h.os, h.tape, h.output, h.size, h.block⟩
/-- A number with its sign. -/
def sv (neg : Bool) (x : Nat) : Int := if neg = true then -(x : Int) else (x : Int)
theorem le_of_norm {f g : Nat → Nat} {n m : Nat} (hf : ∀ i, i < n → f i < W32) (hg : Norm m g) (h : valN m g ≤ valN n f) : m ≤ n := by
  by_cases q : m ≤ n
  · exact q
  · exact absurd (val_short (by omega) hf hg) (by omega)
end Go.Proofs.YtnelglmbckgbgaaGreatDoor
