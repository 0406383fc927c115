/- Plain facts on integers of 64 bits. Nothing of the program stands here. -/
import Derived.RowKit
import Derived.IntWalk
namespace Go.Proofs.YtgoadofnfaidcaaGreatDoor.ring
open Go.RowKit
/-- A number has 64 bits. -/
def fitsB (n : Int) : Bool := decide (-9223372036854775808 ≤ n ∧ n ≤ 9223372036854775807)
/-- The kind of a number that may be too great: a number, or bad. -/
def oK (n : Int) : Int := if fitsB n = true then 1 else 4
/-- Its content: the number, or which bad one. -/
def oN (n : Int) : Int := if fitsB n = true then n else 5
theorem fits_iff {n : Int} : fitsB n = true ↔ -9223372036854775808 ≤ n ∧ n ≤ 9223372036854775807 := by unfold fitsB; simp
theorem oK_yes {n : Int} (h : fitsB n = true) : oK n = 1 := by unfold oK; rw [if_pos h]
theorem oN_yes {n : Int} (h : fitsB n = true) : oN n = n := by unfold oN; rw [if_pos h]
theorem oK_no {n : Int} (h : ¬ fitsB n = true) : oK n = 4 := by unfold oK; rw [if_neg h]
theorem oN_no {n : Int} (h : ¬ fitsB n = true) : oN n = 5 := by unfold oN; rw [if_neg h]
theorem fits_of_oK {n : Int} (h : oK n = 1) : fitsB n = true := by
  unfold oK at h; split at h
  · assumption
  · omega
/-- What a sum that does not fit wraps to. -/
theorem wrap_high {n : Int} (h : 9223372036854775807 < n) (h2 : n ≤ 27670116110564327423) : wrap64 n = n - 18446744073709551616 := by unfold wrap64; omega
theorem wrap_low {n : Int} (h : n < -9223372036854775808) (h2 : -27670116110564327424 ≤ n) : wrap64 n = n + 18446744073709551616 := by unfold wrap64; omega
theorem wrap_in {n : Int} (h : -9223372036854775808 ≤ n ∧ n ≤ 9223372036854775807) : wrap64 n = n := by unfold wrap64; omega
theorem wrap_bd (n : Int) : -9223372036854775808 ≤ wrap64 n ∧ wrap64 n ≤ 9223372036854775807 := by unfold wrap64; omega
theorem wrap_off (n : Int) : ∃ k : Int, wrap64 n = n - k * 18446744073709551616 := ⟨(n + 9223372036854775808) / 18446744073709551616, by unfold wrap64; omega⟩
/-- A sum that does not fit lies on the wrong side. -/
theorem add_wrong {x y : Int} (hx : fitsB x = true) (hy : fitsB y = true) (h : ¬ fitsB (x + y) = true) : (y < 0 ∧ ¬ wrap64 (x + y) < x) ∨ (¬ y < 0 ∧ wrap64 (x + y) < x) := by
  rw [fits_iff] at *
  by_cases g : 9223372036854775807 < x + y
  · right; rw [wrap_high g (by omega)]; omega
  · left; rw [wrap_low (by omega) (by omega)]; omega
theorem sub_wrong {x y : Int} (hx : fitsB x = true) (hy : fitsB y = true) (h : ¬ fitsB (x - y) = true) : (y < 0 ∧ ¬ x < wrap64 (x - y)) ∨ (¬ y < 0 ∧ x < wrap64 (x - y)) := by
  rw [fits_iff] at *
  by_cases g : 9223372036854775807 < x - y
  · left; rw [wrap_high g (by omega)]; omega
  · right; rw [wrap_low (by omega) (by omega)]; omega
/-- Quotients. -/
theorem tdiv_abs_le (a b : Int) : (a.tdiv b).natAbs ≤ a.natAbs := by
  rw [Int.natAbs_tdiv]; exact Nat.div_le_self _ _
theorem fits_tdiv {x y : Int} (hx : fitsB x = true) (h : ¬ (x = -9223372036854775808 ∧ y = -1)) : fitsB (x.tdiv y) = true := by
  rw [fits_iff] at *
  have h1 := tdiv_abs_le x y
  by_cases hm : x = -9223372036854775808
  · have hy : y ≠ -1 := fun e => h ⟨hm, e⟩
    by_cases h0 : y = 0
    · subst h0; simp
    by_cases hp : 0 < y
    · have : x.tdiv y ≤ 0 := by
        have := Int.tdiv_nonneg (a := -x) (b := y) (by omega) (by omega)
        rw [Int.neg_tdiv] at this; omega
      omega
    · have hn : (x.tdiv y).natAbs ≤ x.natAbs / 2 := by
        rw [Int.natAbs_tdiv]; exact Nat.div_le_div_left (by omega) (by omega)
      omega
  · omega
theorem tdiv_unfit {x y : Int} (h : x = -9223372036854775808 ∧ y = -1) : ¬ fitsB (x.tdiv y) = true := by
  obtain ⟨rfl, rfl⟩ := h; decide
theorem mul_fit {x y : Int} (h0 : x ≠ 0) : (x * y).tdiv x = y := Int.mul_tdiv_cancel_left _ h0
/-- A product that does not fit is given away by the quotient, but at -1 times the least. -/
theorem mul_wrong {x y : Int} (hx : fitsB x = true) (hy : fitsB y = true) (h0 : x ≠ 0) (h : ¬ fitsB (x * y) = true) (hm : ¬ (x = -1 ∧ y = -9223372036854775808)) : wrap64 ((wrap64 (x * y)).tdiv x) ≠ y := by
  intro e
  obtain ⟨k, hk⟩ := wrap_off (x * y)
  have hb := wrap_bd (x * y)
  have hw : fitsB (wrap64 (x * y)) = true := fits_iff.2 hb
  have hq : wrap64 ((wrap64 (x * y)).tdiv x) = (wrap64 (x * y)).tdiv x ∨ (wrap64 (x * y) = -9223372036854775808 ∧ x = -1) := by
    by_cases c : wrap64 (x * y) = -9223372036854775808 ∧ x = -1
    · exact Or.inr c
    · left; have := fits_iff.1 (fits_tdiv hw c); exact wrap_in this
  rcases hq with hq | ⟨c1, c2⟩
  · rw [hq] at e
    have hr := Int.mul_tdiv_add_tmod (wrap64 (x * y)) x
    rw [e] at hr
    have hl : ((wrap64 (x * y)).tmod x).natAbs < x.natAbs := by
      rw [Int.natAbs_tmod]; exact Nat.mod_lt _ (by omega)
    rw [fits_iff] at hx
    have hk0 : k = 0 := by omega
    subst hk0
    apply h
    have : x * y = wrap64 (x * y) := by omega
    rw [this]; exact hw
  · subst c2
    rw [fits_iff] at hy h
    apply hm
    refine ⟨rfl, ?_⟩
    omega
theorem wrap_least : wrap64 (-wrap64 9223372036854775808) = -9223372036854775808 := by decide +kernel
theorem fmod_neg_bd (x : Int) {y : Int} (h : y < 0) : x.fmod y ≤ 0 ∧ y < x.fmod y := by
  have a := Int.fmod_nonneg_of_pos (-x) (b := -y) (by omega)
  have b := Int.fmod_lt_of_pos (-x) (b := -y) (by omega)
  rw [Int.neg_fmod_neg] at a b
  omega
/-- The rest of y's sign. -/
theorem fmod_of_tmod {x y : Int} (h0 : y ≠ 0) : x.fmod y = if x.tmod y ≠ 0 ∧ ¬ (x.tmod y < 0 ↔ y < 0) then x.tmod y + y else x.tmod y := by
  have h1 := Int.mul_tdiv_add_tmod x y
  have h2 := Int.mul_fdiv_add_fmod x y
  have hl : (x.tmod y).natAbs < y.natAbs := by rw [Int.natAbs_tmod]; exact Nat.mod_lt _ (by omega)
  have key : ∀ r s q t : Int, y * q + r = y * t + s → r.natAbs < y.natAbs → s.natAbs < y.natAbs → (r = 0 ∨ (r < 0 ↔ y < 0)) → (s = 0 ∨ (s < 0 ↔ y < 0)) → r = s := by
    intro r s q t e hr hs h3 h4
    have e2 : y * (q - t) = s - r := by rw [Int.mul_sub]; omega
    have : (y * (q - t)).natAbs < y.natAbs := by rw [e2]; omega
    rw [Int.natAbs_mul] at this
    have hz : (q - t).natAbs = 0 := by
      rcases Nat.eq_zero_or_pos (q - t).natAbs with g | g
      · exact g
      · have := Nat.le_mul_of_pos_right y.natAbs g; omega
    have hqt : q - t = 0 := by omega
    rw [hqt] at e2; omega
  have hf : (x.fmod y).natAbs < y.natAbs ∧ (x.fmod y = 0 ∨ (x.fmod y < 0 ↔ y < 0)) := by
    rcases Int.lt_or_gt_of_ne h0 with g | g
    · have a := fmod_neg_bd x g
      omega
    · have a := Int.fmod_nonneg_of_pos x g
      have b := Int.fmod_lt_of_pos x g
      omega
  split
  · rename_i c
    refine key _ _ (x.fdiv y) (x.tdiv y - 1) ?_ hf.1 (by omega) hf.2 (by omega)
    rw [Int.mul_sub]; omega
  · rename_i c
    exact key _ _ (x.fdiv y) (x.tdiv y) (by omega) hf.1 hl hf.2 (by omega)
theorem fits_fmod {x y : Int} (hy : fitsB y = true) (h0 : y ≠ 0) : fitsB (x.fmod y) = true := by
  rw [fits_iff] at *
  rcases Int.lt_or_gt_of_ne h0 with g | g
  · have a := fmod_neg_bd x g
    omega
  · have a := Int.fmod_nonneg_of_pos x g
    have b := Int.fmod_lt_of_pos x g
    omega
theorem fmod_sign {x y : Int} (h0 : y ≠ 0) : x.fmod y = 0 ∨ (x.fmod y < 0 ↔ y < 0) := by
  rcases Int.lt_or_gt_of_ne h0 with g | g
  · have a := fmod_neg_bd x g
    omega
  · have a := Int.fmod_nonneg_of_pos x g
    omega
/-- What is left taken away, the quotient times the divisor is the number. -/
theorem back_mul {x y : Int} : (x - x.fmod y).tdiv y * y = x - x.fmod y := by
  have h2 := Int.mul_fdiv_add_fmod x y
  have : x - x.fmod y = y * x.fdiv y := by omega
  rw [this]
  by_cases h0 : y = 0
  · subst h0; simp
  · rw [Int.mul_tdiv_cancel_left _ h0, Int.mul_comm]
end Go.Proofs.YtgoadofnfaidcaaGreatDoor.ring
