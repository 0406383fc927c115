
/- Whether a whole number has 64 bits, and which number of 64 bits it is. Conditions: as each theorem says. -/
import Derived.Test.YtnelglmbckgbgaaGreatDoorInt
import Derived.LoopN
import Derived.Laws.BitsAllLaws
import Derived.WalkSmall
namespace Go.Proofs.YtnelglmbckgbgaaGreatDoor
open Go.RowKit
/-- How many bits a word has. -/
def blen : Nat → Nat → Nat
  | 0, _ => 0
  | k + 1, t => if t = 0 then 0 else blen k (t / 2) + 1
theorem blen_lt : ∀ (k t : Nat), t < 2 ^ k → t < 2 ^ blen k t ∧ (t ≠ 0 → 2 ^ (blen k t - 1) ≤ t) ∧ blen k t ≤ k
  | 0, t, h => by
    have : t = 0 := by simpa using h
    subst this
    simp [blen]
  | k + 1, t, h => by
    by_cases hz : t = 0
    · subst hz; simp [blen]
    · obtain ⟨h1, h2, h3⟩ := blen_lt k (t / 2) (by rw [Nat.pow_succ] at h; omega)
      have e : blen (k + 1) t = blen k (t / 2) + 1 := if_neg hz
      rw [e]
      refine ⟨by rw [Nat.pow_succ]; omega, fun _ => ?_, by omega⟩
      rw [Nat.add_sub_cancel]
      by_cases hh : t / 2 = 0
      · rw [hh]
        have : blen k 0 = 0 := by cases k <;> simp [blen]
        rw [this]; simp; omega
      · have h4 := h2 hh
        have h5 : 0 < blen k (t / 2) := by
          cases k with
          | zero => unfold blen at h1; omega
          | succ k => simp [blen, hh]
        have e2 : 2 ^ blen k (t / 2) = 2 * 2 ^ (blen k (t / 2) - 1) := by
          rw [← Nat.pow_succ']; congr 1; omega
        omega
/-- The bits of n words. -/
def bits (n : Nat) (f : Nat → Nat) : Nat := match n with
  | 0 => 0
  | n + 1 => n * 32 + blen 32 (f n)
theorem bit_form (x j : Nat) (hx : x < 4294967296) : Go.bits BinOp.and IntKind.u64 (IntKind.u64.wrap ((x : Int) / 2 ^ j)) 1 = ((x / 2 ^ j % 2 : Nat) : Int) := by
  have e : ((x : Int) / 2 ^ j) = ((x / 2 ^ j : Nat) : Int) := by simp
  have hle : x / 2 ^ j ≤ x := Nat.div_le_self _ _
  rw [e]
  generalize x / 2 ^ j = q at hle ⊢
  rw [IntKind.wrap_u64, Int.emod_eq_of_lt (by omega) (by omega), and_one_u64 _ (by omega) (by omega)]
  omega
/-- A number of two words, bit by bit. -/
theorem bit_val {x i : Nat} {f : Nat → Nat} (hx : x = f 0 + f 1 * 4294967296) (h0 : f 0 < 4294967296) (hi : i < 64) : f (i / 32) / 2 ^ (i % 32) % 2 = x / 2 ^ i % 2 := by
  by_cases c : i < 32
  · have e1 : i / 32 = 0 := by omega
    have e2 : i % 32 = i := by omega
    rw [e1, e2, hx]
    obtain ⟨d, hd⟩ : ∃ d, 32 = i + (d + 1) := ⟨31 - i, by omega⟩
    have e3 : 4294967296 = 2 ^ i * (2 ^ d * 2) := by
      have : (4294967296 : Nat) = 2 ^ 32 := by decide
      rw [this, hd, Nat.pow_add, Nat.pow_succ]
    have e4 : f 1 * 4294967296 = 2 ^ i * (f 1 * 2 ^ d * 2) := by
      rw [e3, Nat.mul_left_comm, ← Nat.mul_assoc (f 1)]
    rw [e4, Nat.add_mul_div_left _ _ (Nat.pow_pos (by decide))]
    omega
  · have e1 : i / 32 = 1 := by omega
    rw [e1, hx]
    have e2 : 2 ^ i = 4294967296 * 2 ^ (i % 32) := by
      have : (4294967296 : Nat) = 2 ^ 32 := by decide
      rw [this, ← Nat.pow_add]; congr 1; omega
    rw [e2, ← Nat.div_div_eq_div_mul]
    have e3 : (f 0 + f 1 * 4294967296) / 4294967296 = f 1 := by omega
    rw [e3]
theorem or_form (a b : Nat) (ha : a < 4294967296) : a ||| b * 4294967296 = a + b * 4294967296 := by
  have := Nat.shiftLeft_add_eq_or_of_lt (i := 32) (b := a) (by simpa using ha) b
  rw [Nat.shiftLeft_eq] at this
  have e : (2 : Nat) ^ 32 = 4294967296 := by decide
  rw [e] at this
  rw [Nat.or_comm, ← this]
  omega
theorem wrap_min : wrap64 9223372036854775808 = -9223372036854775808 := by decide +kernel
theorem W32_two (m : Nat) : W32 ^ m = 2 ^ (32 * m) := by
  have : W32 = 2 ^ 32 := by decide
  rw [this, ← Nat.pow_mul]
theorem bits_val {n x : Nat} {f : Nat → Nat} (hd : ∀ i, i < n + 1 → f i < W32) (hN : Norm (n + 1) f) (hx : valN (n + 1) f = x) : x < 2 ^ bits (n + 1) f ∧ 2 ^ (bits (n + 1) f - 1) ≤ x := by
  have h1 := valN_lt n f (fun i hi => hd i (by omega))
  obtain ⟨b1, b2, b3⟩ := blen_lt 32 (f n) (hd n (by omega))
  have b4 := b2 (hN n rfl)
  have hb : 0 < blen 32 (f n) := by
    rcases Nat.eq_zero_or_pos (blen 32 (f n)) with q | q
    · rw [q] at b1
      have := hN n rfl
      simp at b1
      exact absurd b1 this
    · exact q
  simp only [valN] at hx
  have e1 : bits (n + 1) f = 32 * n + blen 32 (f n) := by show n * 32 + _ = _; omega
  rw [e1]
  constructor
  · rw [Nat.pow_add, ← W32_two]
    have : f n * W32 ^ n + W32 ^ n ≤ W32 ^ n * 2 ^ blen 32 (f n) := by
      rw [← Nat.succ_mul, Nat.mul_comm]
      exact Nat.mul_le_mul_left _ b1
    omega
  · have e2 : 32 * n + blen 32 (f n) - 1 = 32 * n + (blen 32 (f n) - 1) := by omega
    rw [e2, Nat.pow_add, ← W32_two]
    have : W32 ^ n * 2 ^ (blen 32 (f n) - 1) ≤ f n * W32 ^ n := by
      rw [Nat.mul_comm (f n)]
      exact Nat.mul_le_mul_left _ b4
    omega
/-- Whether a number has 64 bits. -/
def fitI (neg : Bool) (x : Nat) : Bool := decide (x < 9223372036854775808) || (neg && decide (x = 9223372036854775808))
end Go.Proofs.YtnelglmbckgbgaaGreatDoor
