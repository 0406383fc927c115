
/- Plain facts on numerals: what is shown of a number is read as it. Nothing is walked here. -/
import Derived.Lib.AtoiAll
import Derived.Lib.ItoaMem
namespace Go.Proofs.YtnelglmbckgbgaaGreatDoor
open Go.Lib
theorem parse_append : ∀ (l : List UInt8) (acc v : Nat) (r : List UInt8), parseUint10 acc l = .ok v → parseUint10 acc (l ++ r) = parseUint10 v r
  | [], acc, v, r, h => by
    simp only [parseUint10] at h
    injection h with h
    subst h; rfl
  | c :: l, acc, v, r, h => by
    simp only [List.cons_append, parseUint10] at h ⊢
    by_cases a : 48 ≤ c.toNat ∧ c.toNat ≤ 57
    · rw [if_pos a] at h ⊢
      by_cases b : 1844674407370955162 ≤ acc
      · rw [if_pos b] at h; cases h
      · rw [if_neg b] at h ⊢
        by_cases d : 18446744073709551616 ≤ acc * 10 + (c.toNat - 48)
        · rw [if_pos d] at h; cases h
        · rw [if_neg d] at h ⊢
          exact parse_append l _ v r h
    · rw [if_neg a] at h; cases h
theorem digit_nat {d : Nat} (h : d < 10) : (UInt8.ofNat (48 + d)).toNat = 48 + d := by
  rw [UInt8.toNat_ofNat']; omega
theorem parse_digit {acc d : Nat} (hd : d < 10) (h : acc * 10 + d < 18446744073709551616) : parseUint10 acc [UInt8.ofNat (48 + d)] = .ok (acc * 10 + d) := by
  simp only [parseUint10]
  rw [digit_nat hd, if_pos (by omega), if_neg (by omega), if_neg (by omega)]
  congr 1
  omega
theorem parse_dec (u : Nat) (h : u < 18446744073709551616) : parseUint10 0 (decDigits u) = .ok u := by
  induction u using Nat.strongRecOn with
  | _ u ih =>
    by_cases c : u < 10
    · rw [decDigits_one c]
      have := parse_digit (acc := 0) c (by omega)
      simpa using this
    · have e : decDigits u = decDigits (u / 10) ++ [UInt8.ofNat (48 + u % 10)] := by
        rw [decDigits, dif_neg c]
      rw [e, parse_append _ 0 (u / 10) _ (ih (u / 10) (by omega) (by omega)), parse_digit (by omega) (by omega)]
      congr 1
      omega
theorem dec_ne (u : Nat) : decDigits u ≠ [] := by
  rw [decDigits]
  split <;> simp
/-- A numeral's first byte is a digit. -/
theorem dec_head (u : Nat) : ∃ c r, decDigits u = c :: r ∧ 48 ≤ c.toNat ∧ c.toNat ≤ 57 := by
  induction u using Nat.strongRecOn with
  | _ u ih =>
    by_cases c : u < 10
    · exact ⟨_, [], decDigits_one c, by rw [digit_nat c]; omega, by rw [digit_nat c]; omega⟩
    · obtain ⟨d, r, e, h⟩ := ih (u / 10) (by omega)
      refine ⟨d, r ++ [UInt8.ofNat (48 + u % 10)], ?_, h⟩
      rw [decDigits, dif_neg c, e]; rfl
theorem mag_dec (u : Nat) (h : u < 18446744073709551616) : parseMag (decDigits u) = .ok u := by
  unfold parseMag
  rw [if_neg (dec_ne u)]
  exact parse_dec u h
/-- WHAT IS SHOWN OF A NUMBER IS READ AS IT. -/
theorem atoi_itoa (n : Int) (h0 : -9223372036854775808 ≤ n) (h1 : n ≤ 9223372036854775807) : atoiAll (itoa n) = .ok n := by
  by_cases c : n < 0
  · obtain ⟨u, rfl⟩ : ∃ u : Nat, n = -(u : Int) := ⟨n.natAbs, by omega⟩
    rw [itoa_neg u (by omega)]
    unfold atoiAll
    simp only [show (45 : UInt8).toNat = 45 from rfl, or_true, if_true]
    rw [mag_dec u (by omega)]
    have hu : ¬ 9223372036854775808 < u := by omega
    simp [hu]
  · obtain ⟨u, rfl⟩ : ∃ u : Nat, n = (u : Int) := ⟨n.toNat, by omega⟩
    rw [itoa_nonneg u]
    obtain ⟨d, r, e, h2, h3⟩ := dec_head u
    have hm := mag_dec u (by omega)
    rw [e] at hm ⊢
    unfold atoiAll
    simp only
    rw [if_neg (by omega), hm]
    simp only
    rw [if_neg (by omega), if_neg (by omega)]
    rw [if_neg (by omega)]
theorem nDigits_le (u : Nat) : ∀ k, 1 ≤ k → u < 10 ^ k → nDigits u ≤ k := by
  induction u using Nat.strongRecOn with
  | _ u ih =>
    intro k hk h
    rw [nDigits]
    split
    · omega
    · rename_i c
      match k, hk with
      | 1, _ => omega
      | k + 2, _ =>
        have := ih (u / 10) (by omega) (k + 1) (by omega) (by rw [Nat.pow_succ] at h; omega)
        omega
theorem itoa_len (n : Int) (h0 : -9223372036854775808 ≤ n) (h1 : n ≤ 9223372036854775807) : (itoa n).length ≤ 20 := by
  by_cases c : n < 0
  · obtain ⟨u, rfl⟩ : ∃ u : Nat, n = -(u : Int) := ⟨n.natAbs, by omega⟩
    rw [itoa_neg u (by omega), List.length_cons, decDigits_length]
    have := nDigits_le u 19 (by omega) (by omega)
    omega
  · obtain ⟨u, rfl⟩ : ∃ u : Nat, n = (u : Int) := ⟨n.toNat, by omega⟩
    rw [itoa_nonneg u, decDigits_length]
    have := nDigits_le u 19 (by omega) (by omega)
    omega
theorem itoa_ne (n : Int) : itoa n ≠ [] := by
  unfold itoa
  split
  · simp
  · exact dec_ne _
end Go.Proofs.YtnelglmbckgbgaaGreatDoor
