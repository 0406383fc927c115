/- Plain facts: a text that is a whole number by the reference is one by the program, and the other way round. Nothing is walked here. -/
import Derived.Test.YtgoadofnfaidcaaGreatDoorDig
import Derived.Test.YtgoadofnfaidcaaGreatDoorFit
import Derived.Test.YtgoadofnfaidcaaGreatDoorConv
namespace Go.Proofs.YtgoadofnfaidcaaGreatDoor
open Go.Lib
/-- What stands behind a sign. -/
def behind (l : List UInt8) : List UInt8 := if l.head? = some 45 then l.tail else l
/-- The whole number that a text is by the reference. -/
def wholeL (l : List UInt8) : Option Int :=
  if behind l = [] ∨ ((behind l).head? = some 48 ∧ l ≠ [48]) then none
  else if (behind l).all dig = false then none
  else if fitI (decide (l.head? = some 45)) (dv (behind l)) = true then some (if l.head? = some 45 then -(dv (behind l) : Int) else (dv (behind l) : Int)) else none
theorem fit_iff {neg : Bool} {x : Nat} : fitI neg x = true ↔ x < 9223372036854775808 ∨ (neg = true ∧ x = 9223372036854775808) := by
  unfold fitI
  simp
theorem whole_itoa (v : Int) (h0 : -9223372036854775808 ≤ v) (h1 : v ≤ 9223372036854775807) : wholeL (itoa v) = some v := by
  by_cases c : v < 0
  · obtain ⟨u, rfl⟩ : ∃ u : Nat, v = -(u : Int) := ⟨v.natAbs, by omega⟩
    rw [itoa_neg u (by omega)]
    obtain ⟨d1, d2, d3, d4⟩ := dv_dec u
    have hb : behind (45 :: decDigits u) = decDigits u := by simp [behind]
    unfold wholeL
    rw [hb, if_neg, if_neg, if_pos]
    · simp [d1]
    · rw [fit_iff, d1]
      simp
      omega
    · rw [d2]; simp
    · rintro (e | ⟨e, _⟩)
      · exact d3 e
      · have := d4 e
        rw [this] at d1
        have : u = 0 := by rw [← d1]; rfl
        omega
  · obtain ⟨u, rfl⟩ : ∃ u : Nat, v = (u : Int) := ⟨v.toNat, by omega⟩
    rw [itoa_nonneg u]
    obtain ⟨d1, d2, d3, d4⟩ := dv_dec u
    obtain ⟨q, r, e, q1, q2⟩ := dec_head u
    have hh : (decDigits u).head? ≠ some 45 := by
      rw [e, List.head?_cons]
      intro k
      injection k with k
      rw [k] at q1
      exact absurd q1 (by decide)
    have hb : behind (decDigits u) = decDigits u := by unfold behind; rw [if_neg hh]
    unfold wholeL
    rw [hb, if_neg, if_neg, if_pos]
    · rw [if_neg hh, d1]
    · rw [fit_iff, d1]
      left
      omega
    · rw [d2]; simp
    · rintro (e | ⟨e, e2⟩)
      · exact d3 e
      · exact e2 (d4 e)
theorem whole_some {l : List UInt8} {v : Int} (h : wholeL l = some v) : itoa v = l ∧ -9223372036854775808 ≤ v ∧ v ≤ 9223372036854775807 := by
  unfold wholeL at h
  by_cases b1 : behind l = [] ∨ ((behind l).head? = some 48 ∧ l ≠ [48])
  · rw [if_pos b1] at h; cases h
  rw [if_neg b1] at h
  by_cases b2 : (behind l).all dig = false
  · rw [if_pos b2] at h; cases h
  rw [if_neg b2] at h
  rw [Bool.not_eq_false] at b2
  by_cases b3 : fitI (decide (l.head? = some 45)) (dv (behind l)) = true
  · rw [if_pos b3] at h
    injection h with h
    rw [fit_iff] at b3
    have hne : behind l ≠ [] := fun e => b1 (Or.inl e)
    by_cases hm : l.head? = some 45
    · rw [if_pos hm] at h
      have hl : l = 45 :: behind l := by
        unfold behind
        rw [if_pos hm]
        cases l with
        | nil => cases hm
        | cons a r =>
          rw [List.head?_cons] at hm
          injection hm with hm
          rw [hm]; rfl
      have hcn : canon (behind l) := ⟨b2, hne, fun e => by
        exfalso
        apply b1
        refine Or.inr ⟨e, ?_⟩
        intro q
        rw [q] at hm
        cases hm⟩
      have hn48 : behind l ≠ [48] := by
        intro e
        apply b1
        refine Or.inr ⟨by rw [e]; rfl, ?_⟩
        intro q
        rw [q] at hm
        cases hm
      have hp := dv_pos _ hcn hn48
      subst h
      rw [itoa_neg _ (by omega), dec_dv _ hcn, ← hl]
      refine ⟨rfl, ?_, ?_⟩ <;> omega
    · rw [if_neg hm] at h
      have hbl : behind l = l := by unfold behind; rw [if_neg hm]
      rw [hbl] at h b1 b2 b3 hne
      have hcn : canon l := ⟨b2, hne, fun e => by
        apply Classical.byContradiction
        intro q
        exact b1 (Or.inr ⟨e, q⟩)⟩
      subst h
      rw [itoa_nonneg, dec_dv _ hcn]
      refine ⟨rfl, ?_, ?_⟩
      · omega
      · rcases b3 with q | ⟨q, _⟩
        · omega
        · simp at q; exact absurd q hm
  · rw [if_neg b3] at h; cases h
/-- BOTH SAY THE SAME. -/
theorem whole_num (s : ByteArray) : wholeL s.data.toList = numOf s := by
  cases h : wholeL s.data.toList with
  | some v =>
    obtain ⟨h1, h2, h3⟩ := whole_some h
    have h4 := atoi_itoa v h2 h3
    rw [h1] at h4
    unfold numOf
    rw [h4]
    simp [h1]
  | none =>
    cases h2 : numOf s with
    | none => rfl
    | some v =>
      obtain ⟨h3, h4⟩ := numOf_some h2
      obtain ⟨b1, b2⟩ := atoi_bd h3
      have := whole_itoa v b1 b2
      rw [h4, h] at this
      cases this
end Go.Proofs.YtgoadofnfaidcaaGreatDoor
