
/- Plain facts on digits: what a row of digits comes to, and that a numeral without a needless nought is the number's own. Nothing is walked here. -/
import Derived.Test.YtnelglmbckgbgaaGreatDoorNum
import Derived.Test.YtnelglmbckgbgaaGreatDoorInt
namespace Go.Proofs.YtnelglmbckgbgaaGreatDoor
open Go.Lib
/-- Is a byte a digit? -/
def dig (c : UInt8) : Bool := decide (48 ≤ c.toNat) && decide (c.toNat ≤ 57)
/-- What digits come to. -/
def dv (l : List UInt8) : Nat := l.foldl (fun a c => a * 10 + (c.toNat - 48)) 0
theorem dv_snoc (l : List UInt8) (c : UInt8) : dv (l ++ [c]) = dv l * 10 + (c.toNat - 48) := by simp [dv]
theorem dv_nil : dv [] = 0 := rfl
theorem rev_ind {P : List UInt8 → Prop} (h0 : P []) (h1 : ∀ l c, P l → P (l ++ [c])) (l : List UInt8) : P l := by
  have : ∀ r : List UInt8, P r.reverse := by
    intro r
    induction r with
    | nil => exact h0
    | cons c r ih => rw [List.reverse_cons]; exact h1 _ _ ih
  have h := this l.reverse
  rwa [List.reverse_reverse] at h
theorem dv_lt (l : List UInt8) : l.all dig = true → dv l < 10 ^ l.length := by
  refine rev_ind (P := fun l => l.all dig = true → dv l < 10 ^ l.length) ?_ ?_ l
  · intro _; decide
  · intro l c ih h
    rw [List.all_append, Bool.and_eq_true] at h
    have h1 := ih h.1
    have h2 : 48 ≤ c.toNat ∧ c.toNat ≤ 57 := by
      have := h.2
      simp [dig] at this
      exact this
    rw [dv_snoc, List.length_append, List.length_singleton, Nat.pow_succ]
    omega
theorem small_of {x i : Nat} (hx : x < 10 ^ i) (hi : i ≤ 140737488355329) : Small x := by
  intro n f hN hv
  match n, hN, hv with
  | 0, _, _ => omega
  | n + 1, hN, hv =>
    have h1 : W32 ^ n ≤ valN (n + 1) f := valN_ge (hN n rfl)
    have h2 : (10 ^ 9) ^ n ≤ W32 ^ n := Nat.pow_le_pow_left (by decide) n
    rw [← Nat.pow_mul] at h2
    have h3 : 10 ^ (9 * n) < 10 ^ i := by omega
    have h4 := (Nat.pow_lt_pow_iff_right (by decide : 1 < 10)).1 h3
    omega
/-- A numeral without a needless nought. -/
def canon (l : List UInt8) : Prop := l.all dig = true ∧ l ≠ [] ∧ (l.head? = some 48 → l = [48])
theorem dv_pos (l : List UInt8) : canon l → l ≠ [48] → 0 < dv l := by
  refine rev_ind (P := fun l => canon l → l ≠ [48] → 0 < dv l) ?_ ?_ l
  · rintro ⟨_, h, _⟩; exact absurd rfl h
  · intro l c ih ⟨h1, h2, h3⟩ h4
    rw [List.all_append, Bool.and_eq_true] at h1
    have hc : 48 ≤ c.toNat ∧ c.toNat ≤ 57 := by
      have := h1.2
      simp [dig] at this
      exact this
    rw [dv_snoc]
    by_cases hl : l = []
    · subst hl
      have : c ≠ 48 := by
        rintro rfl
        exact h4 rfl
      have hne : c.toNat ≠ 48 := by
        intro e
        apply this
        exact UInt8.toNat_inj.1 (by rw [e]; rfl)
      simp [dv]
      omega
    · have hh : l.head? ≠ some 48 := by
        intro e
        have := h3 (by rw [List.head?_append, e]; rfl)
        have hlen := congrArg List.length this
        simp at hlen
        exact hl hlen
      have := ih ⟨h1.1, hl, fun e => absurd e hh⟩ (by intro e; rw [e] at hh; exact hh rfl)
      omega
theorem dec_dv (l : List UInt8) : canon l → decDigits (dv l) = l := by
  refine rev_ind (P := fun l => canon l → decDigits (dv l) = l) ?_ ?_ l
  · rintro ⟨_, h, _⟩; exact absurd rfl h
  · intro l c ih ⟨h1, h2, h3⟩
    rw [List.all_append, Bool.and_eq_true] at h1
    have hc : 48 ≤ c.toNat ∧ c.toNat ≤ 57 := by
      have := h1.2
      simp [dig] at this
      exact this
    have hb : UInt8.ofNat (48 + (c.toNat - 48)) = c := by
      rw [show 48 + (c.toNat - 48) = c.toNat from by omega]
      exact UInt8.ofNat_toNat
    rw [dv_snoc]
    by_cases hl : l = []
    · subst hl
      rw [dv_nil, Nat.zero_mul, Nat.zero_add, decDigits_one (by omega), hb]
      rfl
    · have hh : l.head? ≠ some 48 := by
        intro e
        have := h3 (by rw [List.head?_append, e]; rfl)
        have hlen := congrArg List.length this
        simp at hlen
        exact hl hlen
      have hcn : canon l := ⟨h1.1, hl, fun e => absurd e hh⟩
      have hp := dv_pos l hcn (by intro e; rw [e] at hh; exact hh rfl)
      rw [decDigits, dif_neg (by omega), show (dv l * 10 + (c.toNat - 48)) / 10 = dv l from by omega, show (dv l * 10 + (c.toNat - 48)) % 10 = c.toNat - 48 from by omega, ih hcn, hb]
/-- A number's digits come to it, and bear no needless nought. -/
theorem dv_dec (u : Nat) : dv (decDigits u) = u ∧ canon (decDigits u) := by
  induction u using Nat.strongRecOn with
  | _ u ih =>
    by_cases c : u < 10
    · rw [decDigits_one c]
      refine ⟨by simp [dv]; omega, ?_, by simp, ?_⟩
      · simp [dig]; omega
      · intro e
        rw [List.head?_cons] at e
        injection e with e
        rw [e]
    · obtain ⟨h1, h2, h3, h4⟩ := ih (u / 10) (by omega)
      have e : decDigits u = decDigits (u / 10) ++ [UInt8.ofNat (48 + u % 10)] := by rw [decDigits, dif_neg c]
      have hd : u % 10 < 10 := by omega
      rw [e]
      refine ⟨by rw [dv_snoc, h1, digit_nat hd]; omega, ?_, by simp, ?_⟩
      · rw [List.all_append, h2]; simp [dig]; omega
      · intro q
        rw [List.head?_append] at q
        have : (decDigits (u / 10)).head? = some 48 := by
          cases hh : (decDigits (u / 10)).head? with
          | none => rw [List.head?_eq_none_iff] at hh; exact absurd hh h3
          | some a => rw [hh] at q; exact q
        have h5 := h4 this
        rw [h5] at h1
        have : u / 10 = 0 := by rw [← h1]; rfl
        omega
end Go.Proofs.YtnelglmbckgbgaaGreatDoor
