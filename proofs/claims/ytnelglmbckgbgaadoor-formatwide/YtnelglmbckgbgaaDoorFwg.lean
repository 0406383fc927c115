
/- Letters of columns, read back and in order. Conditions: as each theorem says. -/
import Derived.Test.YtnelglmbckgbgaaDoorFwf
namespace Go.Proofs.YtnelglmbckgbgaaDoor.fw
open Go.RowKit Go.Sort
theorem digit_toNat (r : Nat) (h : r < 26) : (UInt8.ofNat (65 + r)).toNat = 65 + r := by
  show (65 + r) % 256 = 65 + r
  omega
theorem numL_letL (n : Nat) : numL (letL n) = n := by
  induction n using Nat.strongRecOn with
  | ind n ih =>
    by_cases h : n = 0
    · subst h; rw [letL_zero]; rfl
    · rw [letL_pos (by omega), numL_snoc, ih _ (by omega), digit_toNat _ (by omega)]; omega
theorem letL_all (n : Nat) : (letL n).all ltr = true := by
  induction n using Nat.strongRecOn with
  | ind n ih =>
    by_cases h : n = 0
    · subst h; rw [letL_zero]; rfl
    · rw [letL_pos (by omega), List.all_append, ih _ (by omega)]
      simp only [List.all_cons, List.all_nil, Bool.and_true, Bool.true_and]
      unfold ltr
      rw [digit_toNat _ (by omega), decide_eq_true (by omega), decide_eq_true (by omega)]
      rfl
/-- How far letters of one length reach. -/
def capL : Nat → Nat
  | 0 => 0
  | k + 1 => 26 * capL k + 26
theorem letL_cap (k n : Nat) (h : n ≤ capL k) : (letL n).length ≤ k := by
  induction k generalizing n with
  | zero => have : n = 0 := by simpa [capL] using h
            subst this; rw [letL_zero]; exact Nat.le_refl _
  | succ k ih =>
    by_cases h0 : n = 0
    · subst h0; rw [letL_zero]; exact Nat.zero_le _
    · rw [letL_pos (by omega), List.length_append]
      have := ih ((n - 1) / 26) (by simp only [capL] at h; omega)
      simpa using this
theorem letL_ne {n : Nat} (h : 0 < n) : (letL n).isEmpty = false := by
  rw [letL_pos h]; simp
theorem gd_letL {n : Nat} (h : 0 < n) (h2 : n ≤ 1000000) : gdL (letL n) = true := by
  unfold gdL
  have := letL_cap 5 n (Nat.le_trans h2 (by decide))
  rw [letL_ne h, letL_all, decide_eq_true this]
  rfl
theorem nm_letL {n : Nat} (h : 0 < n) (h2 : n ≤ 1000000) : nmE (letL n) = 0 ∧ nmN (letL n) = (n : Int) := by
  have e : nmB (letL n) = true := by unfold nmB; rw [gd_letL h h2, numL_letL, decide_eq_true h2]; rfl
  unfold nmE nmN
  rw [e, numL_letL]
  exact ⟨rfl, rfl⟩
theorem letL_inj {a b : Nat} (h : letL a = letL b) : a = b := by
  rw [← numL_letL a, h, numL_letL]
theorem lt_snoc {xs ys : List UInt8} {a b : UInt8} (h : xs.length = ys.length) : xs ++ [a] < ys ++ [b] ↔ xs < ys ∨ xs = ys ∧ a < b := by
  induction xs generalizing ys with
  | nil =>
    cases ys with
    | nil => simp [List.cons_lt_cons_iff]
    | cons y t => simp at h
  | cons x xs ih =>
    cases ys with
    | nil => simp at h
    | cons y ys =>
      have := ih (ys := ys) (by simpa using h)
      clear h
      rw [List.cons_append, List.cons_append, List.cons_lt_cons_iff, List.cons_lt_cons_iff, this]
      constructor
      · rintro (h | ⟨rfl, h | ⟨rfl, h⟩⟩)
        · exact .inl (.inl h)
        · exact .inl (.inr ⟨rfl, h⟩)
        · exact .inr ⟨rfl, h⟩
      · rintro ((h | ⟨rfl, h⟩) | ⟨h, h2⟩)
        · exact .inl h
        · exact .inr ⟨rfl, .inl h⟩
        · injection h with h3 h4
          subst h3 h4
          exact .inr ⟨rfl, .inr ⟨rfl, h2⟩⟩
theorem letL_lt (a b : Nat) (h : (letL a).length = (letL b).length) : letL a < letL b ↔ a < b := by
  induction a using Nat.strongRecOn generalizing b with
  | ind a ih =>
    by_cases ha : a = 0
    · subst ha
      by_cases hb : b = 0
      · subst hb; simp
      · rw [letL_zero, letL_pos (by omega : 0 < b)] at h; simp at h
    · by_cases hb : b = 0
      · subst hb; rw [letL_zero, letL_pos (by omega : 0 < a)] at h; simp at h
      · rw [letL_pos (by omega : 0 < a), letL_pos (by omega : 0 < b)] at h ⊢
        have hl : (letL ((a - 1) / 26)).length = (letL ((b - 1) / 26)).length := by simpa using h
        rw [lt_snoc hl, ih _ (by omega) _ hl, UInt8.lt_iff_toNat_lt, digit_toNat _ (by omega), digit_toNat _ (by omega)]
        constructor
        · rintro (h | ⟨h, h2⟩)
          · omega
          · have := letL_inj h; omega
        · intro h
          by_cases h1 : (a - 1) / 26 < (b - 1) / 26
          · exact .inl h1
          · exact .inr ⟨by rw [show (a - 1) / 26 = (b - 1) / 26 by omega], by omega⟩
theorem letL_mono (a b : Nat) (h : a ≤ b) : (letL a).length ≤ (letL b).length := by
  induction b using Nat.strongRecOn generalizing a with
  | ind b ih =>
    by_cases ha : a = 0
    · subst ha; rw [letL_zero]; exact Nat.zero_le _
    · rw [letL_pos (by omega : 0 < a), letL_pos (by omega : 0 < b), List.length_append, List.length_append]
      have := ih ((b - 1) / 26) (by omega) ((a - 1) / 26) (by omega)
      simpa using this
/-- Letters of a column that is further stand behind. -/
theorem letL_order (a b : Nat) : ((letL a).length < (letL b).length ∨ (letL a).length = (letL b).length ∧ letL a < letL b) ↔ a < b := by
  constructor
  · rintro (h | ⟨h, h2⟩)
    · by_cases hx : a < b
      · exact hx
      · have := letL_mono b a (by omega); omega
    · exact (letL_lt a b h).1 h2
  · intro h
    have := letL_mono a b (by omega)
    by_cases e : (letL a).length = (letL b).length
    · exact .inr ⟨e, (letL_lt a b e).2 h⟩
    · exact .inl (by omega)
theorem letL_28 : letL 28 = [65, 66] := by
  rw [letL_pos (by omega), show (28 - 1) / 26 = 1 from rfl, letL_pos (by omega), show (1 - 1) / 26 = 0 from rfl, letL_zero]
  rfl
/-- What a text that was cut or filled begins with. -/
theorem wideL_head (s : List UInt8) (wide : Nat) : (wideL s wide 0).take (min s.length wide) = s.take (min s.length wide) := by
  unfold wideL
  rw [show lft s.length wide 0 = 0 from rfl]
  rw [List.replicate_zero, List.nil_append, List.take_take, Nat.min_eq_left (Nat.min_le_right _ _), List.take_append_of_le_length (Nat.min_le_left _ _)]
/-- What it ends with. -/
theorem wideL_tail (s : List UInt8) (wide : Nat) (h : s.length ≤ wide) : (wideL s wide 2).drop (wide - s.length) = s := by
  unfold wideL
  rw [show lft s.length wide 2 = wide - s.length from rfl]
  rw [List.take_append_of_le_length (by rw [List.length_append, List.length_replicate]; omega), List.take_of_length_le (by rw [List.length_append, List.length_replicate]; omega)]
  rw [List.drop_append_of_le_length (by rw [List.length_replicate]; omega), List.drop_of_length_le (by rw [List.length_replicate]; omega), List.nil_append]
end Go.Proofs.YtnelglmbckgbgaaDoor.fw
