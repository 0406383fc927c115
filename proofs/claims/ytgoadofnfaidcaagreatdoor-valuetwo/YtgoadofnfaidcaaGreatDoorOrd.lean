/- Plain facts on how values stand in a row. Nothing is walked here. -/
import Derived.Test.YtgoadofnfaidcaaGreatDoorHold
namespace Go.Proofs.YtgoadofnfaidcaaGreatDoor
open Go.RowKit
theorem cmpI_neg (a b : Int) : cmpI a b = -cmpI b a := by unfold cmpI; split <;> split <;> omega
theorem cmpI_zero {a b : Int} : cmpI a b = 0 ↔ a = b := by unfold cmpI; split <;> (try split) <;> omega
theorem cmpI_bd (a b : Int) : -1 ≤ cmpI a b ∧ cmpI a b ≤ 1 := by unfold cmpI; split <;> (try split) <;> omega
theorem cmpI_le {a b : Int} : cmpI a b ≤ 0 ↔ a ≤ b := by unfold cmpI; split <;> (try split) <;> omega
theorem cb_neg : ∀ a b : List UInt8, Lib.compareBytes a b = -Lib.compareBytes b a
  | [], [] => by simp [Lib.compareBytes]
  | [], _ :: _ => by simp [Lib.compareBytes]
  | _ :: _, [] => by simp [Lib.compareBytes]
  | a :: al, b :: bl => by
    have ih := cb_neg al bl
    simp only [Lib.compareBytes]
    by_cases h : a < b
    · have h2 : ¬ b < a := by rw [UInt8.lt_iff_toNat_lt] at *; omega
      rw [if_pos h, if_neg h2, if_pos h]
    · by_cases h2 : b < a
      · rw [if_neg h, if_pos h2, if_pos h2]; rfl
      · rw [if_neg h, if_neg h2, if_neg h2, if_neg h]; exact ih
theorem cb_zero : ∀ {a b : List UInt8}, Lib.compareBytes a b = 0 ↔ a = b
  | [], [] => by simp [Lib.compareBytes]
  | [], _ :: _ => by simp [Lib.compareBytes]
  | _ :: _, [] => by simp [Lib.compareBytes]
  | a :: al, b :: bl => by
    have ih := cb_zero (a := al) (b := bl)
    simp only [Lib.compareBytes]
    by_cases h : a < b
    · rw [if_pos h]
      have : a ≠ b := by rintro rfl; rw [UInt8.lt_iff_toNat_lt] at h; omega
      simp [this]
    · by_cases h2 : b < a
      · rw [if_neg h, if_pos h2]
        have : a ≠ b := by rintro rfl; rw [UInt8.lt_iff_toNat_lt] at h2; omega
        simp [this]
      · rw [if_neg h, if_neg h2]
        have : a = b := by rw [UInt8.lt_iff_toNat_lt] at *; exact UInt8.toNat_inj.1 (by omega)
        simp [this, ih]
theorem cb_bd : ∀ a b : List UInt8, -1 ≤ Lib.compareBytes a b ∧ Lib.compareBytes a b ≤ 1
  | [], [] => by simp [Lib.compareBytes]
  | [], _ :: _ => by simp [Lib.compareBytes]
  | _ :: _, [] => by simp [Lib.compareBytes]
  | a :: al, b :: bl => by
    have ih := cb_bd al bl
    simp only [Lib.compareBytes]
    split
    · omega
    · split
      · omega
      · exact ih
theorem cb_trans : ∀ {a b c : List UInt8}, Lib.compareBytes a b ≤ 0 → Lib.compareBytes b c ≤ 0 → Lib.compareBytes a c ≤ 0
  | [], _, [] => by simp [Lib.compareBytes]
  | [], _, _ :: _ => by simp [Lib.compareBytes]
  | _ :: _, [], _ => by simp [Lib.compareBytes]
  | _ :: _, _ :: _, [] => by simp [Lib.compareBytes]
  | a :: al, b :: bl, c :: cl => by
    have ih := cb_trans (a := al) (b := bl) (c := cl)
    simp only [Lib.compareBytes]
    intro h1 h2
    by_cases p : a < b
    · by_cases q : b < c
      · rw [if_pos (by rw [UInt8.lt_iff_toNat_lt] at *; omega)]; omega
      · rw [if_neg q] at h2
        by_cases r : c < b
        · rw [if_pos r] at h2; omega
        · have e : b = c := by rw [UInt8.lt_iff_toNat_lt] at *; exact UInt8.toNat_inj.1 (by omega)
          subst e; rw [if_pos p]; omega
    · rw [if_neg p] at h1
      by_cases r : b < a
      · rw [if_pos r] at h1; omega
      · rw [if_neg r] at h1
        have e : a = b := by rw [UInt8.lt_iff_toNat_lt] at *; exact UInt8.toNat_inj.1 (by omega)
        subst e
        by_cases q : a < c
        · rw [if_pos q]; omega
        · rw [if_neg q] at h2 ⊢
          by_cases r2 : c < a
          · rw [if_pos r2] at h2; omega
          · rw [if_neg r2] at h2 ⊢; exact ih h1 h2
theorem cmpS_zero {a b : ByteArray} : cmpS a b = 0 ↔ a = b := by
  unfold cmpS
  rw [cb_zero]
  constructor
  · intro h
    obtain ⟨⟨l⟩⟩ := a
    obtain ⟨⟨m⟩⟩ := b
    simp at h
    rw [h]
  · rintro rfl; rfl
theorem cmpV_neg (k n : Int) (s : ByteArray) (k' n' : Int) (s' : ByteArray) : cmpV k n s k' n' s' = -cmpV k' n' s' k n s := by
  unfold cmpV
  have e := cmpI_neg k k'
  by_cases h : cmpI k k' = 0
  · have hk := cmpI_zero.1 h
    subst hk
    have hh : ¬ (cmpI k k ≠ 0) := by simp [h]
    rw [if_neg hh, if_neg hh]
    by_cases h2 : k = 2
    · rw [if_pos h2, if_pos h2]; exact cb_neg _ _
    · rw [if_neg h2, if_neg h2]; exact cmpI_neg _ _
  · rw [if_pos h, if_pos (by omega)]; exact e
theorem cmpV_bd (k n : Int) (s : ByteArray) (k' n' : Int) (s' : ByteArray) : -1 ≤ cmpV k n s k' n' s' ∧ cmpV k n s k' n' s' ≤ 1 := by
  unfold cmpV
  split
  · exact cmpI_bd _ _
  · split
    · exact cb_bd _ _
    · exact cmpI_bd _ _
theorem cmpV_trans {k n : Int} {s : ByteArray} {k' n' : Int} {s' : ByteArray} {k2 n2 : Int} {s2 : ByteArray} (h1 : cmpV k n s k' n' s' ≤ 0) (h2 : cmpV k' n' s' k2 n2 s2 ≤ 0) : cmpV k n s k2 n2 s2 ≤ 0 := by
  unfold cmpV at *
  by_cases a : cmpI k k' = 0
  · have hk := cmpI_zero.1 a
    subst hk
    rw [if_neg (by simpa using a)] at h1
    by_cases b : cmpI k k2 = 0
    · have hk := cmpI_zero.1 b
      subst hk
      rw [if_neg (by simpa using a)] at h2 ⊢
      by_cases c : k = 2
      · rw [if_pos c] at *; exact cb_trans h1 h2
      · rw [if_neg c] at *; rw [cmpI_le] at *; omega
    · rw [if_pos b] at h2 ⊢; exact h2
  · rw [if_pos a, cmpI_le] at h1
    have hne : k ≠ k' := fun e => a (cmpI_zero.2 e)
    by_cases b : cmpI k' k2 = 0
    · have hk := cmpI_zero.1 b
      subst hk
      rw [if_pos a, cmpI_le]; exact h1
    · rw [if_pos b, cmpI_le] at h2
      rw [if_pos (fun e => hne (by have := cmpI_zero.1 e; omega)), cmpI_le]; omega
/-- What a value's kind says of its other fields. -/
theorem isVal_num {k n : Int} {s : ByteArray} (h : isVal k n s = true) (h2 : k ≠ 2) : s = nul := by
  unfold isVal at h
  rw [if_neg h2] at h
  apply toList_nil
  repeat' (split at h)
  all_goals simp_all
theorem isVal_txt {n : Int} {s : ByteArray} (h : isVal 2 n s = true) : n = 0 := by
  unfold isVal at h
  simp at h
  exact h.1
theorem cmpV_zero {k n : Int} {s : ByteArray} {k' n' : Int} {s' : ByteArray} (h : isVal k n s = true) (h' : isVal k' n' s' = true) : cmpV k n s k' n' s' = 0 ↔ k = k' ∧ n = n' ∧ s = s' := by
  unfold cmpV
  by_cases a : cmpI k k' = 0
  · have hk := cmpI_zero.1 a
    subst hk
    rw [if_neg (by simpa using a)]
    by_cases c : k = 2
    · subst c
      rw [if_pos rfl, cmpS_zero]
      have e1 := isVal_txt h
      have e2 := isVal_txt h'
      simp [e1, e2]
    · rw [if_neg c, cmpI_zero]
      have e1 := isVal_num h c
      have e2 := isVal_num h' c
      simp [e1, e2]
  · rw [if_pos a]
    have hne : k ≠ k' := fun e => a (cmpI_zero.2 e)
    simp [a, hne]
end Go.Proofs.YtgoadofnfaidcaaGreatDoor
