/- Plain facts: what is read of a text is a value and is shown as that text; what is shown of a value is read as it. Nothing is walked here. -/
import Derived.Test.YtgoadofnfaidcaaGreatDoorRead
import Derived.Test.YtgoadofnfaidcaaGreatDoorOrd
namespace Go.Proofs.YtgoadofnfaidcaaGreatDoor
open Go.RowKit
theorem eq_of_toList {s t : ByteArray} (h : (s.toList == t.data.toList) = true) : s = t := by
  rw [beq_iff_eq, ByteArray.toList_eq] at h
  obtain ⟨⟨l⟩⟩ := s
  obtain ⟨⟨m⟩⟩ := t
  simp at h
  rw [h]
theorem badOf_cases (s : ByteArray) : badOf s = 0 ∨ (badOf s = 1 ∧ s = bt0) ∨ (badOf s = 2 ∧ s = bt1) ∨ (badOf s = 3 ∧ s = bt2) ∨ (badOf s = 4 ∧ s = bt3) ∨ (badOf s = 5 ∧ s = bt4) ∨ (badOf s = 6 ∧ s = bt5) := by
  unfold badOf
  split
  · rename_i h; exact Or.inr (Or.inl ⟨rfl, eq_of_toList (t := bt0) h⟩)
  split
  · rename_i h; exact Or.inr (Or.inr (Or.inl ⟨rfl, eq_of_toList (t := bt1) h⟩))
  split
  · rename_i h; exact Or.inr (Or.inr (Or.inr (Or.inl ⟨rfl, eq_of_toList (t := bt2) h⟩)))
  split
  · rename_i h; exact Or.inr (Or.inr (Or.inr (Or.inr (Or.inl ⟨rfl, eq_of_toList (t := bt3) h⟩))))
  split
  · rename_i h; exact Or.inr (Or.inr (Or.inr (Or.inr (Or.inr (Or.inl ⟨rfl, eq_of_toList (t := bt4) h⟩)))))
  split
  · rename_i h; exact Or.inr (Or.inr (Or.inr (Or.inr (Or.inr (Or.inr ⟨rfl, eq_of_toList (t := bt5) h⟩)))))
  · exact Or.inl rfl
theorem rd_all (s : ByteArray) : isVal (rd s).1 (rd s).2.1 (rd s).2.2 = true ∧ (-9223372036854775808 ≤ (rd s).2.1 ∧ (rd s).2.1 ≤ 9223372036854775807) ∧ ((s.size : Int) ≤ 200 → sh (rd s).1 (rd s).2.1 (rd s).2.2 = s) := by
  unfold rd
  by_cases h0 : s.toList.isEmpty = true
  · rw [if_pos h0]
    have := toList_nil h0
    subst this
    exact ⟨by decide +kernel, by decide +kernel, fun _ => by decide +kernel⟩
  rw [if_neg h0]
  by_cases h1 : (200 : Int) < (s.size : Int)
  · rw [if_pos h1]
    exact ⟨by decide +kernel, by decide +kernel, fun h => by omega⟩
  rw [if_neg h1]
  cases hn : numOf s with
  | some v =>
    obtain ⟨ha, hi⟩ := numOf_some hn
    have hb := atoi_bd ha
    refine ⟨?_, hb, fun _ => ?_⟩
    · show nul.toList.isEmpty = true
      decide +kernel
    show itoaB v = s
    unfold itoaB
    rw [hi]
  | none =>
    dsimp only
    split
    · rename_i h; exact ⟨by decide +kernel, by decide +kernel, fun _ => (eq_of_toList (t := tT) h).symm⟩
    split
    · rename_i h; exact ⟨by decide +kernel, by decide +kernel, fun _ => (eq_of_toList (t := tF) h).symm⟩
    split
    · rename_i hb
      rcases badOf_cases s with h | h | h | h | h | h | h
      · rw [h] at hb; exact absurd hb (by decide +kernel)
      all_goals
        obtain ⟨e, rfl⟩ := h
        rw [e]
        exact ⟨by decide +kernel, by decide +kernel, fun _ => by decide +kernel⟩
    · refine ⟨?_, (by omega : (-9223372036854775808 : Int) ≤ 0 ∧ (0 : Int) ≤ 9223372036854775807), fun _ => rfl⟩
      unfold isVal
      simp
      omega
theorem rd_empty : rd nul = (0, 0, nul) := by decide +kernel
theorem numOf_itoa (n : Int) (h0 : -9223372036854775808 ≤ n) (h1 : n ≤ 9223372036854775807) : numOf (itoaB n) = some n := by
  unfold numOf
  have e : (itoaB n).data.toList = Lib.itoa n := rfl
  rw [e, atoi_itoa n h0 h1]
  simp
theorem rd_num (n : Int) (h0 : -9223372036854775808 ≤ n) (h1 : n ≤ 9223372036854775807) : rd (itoaB n) = (1, n, nul) := by
  unfold rd
  have e : (itoaB n).data.toList = Lib.itoa n := rfl
  have hl := itoa_len n h0 h1
  have hne := itoa_ne n
  have hs : (itoaB n).size ≤ 20 := by
    show (itoaB n).data.size ≤ 20
    rw [← Array.length_toList, e]; exact hl
  rw [if_neg (by rw [toList_itoaB, List.isEmpty_iff]; exact hne), if_neg (by omega), numOf_itoa n h0 h1]
theorem rd_T : rd tT = (3, 1, nul) := by decide +kernel
theorem rd_F : rd tF = (3, 0, nul) := by decide +kernel
theorem rd_b0 : rd bt0 = (4, 1, nul) := by decide +kernel
theorem rd_b1 : rd bt1 = (4, 2, nul) := by decide +kernel
theorem rd_b2 : rd bt2 = (4, 3, nul) := by decide +kernel
theorem rd_b3 : rd bt3 = (4, 4, nul) := by decide +kernel
theorem rd_b4 : rd bt4 = (4, 5, nul) := by decide +kernel
theorem rd_b5 : rd bt5 = (4, 6, nul) := by decide +kernel
theorem rd_sh (k n : Int) (s : ByteArray) (hv : isVal k n s = true) (h2 : k ≠ 2) (h0 : -9223372036854775808 ≤ n) (h1 : n ≤ 9223372036854775807) : rd (sh k n s) = (k, n, s) := by
  have hs := isVal_num hv h2
  subst hs
  unfold isVal at hv
  by_cases k0 : k = 0
  · subst k0
    simp at hv
    rw [hv]
    exact rd_empty
  by_cases k1 : k = 1
  · subst k1; exact rd_num n h0 h1
  by_cases k3 : k = 3
  · subst k3
    simp at hv
    rcases hv with rfl | rfl
    · exact rd_F
    · exact rd_T
  by_cases k4 : k = 4
  · subst k4
    simp at hv
    have : n = 1 ∨ n = 2 ∨ n = 3 ∨ n = 4 ∨ n = 5 ∨ n = 6 := by omega
    rcases this with rfl | rfl | rfl | rfl | rfl | rfl
    · exact rd_b0
    · exact rd_b1
    · exact rd_b2
    · exact rd_b3
    · exact rd_b4
    · exact rd_b5
  · rw [if_neg k0, if_neg k1, if_neg h2, if_neg k3, if_neg k4] at hv
    cases hv
theorem rd_fact : rd ⟨#[45, 49, 50]⟩ = (1, -12, nul) := by decide +kernel
end Go.Proofs.YtgoadofnfaidcaaGreatDoor
