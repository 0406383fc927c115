
/- What the document's Show has written behind so many digits: plain. Nothing is walked here. -/
import Derived.Test.YtnelglmbckgbgaaGreatDoorFya
namespace Go.Proofs.YtnelglmbckgbgaaGreatDoor.fw
open Go.RowKit Go.Sort
/-- The last so many digits, as they are shown. -/
def outL (k : LK) (n : Int) (j : Nat) : List UInt8 :=
  if j ≤ k.places then (padL k n).drop ((padL k n).length - j)
  else csB k.three true ((wholeL k n).drop ((wholeL k n).length - (j - k.places))) ++ pT k n
theorem outL_zero (k : LK) (n : Int) : outL k n 0 = [] := by
  unfold outL
  rw [if_pos (Nat.zero_le _), Nat.sub_zero, List.drop_length]
theorem whole_len (k : LK) (n : Int) : (wholeL k n).length = (padL k n).length - k.places := by
  unfold wholeL
  rw [List.length_take]
  omega
theorem parts_eq (k : LK) (n : Int) : partsL k n = (padL k n).drop ((padL k n).length - k.places) := rfl
theorem outL_end (k : LK) (n : Int) (h : 0 < k.digits) : outL k n (padL k n).length = wT k n ++ pT k n := by
  have h1 := padL_len k n
  unfold outL
  rw [if_neg (by omega), whole_len, Nat.sub_self, List.drop_zero]
  rfl
theorem drop_last {l : List UInt8} {j : Nat} {d : UInt8} (hj : j < l.length) (hd : l[l.length - 1 - j]? = some d) : l.drop (l.length - (j + 1)) = d :: l.drop (l.length - j) := by
  have e : l.length - (j + 1) = l.length - 1 - j := by omega
  rw [e, List.drop_eq_getElem_cons (by omega)]
  congr 1
  · exact (List.getElem?_eq_some_iff.1 hd).2
  · congr 1
    omega
theorem cs_more (d : UInt8) (l : List UInt8) (t : Bool) (h : l ≠ []) : csB t true (d :: l) = d :: ((if t = true ∧ l.length % 3 = 0 then [44] else []) ++ csB t true l) := by
  unfold csB
  cases t with
  | false => simp
  | true =>
    cases l with
    | nil => exact absurd rfl h
    | cons c r => simp [cs]
/-- One digit more. -/
theorem outL_low {k : LK} {n : Int} {j : Nat} {d : UInt8} (hj : j < (padL k n).length) (hd : (padL k n)[(padL k n).length - 1 - j]? = some d) (h : j < k.places) : outL k n (j + 1) = d :: outL k n j := by
  unfold outL
  rw [if_pos (by omega), if_pos (by omega)]
  exact drop_last hj hd
theorem whole_at {k : LK} {n : Int} {j : Nat} (h : k.places ≤ j) (hj : j < (padL k n).length) : (wholeL k n)[(wholeL k n).length - 1 - (j - k.places)]? = (padL k n)[(padL k n).length - 1 - j]? := by
  rw [whole_len]
  unfold wholeL
  rw [List.getElem?_take]
  have e : (padL k n).length - k.places - 1 - (j - k.places) = (padL k n).length - 1 - j := by omega
  rw [e, if_pos (by omega)]
theorem outL_at {k : LK} {n : Int} {d : UInt8} (hj : k.places < (padL k n).length) (hd : (padL k n)[(padL k n).length - 1 - k.places]? = some d) : outL k n (k.places + 1) = d :: ((if 0 < k.places then [46] else []) ++ outL k n k.places) := by
  have hw := whole_at (k := k) (n := n) (Nat.le_refl _) hj
  rw [hd] at hw
  unfold outL
  rw [if_neg (by omega), if_pos (Nat.le_refl _)]
  have e : k.places + 1 - k.places = 0 + 1 := by omega
  rw [Nat.sub_self] at hw
  rw [e, drop_last (by rw [whole_len]; omega) hw, Nat.sub_zero, List.drop_length]
  have e2 : csB k.three true [d] = [d] := by unfold csB; split <;> simp [cs]
  rw [e2, ← parts_eq]
  unfold pT
  split <;> rfl
theorem outL_high {k : LK} {n : Int} {j : Nat} {d : UInt8} (hj : j < (padL k n).length) (hd : (padL k n)[(padL k n).length - 1 - j]? = some d) (h : k.places < j) : outL k n (j + 1) = d :: ((if k.three = true ∧ (j - k.places) % 3 = 0 then [44] else []) ++ outL k n j) := by
  have hw := whole_at (k := k) (n := n) (Nat.le_of_lt h) hj
  rw [hd] at hw
  have hl := whole_len k n
  have a1 : ¬ j + 1 ≤ k.places := by omega
  have a2 : ¬ j ≤ k.places := by omega
  unfold outL
  rw [if_neg a1, if_neg a2]
  have e : j + 1 - k.places = (j - k.places) + 1 := by omega
  have hne : (wholeL k n).drop ((wholeL k n).length - (j - k.places)) ≠ [] := by
    intro e0
    have := congrArg List.length e0
    rw [List.length_drop] at this
    simp at this
    omega
  have hln : ((wholeL k n).drop ((wholeL k n).length - (j - k.places))).length = j - k.places := by rw [List.length_drop]; omega
  rw [e, drop_last (by rw [hl]; omega) hw, cs_more _ _ _ hne, hln]
  simp
/-- The digit that stands there. -/
theorem pad_dec {k : LK} {n : Int} {j : Nat} (hj : j < (Lib.decDigits n.natAbs).length) : (padL k n)[(padL k n).length - 1 - j]? = (Lib.decDigits n.natAbs)[(Lib.decDigits n.natAbs).length - 1 - j]? := by
  unfold padL
  rw [List.length_append, List.length_replicate, List.getElem?_append_right (by simp; omega)]
  simp only [List.length_replicate]
  congr 1
  omega
theorem pad_zero {k : LK} {n : Int} {j : Nat} (hj : (Lib.decDigits n.natAbs).length ≤ j) (hj2 : j < (padL k n).length) : (padL k n)[(padL k n).length - 1 - j]? = some 48 := by
  unfold padL at hj2 ⊢
  rw [List.length_append, List.length_replicate] at hj2 ⊢
  rw [List.getElem?_append_left (by simp; omega), List.getElem?_replicate, if_pos (by omega)]
theorem pad_lt (k : LK) (n : Int) (j : Nat) : j < (padL k n).length ↔ (j < (Lib.decDigits n.natAbs).length ∨ j < k.places + k.digits) := by
  unfold padL
  rw [List.length_append, List.length_replicate]
  omega
end Go.Proofs.YtnelglmbckgbgaaGreatDoor.fw
