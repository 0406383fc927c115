
/- How two rows stand by keys. Nothing is walked here. Conditions: as each theorem says. -/
import Derived.Test.YtehamdkjdbaceaaDoorSa
namespace Go.Proofs.YtehamdkjdbaceaaDoor.so
open Go.RowKit Go.Sort
/-- The greatest first, or not. -/
def sg (d : Bool) (e : Int) : Int := if d = true then -e else e
theorem sg_neg (d : Bool) (e : Int) : sg d (-e) = -sg d e := by unfold sg; split <;> omega
theorem sg_zero {d : Bool} {e : Int} : sg d e = 0 ↔ e = 0 := by unfold sg; split <;> omega
theorem sg_bd {d : Bool} {e : Int} (h : -1 ≤ e ∧ e ≤ 1) : -1 ≤ sg d e ∧ sg d e ≤ 1 := by unfold sg; split <;> omega
/-- How two rows stand by so many keys, from one on. -/
def crw (a b : Nat → Vl) (c : Nat → Int) (d : Nat → Bool) : Nat → Nat → Int
  | 0, _ => 0
  | m + 1, j => if sg (d j) ((a (c j).toNat).cmp (b (c j).toNat)) = 0 then crw a b c d m (j + 1) else sg (d j) ((a (c j).toNat).cmp (b (c j).toNat))
theorem crw_neg (a b : Nat → Vl) (c : Nat → Int) (d : Nat → Bool) : ∀ m j, crw a b c d m j = -crw b a c d m j
  | 0, _ => rfl
  | m + 1, j => by
    have e : sg (d j) ((a (c j).toNat).cmp (b (c j).toNat)) = -sg (d j) ((b (c j).toNat).cmp (a (c j).toNat)) := by rw [Vl.cmp_neg, sg_neg]
    unfold crw
    rw [e]
    by_cases h : sg (d j) ((b (c j).toNat).cmp (a (c j).toNat)) = 0
    · rw [if_pos (by omega), if_pos h]; exact crw_neg a b c d m (j + 1)
    · rw [if_neg (by omega), if_neg h]
theorem crw_bd (a b : Nat → Vl) (c : Nat → Int) (d : Nat → Bool) : ∀ m j, -1 ≤ crw a b c d m j ∧ crw a b c d m j ≤ 1
  | 0, _ => by unfold crw; omega
  | m + 1, j => by
    unfold crw
    split
    · exact crw_bd a b c d m (j + 1)
    · exact sg_bd (Vl.cmp_bd _ _)
theorem sg_trans {d : Bool} {x y z : Vl} (h1 : sg d (x.cmp y) ≤ 0) (h2 : sg d (y.cmp z) ≤ 0) : sg d (x.cmp z) ≤ 0 := by
  unfold sg at *
  cases d with
  | false => exact Vl.cmp_trans h1 h2
  | true =>
    simp only [if_true] at *
    have a := Vl.cmp_neg x y
    have b := Vl.cmp_neg y z
    have c := Vl.cmp_neg x z
    have := Vl.cmp_trans (x := z) (y := y) (z := x) (by omega) (by omega)
    omega
theorem crw_trans {a b e : Nat → Vl} {c : Nat → Int} {d : Nat → Bool} : ∀ {m j}, crw a b c d m j ≤ 0 → crw b e c d m j ≤ 0 → crw a e c d m j ≤ 0
  | 0, _, _, _ => by unfold crw; omega
  | m + 1, j, h1, h2 => by
    unfold crw at h1 h2 ⊢
    have k1 := sg_trans (d := d j) (x := a (c j).toNat) (y := b (c j).toNat) (z := e (c j).toNat)
    have k2 := sg_trans (d := d j) (x := e (c j).toNat) (y := b (c j).toNat) (z := a (c j).toNat)
    have n1 : sg (d j) ((b (c j).toNat).cmp (a (c j).toNat)) = -sg (d j) ((a (c j).toNat).cmp (b (c j).toNat)) := by rw [Vl.cmp_neg, sg_neg]
    have n2 : sg (d j) ((e (c j).toNat).cmp (b (c j).toNat)) = -sg (d j) ((b (c j).toNat).cmp (e (c j).toNat)) := by rw [Vl.cmp_neg, sg_neg]
    have n3 : sg (d j) ((e (c j).toNat).cmp (a (c j).toNat)) = -sg (d j) ((a (c j).toNat).cmp (e (c j).toNat)) := by rw [Vl.cmp_neg, sg_neg]
    have k3 := sg_trans (d := d j) (x := b (c j).toNat) (y := e (c j).toNat) (z := a (c j).toNat)
    have k4 := sg_trans (d := d j) (x := e (c j).toNat) (y := a (c j).toNat) (z := b (c j).toNat)
    by_cases z1 : sg (d j) ((a (c j).toNat).cmp (b (c j).toNat)) = 0
    · rw [if_pos z1] at h1
      by_cases z2 : sg (d j) ((b (c j).toNat).cmp (e (c j).toNat)) = 0
      · rw [if_pos z2] at h2
        rw [if_pos (by have := k1 (by omega) (by omega); have := k2 (by omega) (by omega); omega)]
        exact crw_trans h1 h2
      · rw [if_neg z2] at h2
        have := k1 (by omega) (by omega)
        split
        · next h => have := k3 (by omega) (by omega); have := k4 (by omega) (by omega); omega
        · omega
    · rw [if_neg z1] at h1
      by_cases z2 : sg (d j) ((b (c j).toNat).cmp (e (c j).toNat)) = 0
      · have := k1 (by omega) (by omega)
        split
        · next h => have := k3 (by omega) (by omega); have := k4 (by omega) (by omega); omega
        · omega
      · rw [if_neg z2] at h2
        have := k1 (by omega) (by omega)
        split
        · next h => have := k3 (by omega) (by omega); have := k4 (by omega) (by omega); omega
        · omega
/-- Which of two rows stands ahead: by keys, and of two alike the first. -/
def Tn (T : Tb) (n : Nat) (c : Nat → Int) (d : Nat → Bool) (x y : Nat) : Prop := crw (T.v x) (T.v y) c d n 0 < 0 ∨ (crw (T.v x) (T.v y) c d n 0 = 0 ∧ x < y)
theorem tn_trans {T : Tb} {n : Nat} {c : Nat → Int} {d : Nat → Bool} {x y z : Nat} (h1 : Tn T n c d x y) (h2 : Tn T n c d y z) : Tn T n c d x z := by
  unfold Tn at *
  have k := crw_trans (a := T.v x) (b := T.v y) (e := T.v z) (c := c) (d := d) (m := n) (j := 0) (by omega) (by omega)
  have k2 := crw_trans (a := T.v y) (b := T.v z) (e := T.v x) (c := c) (d := d) (m := n) (j := 0) (by omega)
  have k3 := crw_trans (a := T.v z) (b := T.v x) (e := T.v y) (c := c) (d := d) (m := n) (j := 0)
  have n1 := crw_neg (T.v x) (T.v y) c d n 0
  have n2 := crw_neg (T.v y) (T.v z) c d n 0
  have n3 := crw_neg (T.v x) (T.v z) c d n 0
  by_cases e : crw (T.v x) (T.v z) c d n 0 = 0
  · have := k2 (by omega)
    have := k3 (by omega) (by omega)
    right; omega
  · left; omega
end Go.Proofs.YtehamdkjdbaceaaDoor.so
