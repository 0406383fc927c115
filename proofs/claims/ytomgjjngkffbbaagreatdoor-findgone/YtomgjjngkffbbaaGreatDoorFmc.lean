
/- The document's Count: how often a part stands in a text, and the text with another one in its place, walked. Conditions: as each theorem says. -/
import Derived.Test.YtomgjjngkffbbaaGreatDoorFwa
import Derived.BigQuiet
namespace Go.Proofs.YtomgjjngkffbbaaGreatDoor.fw
open Go.RowKit Go.Sort
/-- How often a part stands in a text, none over another one, and the text with another one in its place. -/
def cntL (p b : List UInt8) : List UInt8 → Nat × List UInt8
  | [] => (0, [])
  | c :: s => if _h : p.isPrefixOf (c :: s) = true ∧ p ≠ [] then ((cntL p b ((c :: s).drop p.length)).1 + 1, b ++ (cntL p b ((c :: s).drop p.length)).2)
    else ((cntL p b s).1, c :: (cntL p b s).2)
termination_by s => s.length
decreasing_by
  · have : 0 < p.length := List.length_pos_iff.2 _h.2
    simp
    omega
  · simp
theorem cnt_nil (p b : List UInt8) : cntL p b [] = (0, []) := by unfold cntL; rfl
theorem cnt_yes {p b s : List UInt8} (h : p.isPrefixOf s = true) (hp : p ≠ []) : cntL p b s = ((cntL p b (s.drop p.length)).1 + 1, b ++ (cntL p b (s.drop p.length)).2) := by
  cases s with
  | nil =>
    cases p with
    | nil => exact absurd rfl hp
    | cons a p => simp at h
  | cons c s =>
    conv => lhs; unfold cntL
    rw [dif_pos ⟨h, hp⟩]
theorem cnt_no {p b s : List UInt8} {c : UInt8} (h : p.isPrefixOf (c :: s) = false) : cntL p b (c :: s) = ((cntL p b s).1, c :: (cntL p b s).2) := by
  conv => lhs; unfold cntL
  rw [dif_neg (fun x => by rw [h] at x; cases x.1)]
theorem cnt_le (p b : List UInt8) : ∀ (k : Nat) (s : List UInt8), s.length ≤ k → (cntL p b s).1 ≤ s.length ∧ (cntL p b s).2.length ≤ s.length * (b.length + 1) := by
  intro k
  induction k with
  | zero => intro s hs; have : s = [] := List.eq_nil_of_length_eq_zero (by omega); subst this; rw [cnt_nil]; simp
  | succ k ih =>
    intro s hs
    cases s with
    | nil => rw [cnt_nil]; simp
    | cons c s =>
      by_cases h : p.isPrefixOf (c :: s) = true ∧ p ≠ []
      · rw [cnt_yes h.1 h.2]
        have hp : 0 < p.length := List.length_pos_iff.2 h.2
        have h1 := ih ((c :: s).drop p.length) (by rw [List.length_drop]; simp at hs ⊢; omega)
        have hl : ((c :: s).drop p.length).length ≤ s.length := by rw [List.length_drop]; simp; omega
        have h3 : ((c :: s).drop p.length).length * (b.length + 1) ≤ s.length * (b.length + 1) := Nat.mul_le_mul_right _ hl
        refine ⟨by simp; omega, ?_⟩
        simp only [List.length_append, List.length_cons, Nat.add_mul, Nat.one_mul] at h1 h3 ⊢
        omega
      · have h2 : cntL p b (c :: s) = ((cntL p b s).1, c :: (cntL p b s).2) := by
          conv => lhs; unfold cntL
          rw [dif_neg h]
        rw [h2]
        have h1 := ih s (by simp at hs; omega)
        refine ⟨by simp; omega, ?_⟩
        simp only [List.length_cons, Nat.add_mul, Nat.one_mul]
        omega
theorem pre_ext {s p : ByteArray} {i : Nat} : ((s.extract i (i + p.size)).toList == p.toList) = p.toList.isPrefixOf (s.toList.drop i) := by
  have e : (s.extract i (i + p.size)).toList = (s.toList.drop i).take p.size := by
    rw [ByteArray.toList_eq, ByteArray.toList_eq]
    simp
  rw [e, Bool.eq_iff_iff, beq_iff_eq, List.isPrefixOf_iff_prefix, List.prefix_iff_eq_take, size_list]
  exact ⟨fun h => h.symm, fun h => h.symm⟩
theorem pre_long {s p : ByteArray} {i : Nat} (h : ¬ i + p.size ≤ s.size) (hi : i ≤ s.size) : p.toList.isPrefixOf (s.toList.drop i) = false := by
  rw [Bool.eq_false_iff]
  intro e
  rw [List.isPrefixOf_iff_prefix] at e
  have := e.length_le
  rw [List.length_drop, size_list, size_list] at this
  omega
/-- How far a text is read. -/
def CN (s p b R : List UInt8) (N : Nat) (i n : Nat) (X : List UInt8) : Prop := n + (cntL p b (s.drop i)).1 = N ∧ X ++ (cntL p b (s.drop i)).2 = R
end Go.Proofs.YtomgjjngkffbbaaGreatDoor.fw
