
/- The reference's tokens where an argument stands; what a word means to both. Condition: the place lies in the text. -/
import Derived.Test.YtomgjjngkffbbaaGreatDoorRk
import Derived.Test.YtomgjjngkffbbaaGreatDoorFv
import Derived.Test.YtomgjjngkffbbaaGreatDoorArname
namespace Go.Proofs.YtomgjjngkffbbaaGreatDoor.fm
open Go.RowKit
theorem quote_len (s : ByteArray) (k : Nat) (acc : List UInt8) : ∀ l k', quote s k acc = some (l, k') → l.length + k ≤ acc.length + k' := by
  fun_induction quote s k acc with
  | case1 k acc h h1 h2 ih => intro l k' e; have := ih l k' e; simp at this; omega
  | case2 k acc h h1 h2 => intro l k' e; cases e; omega
  | case3 k acc h h1 ih => intro l k' e; have := ih l k' e; simp at this; omega
  | case4 k acc h => intro l k' e; cases e
theorem bad_size (n : Nat) (h1 : 1 ≤ n) (h6 : n ≤ 6) : (sh 4 (n : Nat) YtomgjjngkffbbaaGreatDoor.nul).size ≤ 200 := by
  match n, h1, h6 with
  | 1, _, _ => decide +kernel
  | 2, _, _ => decide +kernel
  | 3, _, _ => decide +kernel
  | 4, _, _ => decide +kernel
  | 5, _, _ => decide +kernel
  | 6, _, _ => decide +kernel
  | n + 7, _, h6 => omega
theorem tk_text (s : ByteArray) (j : Nat) (hs : s.size ≤ 200) (hj : j ≤ s.size) : (tkR s j).t.size ≤ 200 := by
  have hj1 := (skip_spec s j).2.2 hj
  unfold tkR
  by_cases h0 : skip s j = s.size
  · rw [if_pos h0]; exact Nat.zero_le _
  rw [if_neg h0]
  by_cases h1 : isW (nx s (skip s j)) = true
  · rw [if_pos h1]
    have := tok_size s (skip s j) hj1
    have := (tok_spec s (skip s j)).2.2.1 hj1
    simp only
    omega
  rw [if_neg h1]
  by_cases h2 : nx s (skip s j) = 34
  · rw [if_pos h2]
    cases hq : quote s (skip s j + 1) [] with
    | none => exact Nat.zero_le _
    | some p =>
      obtain ⟨l, e⟩ := p
      have h1 := quote_spec s _ _ _ _ hq
      have h2 := quote_len s _ _ _ _ hq
      show l.toArray.size ≤ 200
      simp at h2 ⊢
      omega
  rw [if_neg h2]
  by_cases h3 : nx s (skip s j) = 35
  · rw [if_pos h3]
    cases hq : badAt s (skip s j) with
    | none => exact Nat.zero_le _
    | some p =>
      obtain ⟨n, len⟩ := p
      have := badAt_spec hq
      exact bad_size n this.1 this.2.1
  rw [if_neg h3]
  by_cases h4 : two2 s (skip s j) = true
  · rw [if_pos h4]; simp only [ByteArray.size_extract]; omega
  · rw [if_neg h4]; simp only [ByteArray.size_extract]; omega
section
variable (L : Lex) (s : ByteArray)
theorem Operand_skip {d a b : Nat} (ha : a ≤ s.size) (hb : b ≤ s.size) (h : skip s a = skip s b) : Operand L s d a = Operand L s d b := by
  rw [Operand_eq L s d a ha, Operand_eq L s d b hb, h]
theorem Expr_skip {l d a b : Nat} (h1 : 1 ≤ l) (h5 : l ≤ 5) (ha : a ≤ s.size) (hb : b ≤ s.size) (h : skip s a = skip s b) : Expr L s l d a = Expr L s l d b := by
  rw [Expr_chain L s _ l d a rfl h1 h5 ha, Expr_chain L s _ l d b rfl h1 h5 hb, Operand_skip L s ha hb h]
end
/-- Does a box stand there? -/
def boxG (s : ByteArray) (tk : Tk) : Bool := (tk.kind == 1) && (adr.rdR tk.t).ok && decide (nx s tk.e = 58)
abbrev rfOf (t : ByteArray) : Rf := ⟨(adr.rdR t).c, (adr.rdR t).r, (adr.rdR t).fc, (adr.rdR t).fr⟩
theorem refOf_yes {t : ByteArray} (h : (adr.rdR t).ok = true) : refOf t = some (rfOf t) := by unfold refOf; rw [if_pos h]
theorem refOf_no {t : ByteArray} (h : (adr.rdR t).ok = false) : refOf t = none := by unfold refOf; rw [if_neg (by simp [h])]
theorem arg_plain (s : ByteArray) (j D : Nat) (hj : j ≤ s.size) (h : boxG s (tkR s j) = false) : Arg lexP s D j = Expr lexP s 1 D j := by
  have hj1 := (skip_spec s j).2.2 hj
  rw [Arg_eq lexP s D j hj, Expr_skip lexP s (a := j) (b := skip s j) (Nat.le_refl _) (by omega) hj hj1 (skip_skip s j).symm]
  cases hw : isW (nx s (skip s j)) with
  | false =>
    rw [tok_none hw]
    have : lexP.ref ⟨#[]⟩ = none := lexP.noref
    rw [this]
  | true =>
    have ht := tk_word s j hj hw
    rw [ht] at h
    unfold boxG at h
    simp only at h
    cases hok : (adr.rdR (tok s (skip s j))).ok with
    | false => rw [show lexP.ref (tok s (skip s j)) = none from refOf_no hok]
    | true =>
      rw [show lexP.ref (tok s (skip s j)) = some _ from refOf_yes hok]
      rw [hok] at h
      simp at h
      simp only
      rw [if_neg h]
theorem arg_box (s : ByteArray) (j D : Nat) (hj : j ≤ s.size) (h : boxG s (tkR s j) = true) :
    (tkR s j).e < s.size ∧ (∀ r2, refOf (tok s ((tkR s j).e + 1)) = some r2 → Arg lexP s D j = .ok (tBox (rfOf (tkR s j).t) r2) (tokEnd s ((tkR s j).e + 1))) ∧ (refOf (tok s ((tkR s j).e + 1)) = none → Arg lexP s D j = .err ((tkR s j).e + 1) 2) := by
  have h' := h
  unfold boxG at h
  simp at h
  obtain ⟨⟨h1, h2⟩, h3⟩ := h
  have hw := tk_kind1 s j h1
  have ht := tk_word s j hj hw
  refine ⟨nx_lt (by omega), fun r2 hr => ?_, fun hr => ?_⟩
  · rw [Arg_eq lexP s D j hj]
    rw [ht] at h2 h3 hr ⊢
    simp only at h2 h3 hr ⊢
    rw [show lexP.ref (tok s (skip s j)) = some _ from refOf_yes h2]
    simp only
    rw [if_pos h3, show lexP.ref (tok s (tokEnd s (skip s j) + 1)) = some r2 from hr]
  · rw [Arg_eq lexP s D j hj]
    rw [ht] at h2 h3 hr ⊢
    simp only at h2 h3 hr ⊢
    rw [show lexP.ref (tok s (skip s j)) = some _ from refOf_yes h2]
    simp only
    rw [if_pos h3, show lexP.ref (tok s (tokEnd s (skip s j) + 1)) = none from hr]
theorem box_no (s : ByteArray) (q : Nat) (hq : q ≤ s.size) (h : (tkR s q).a ≠ q ∨ (tkR s q).kind ≠ 1 ∨ (adr.rdR (tkR s q).t).ok = false) : refOf (tok s q) = none := by
  have hno : refOf ⟨#[]⟩ = none := lexP.noref
  by_cases hw : isW (nx s q) = true
  · have hsk : skip s q = q := skip_else (by intro e; rw [e] at hw; revert hw; decide)
    have ht := tk_word s q hq (by rw [hsk]; exact hw)
    rw [hsk] at ht
    rw [ht] at h
    simp at h
    exact refOf_no h
  · rw [tok_none (by simpa using hw)]; exact hno
theorem box_yes (s : ByteArray) (q : Nat) (hq : q ≤ s.size) (h1 : (tkR s q).a = q) (h2 : (tkR s q).kind = 1) (h3 : (adr.rdR (tkR s q).t).ok = true) : refOf (tok s q) = some (rfOf (tkR s q).t) ∧ (tkR s q).e = tokEnd s q := by
  have hsk : skip s q = q := by rw [← (tk_spec s q hq).1]; exact h1
  have hw := tk_kind1 s q h2
  have ht := tk_word s q hq hw
  rw [hsk] at ht
  rw [ht] at h3 ⊢
  exact ⟨refOf_yes h3, rfl⟩
end Go.Proofs.YtomgjjngkffbbaaGreatDoor.fm
