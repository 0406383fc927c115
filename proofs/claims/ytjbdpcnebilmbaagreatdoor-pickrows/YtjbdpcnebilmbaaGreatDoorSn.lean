
/- Rows that are taken, in their order; a want and its contrary. Nothing is walked here. Conditions: as each theorem says. -/
import Derived.Test.YtjbdpcnebilmbaaGreatDoorSq
namespace Go.Proofs.YtjbdpcnebilmbaaGreatDoor.so
open Go.RowKit Go.Sort Go.Shelf
theorem sel_mem {P : Nat → Bool} {j : Nat} {x : Int} : x ∈ sel P j ↔ ∃ i, i < j ∧ x = (i : Int) ∧ P i = true := by
  induction j with
  | zero => simp [sel]
  | succ j ih =>
    unfold sel
    split
    · next h =>
      rw [List.mem_append, ih, List.mem_singleton]
      constructor
      · rintro (⟨i, hi, e, hp⟩ | e)
        · exact ⟨i, by omega, e, hp⟩
        · exact ⟨j, by omega, e, h⟩
      · rintro ⟨i, hi, e, hp⟩
        by_cases hij : i = j
        · subst hij; exact .inr e
        · exact .inl ⟨i, by omega, e, hp⟩
    · next h =>
      rw [ih]
      constructor
      · rintro ⟨i, hi, e, hp⟩; exact ⟨i, by omega, e, hp⟩
      · rintro ⟨i, hi, e, hp⟩
        by_cases hij : i = j
        · subst hij; exact absurd hp h
        · exact ⟨i, by omega, e, hp⟩
theorem sel_rise (P : Nat → Bool) (j : Nat) : (sel P j).Pairwise (· < ·) := by
  induction j with
  | zero => simp [sel]
  | succ j ih =>
    unfold sel
    split
    · rw [List.pairwise_append]
      refine ⟨ih, List.pairwise_singleton _ _, fun a ha b hb => ?_⟩
      obtain ⟨i, hi, e, -⟩ := sel_mem.1 ha
      rw [List.mem_singleton] at hb
      omega
    · exact ih
theorem sel_at {P : Nat → Bool} {j i : Nat} (h : i < (sel P j).length) : ∃ t, t < j ∧ (sel P j).getD i 0 = (t : Int) ∧ P t = true := by
  have : (sel P j).getD i 0 ∈ sel P j := by
    rw [List.getD_eq_getElem?_getD, List.getElem?_eq_getElem h]
    exact List.getElem_mem h
  exact sel_mem.1 this
theorem sel_lt {P : Nat → Bool} {j i i' : Nat} (h : i < i') (h' : i' < (sel P j).length) : (sel P j).getD i 0 < (sel P j).getD i' 0 := by
  have := List.pairwise_iff_getElem.1 (sel_rise P j) i i' (by omega) h' h
  rw [List.getD_eq_getElem?_getD, List.getElem?_eq_getElem (by omega), List.getD_eq_getElem?_getD, List.getElem?_eq_getElem h']
  exact this
theorem sel_sub {P P' : Nat → Bool} {j i : Nat} (hs : ∀ t, t < j → P t = true → P' t = true) (h : i < (sel P j).length) : ∃ t, t < (sel P' j).length ∧ (sel P' j).getD t 0 = (sel P j).getD i 0 := by
  obtain ⟨t, ht, e, hp⟩ := sel_at h
  obtain ⟨u, hu, e2⟩ := List.mem_iff_getElem.1 (sel_mem.2 ⟨t, ht, rfl, hs t ht hp⟩)
  refine ⟨u, hu, ?_⟩
  rw [e, List.getD_eq_getElem?_getD, List.getElem?_eq_getElem hu]
  exact e2
/-- Where the walk along the longer list stops, the same number stands. -/
theorem sel_meet {P P' : Nat → Bool} {j i k : Nat} (hs : ∀ t, t < j → P t = true → P' t = true) (h : i < (sel P j).length) (hk : ∀ t, t < k → (sel P' j).getD t 0 < (sel P j).getD i 0) (hend : k < (sel P' j).length → ¬ (sel P' j).getD k 0 < (sel P j).getD i 0) (hle : k ≤ (sel P' j).length) : k < (sel P' j).length ∧ (sel P' j).getD k 0 = (sel P j).getD i 0 := by
  obtain ⟨u, hu, e⟩ := sel_sub hs h
  have hku : k ≤ u := by
    by_cases hku : u < k
    · have := hk u hku; omega
    · omega
  have hkl : k < (sel P' j).length := by omega
  refine ⟨hkl, ?_⟩
  have h1 := hend hkl
  by_cases hk2 : k = u
  · rw [hk2]; exact e
  · have := sel_lt (P := P') (j := j) (i := k) (i' := u) (by omega) hu
    omega
theorem metA_O {T : Tb} {n : Nat} {f : Nat → Wt} (hn : 0 < n) (i : Nat) (h : metA T n f i = true) : metO T n f i = true := by
  unfold metA metO at *
  simp at *
  omega
theorem metO_0 (T : Tb) (f : Nat → Wt) (i : Nat) : metO T 0 f i = false := by simp [metO, mets]
theorem metA_0 (T : Tb) (f : Nat → Wt) (i : Nat) : metA T 0 f i = true := by simp [metA, mets]
theorem sel_none {P : Nat → Bool} (h : ∀ i, P i = false) (j : Nat) : sel P j = [] := by
  induction j with
  | zero => rfl
  | succ j ih => rw [sel_no (h j), ih]
theorem sel_all {P : Nat → Bool} (h : ∀ i, P i = true) (j : Nat) : (sel P j).length = j := by
  induction j with
  | zero => rfl
  | succ j ih => rw [sel_yes (h j), List.length_append, ih, List.length_singleton]
/-- The contrary of an operator. -/
def opp (o : Int) : Int := if o = 1 then 2 else if o = 2 then 1 else if o = 3 then 6 else if o = 4 then 5 else if o = 5 then 4 else 3
theorem opp_ok {o : Int} (h1 : 1 ≤ o) (h6 : o ≤ 6) : 1 ≤ opp o ∧ opp o ≤ 6 := by
  have ho : o = 1 ∨ o = 2 ∨ o = 3 ∨ o = 4 ∨ o = 5 ∨ o = 6 := by omega
  rcases ho with rfl | rfl | rfl | rfl | rfl | rfl <;> decide
theorem says_opp {o : Int} (h1 : 1 ≤ o) (h6 : o ≤ 6) (c : Int) : says (opp o) c = !(says o c) := by
  have ho : o = 1 ∨ o = 2 ∨ o = 3 ∨ o = 4 ∨ o = 5 ∨ o = 6 := by omega
  rw [Bool.eq_iff_iff]
  rcases ho with rfl | rfl | rfl | rfl | rfl | rfl <;> simp [opp, says] <;> omega
/-- Does something bad stand there? -/
def badB (T : Tb) (u : Wt) (i : Nat) : Bool := (T.v i u.c.toNat).k == 4 || u.v.k == 4
theorem meet_opp (x : Vl) {o : Int} (h1 : 1 ≤ o) (h6 : o ≤ 6) (y : Vl) : meet x (opp o) y = (!(x.k == 4 || y.k == 4) && !(meet x o y)) := by
  unfold meet
  rw [says_opp h1 h6]
  cases (x.k == 4) <;> cases (y.k == 4) <;> cases says o (x.beside y) <;> rfl
theorem metA_1 (T : Tb) (f : Nat → Wt) (i : Nat) : metA T 1 f i = meet (T.v i (f 0).c.toNat) (f 0).o (f 0).v := by
  unfold metA
  rw [Bool.eq_iff_iff, decide_eq_true_iff, mets_all]
  constructor
  · exact fun h => h 0 (by omega)
  · intro h i hi
    have : i = 0 := by omega
    subst this
    exact h
/-- How many of the first so many rows have it. -/
def cntB (P : Nat → Bool) : Nat → Nat
  | 0 => 0
  | j + 1 => if P j = true then cntB P j + 1 else cntB P j
theorem cntB_le (P : Nat → Bool) (j : Nat) : cntB P j ≤ j := by
  induction j with
  | zero => exact Nat.le_refl _
  | succ j ih => unfold cntB; split <;> omega
/-- A want and its contrary take each row just once, if nothing bad stands there. -/
theorem parts_once {T : Tb} {f f' : Nat → Wt} (h1 : 1 ≤ (f 0).o) (h6 : (f 0).o ≤ 6) (hc : (f' 0).c = (f 0).c) (hv : (f' 0).v = (f 0).v) (ho : (f' 0).o = opp (f 0).o) (j : Nat) : (sel (metA T 1 f) j).length + (sel (metA T 1 f') j).length + cntB (badB T (f 0)) j = j := by
  induction j with
  | zero => rfl
  | succ j ih =>
    have e := metA_1 T f j
    have e' := metA_1 T f' j
    rw [hc, hv, ho, meet_opp _ h1 h6, ← e] at e'
    have hb : badB T (f 0) j = ((T.v j (f 0).c.toNat).k == 4 || (f 0).v.k == 4) := rfl
    rw [← hb] at e'
    have hbm : badB T (f 0) j = true → metA T 1 f j = false := by
      intro h
      rw [hb] at h
      rw [e]
      unfold meet
      cases h1 : ((T.v j (f 0).c.toNat).k == 4) <;> cases h2 : ((f 0).v.k == 4) <;> simp_all
    cases h : badB T (f 0) j with
    | true =>
      have hm := hbm h
      rw [h, hm] at e'
      rw [sel_no hm, sel_no (by rw [e']; rfl), cntB, if_pos h]
      omega
    | false =>
      rw [h] at e'
      rw [cntB, if_neg (by simp [h])]
      cases hm : metA T 1 f j with
      | true => rw [sel_yes hm, sel_no (by rw [e', hm]; rfl), List.length_append, List.length_singleton]; omega
      | false => rw [sel_no hm, sel_yes (by rw [e', hm]; rfl), List.length_append, List.length_singleton]; omega
/-- What Pick, or Any, answers of every table and all wants. -/
def AllP (F : Nat) (M : Tb → Nat → (Nat → Wt) → Nat → Bool) : Prop := ∀ (T : Tb) (p : Option Addr) (cp : Nat) (p2 : Option Addr) (n c2 : Nat) (f : Nat → Wt) (w : World), TM w p T → WM w p2 n f → T.q ≤ 9223372036854775807 → n ≤ 9223372036854775807 → (∀ i, i < T.q → T.L i ≤ 9223372036854775807) → T.q ≤ cp → n ≤ c2 →
  Calls Tryz.prog F #[.slice p T.q cp, .slice p2 n c2] w fun e w' => PK T n f (M T n f) w e w'
end Go.Proofs.YtjbdpcnebilmbaaGreatDoor.so
