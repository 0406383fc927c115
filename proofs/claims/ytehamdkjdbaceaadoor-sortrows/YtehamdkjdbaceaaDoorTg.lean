
/- Go's own stable sort: a merge of any two rows; rows of a size, one behind the other; an insertion sort keeps the order of equals. Conditions: as each theorem says. -/
import Derived.Test.YtehamdkjdbaceaaDoorTf
namespace Go.Proofs.YtehamdkjdbaceaaDoor.so
open Go.RowKit Go.Sort
variable {α : Type} [Inhabited α] {P : Program}
theorem sym_any (K : KT P) (enc : α → Value) (cf : α → α → Int) (T : α → α → Prop) (tr : ∀ a b c, T a b → T b c → T a c) (g : Nat) (cb : Array Value) (blk off cap : Nat) (d0 : Array α) (w0 : World)
    (eg : ∀ args w, (callFunc g args).run P w = .ok (.enter g args) w) (hcmp : CmpLays1 P g cb enc cf blk off d0.size w0) (R : Row1 enc w0 blk off d0) (hsz : d0.size ≤ 4398046511104) :
    ∀ (N : Nat) (E X Y S : List α), X.length + Y.length ≤ N → 0 < X.length → 0 < Y.length → Mg (ltOf cf) T X Y → SymOK P enc T (.func (.func g) #[] cb) blk off cap d0.size w0 E X Y S := by
  intro N
  induction N with
  | zero => intro E X Y S h h1; omega
  | succ N ih =>
    intro E X Y S hN hX hY M ia im ib w e1 e2 e3 hl hW
    subst e1 e2 e3
    by_cases h1 : X.length = 1
    · obtain ⟨x, rfl⟩ : ∃ x, X = [x] := List.length_eq_one_iff.1 h1
      exact symA K enc cf T tr g cb blk off cap d0 w0 eg hcmp R hsz E x Y S hY M w hl.symm hW
    · by_cases h2 : Y.length = 1
      · obtain ⟨y, rfl⟩ : ∃ y, Y = [y] := List.length_eq_one_iff.1 h2
        exact symB K enc cf T tr g cb blk off cap d0 w0 eg hcmp R hsz E X y S (by omega) M w hl.symm hW
      · exact symC K enc cf T tr g cb blk off cap d0 w0 eg hcmp R hsz E X Y S (by omega) (by omega) M w hl.symm hW (fun E' X' Y' S' g1 g2 g3 g4 => ih E' X' Y' S' (by omega) g1 g2 g4)
/-- One is put in from behind. -/
theorem insInner_list (lt : α → α → Bool) (E : List α) (x : α) : ∀ (N : Nat) (A Q : List α), A.length = N → ∃ A1 A2, A = A1 ++ A2 ∧ insInner lt E.length (E.length + A.length) (E ++ A ++ [x] ++ Q).toArray = (E ++ A1 ++ [x] ++ A2 ++ Q).toArray ∧ (∀ y ∈ A2, lt x y = true) ∧ (∀ y, A1.getLast? = some y → lt x y = false) := by
  intro N
  induction N with
  | zero =>
    intro A Q h
    have e : A = [] := List.length_eq_zero_iff.1 h
    subst e
    exact ⟨[], [], rfl, by rw [insInner_stop _ _ _ _ (.inl (by simp))]; simp, by simp, by simp⟩
  | succ N ih =>
    intro A Q h
    have hn : A ≠ [] := fun e => by rw [e] at h; simp at h
    obtain ⟨A', y, rfl⟩ : ∃ A' y, A = A' ++ [y] := ⟨A.dropLast, A.getLast hn, (List.dropLast_concat_getLast hn).symm⟩
    have hl : A'.length = N := by simpa using h
    have hx : (E ++ (A' ++ [y]) ++ [x] ++ Q).toArray[E.length + (A' ++ [y]).length]! = x := at_get (by
      rw [show E ++ (A' ++ [y]) ++ [x] ++ Q = (E ++ (A' ++ [y])) ++ ([x] ++ Q) by simp, List.getElem?_append_right (by simp)]
      simp)
    have hy : (E ++ (A' ++ [y]) ++ [x] ++ Q).toArray[E.length + (A' ++ [y]).length - 1]! = y := at_get (by
      rw [show E ++ (A' ++ [y]) ++ [x] ++ Q = (E ++ A') ++ ([y] ++ [x] ++ Q) by simp, List.getElem?_append_right (by simp <;> omega)]
      simp)
    by_cases hlt : lt x y = true
    · obtain ⟨A1, A2, e, h1, h2, h3⟩ := ih A' ([y] ++ Q) hl
      refine ⟨A1, A2 ++ [y], by rw [e]; simp, ?_, ?_, h3⟩
      · rw [insInner_go lt E.length _ _ (by simp <;> omega) (by rw [hx, hy]; exact hlt)]
        have es : swp (E ++ (A' ++ [y]) ++ [x] ++ Q).toArray (E.length + (A' ++ [y]).length) (E.length + (A' ++ [y]).length - 1) = (E ++ A' ++ [x] ++ ([y] ++ Q)).toArray := by
          have := swp_two (E ++ A') Q y x
          rw [show E ++ (A' ++ [y]) ++ [x] ++ Q = (E ++ A') ++ y :: x :: Q by simp, show E ++ A' ++ [x] ++ ([y] ++ Q) = (E ++ A') ++ x :: y :: Q by simp, show E.length + (A' ++ [y]).length - 1 = (E ++ A').length by simp <;> omega, show E.length + (A' ++ [y]).length = (E ++ A').length + 1 by simp <;> omega]
          exact this
        rw [es, show E.length + (A' ++ [y]).length - 1 = E.length + A'.length by simp <;> omega, h1]
        simp
      · intro z hz
        rcases List.mem_append.1 hz with hz | hz
        · exact h2 z hz
        · have ez : z = y := by simpa using hz
          rw [ez]; exact hlt
    · have hlf : lt x y = false := by simpa using hlt
      exact ⟨A' ++ [y], [], by simp, by rw [insInner_stop _ _ _ _ (.inr (by rw [hx, hy]; exact hlf))]; simp, by simp, fun z hz => by
        have ez : z = y := by simpa using hz.symm
        rw [ez]; exact hlf⟩
/-- Who stood ahead, and how that goes with the order. -/
def Jn (lt : α → α → Bool) (T J : α → α → Prop) : Prop := ∀ a b, J a b → (lt b a = false → T a b) ∧ (lt b a = true → T b a)
theorem insOuter_list (lt : α → α → Bool) (T J : α → α → Prop) (tr : ∀ a b c, T a b → T b c → T a c) (hJ : Jn lt T J) (E R : List α) : ∀ (N : Nat) (A B : List α), B.length = N → A.Pairwise T → B.Pairwise J → (∀ a ∈ A, ∀ b ∈ B, J a b) →
    ∃ Z, Z.Perm (A ++ B) ∧ Z.Pairwise T ∧ insOuter lt E.length (E.length + A.length + B.length) (E.length + A.length) (E ++ A ++ B ++ R).toArray = (E ++ Z ++ R).toArray := by
  intro N
  induction N with
  | zero =>
    intro A B h hA _ _
    have e : B = [] := List.length_eq_zero_iff.1 h
    subst e
    exact ⟨A, by simp, hA, by rw [insOuter_stop _ _ _ _ _ (by simp)]; simp⟩
  | succ N ih =>
    intro A B h hA hB hAB
    obtain ⟨x, B', rfl⟩ : ∃ x B', B = x :: B' := List.exists_cons_of_ne_nil (fun e => by rw [e] at h; simp at h)
    obtain ⟨A1, A2, rfl, h1, h2, h3⟩ := insInner_list lt E x A.length A (B' ++ R) rfl
    have hB' := List.pairwise_cons.1 hB
    have hA' := List.pairwise_append.1 hA
    have hP : (A1 ++ [x] ++ A2).Pairwise T := by
      refine List.pairwise_append.2 ⟨pw_join tr hA'.1 (by simp) (fun u v hu hv => ?_), hA'.2.1, fun u hu v hv => ?_⟩
      · have ev : v = x := by simpa using hv.symm
        subst ev
        exact (hJ u v (hAB u (List.mem_append_left _ (List.mem_of_getLast? hu)) v (by simp))).1 (h3 u hu)
      · rcases List.mem_append.1 hu with hu | hu
        · exact hA'.2.2 u hu v hv
        · have eu : u = x := by simpa using hu
          subst eu
          exact (hJ v u (hAB v (List.mem_append_right _ hv) u (by simp))).2 (h2 v hv)
    have hperm : (A1 ++ [x] ++ A2).Perm (A1 ++ A2 ++ [x]) := by
      rw [List.append_assoc, List.append_assoc]
      exact List.Perm.append_left _ List.perm_append_comm
    obtain ⟨Z, z1, z2, z3⟩ := ih (A1 ++ [x] ++ A2) B' (by simpa using h) hP hB'.2 (fun a ha b hb => by
      rcases List.mem_append.1 (hperm.mem_iff.1 ha) with ha | ha
      · exact hAB a ha b (by simp [hb])
      · have ea : a = x := by simpa using ha
        subst ea
        exact hB'.1 b hb)
    refine ⟨Z, z1.trans ?_, z2, ?_⟩
    · rw [show A1 ++ A2 ++ x :: B' = (A1 ++ A2 ++ [x]) ++ B' by simp]
      exact hperm.append_right B'
    · rw [insOuter_go _ _ _ _ _ (by simp)]
      have e1 : E ++ (A1 ++ A2) ++ x :: B' ++ R = E ++ (A1 ++ A2) ++ [x] ++ (B' ++ R) := by simp
      rw [e1, h1]
      rw [show E ++ A1 ++ [x] ++ A2 ++ (B' ++ R) = E ++ (A1 ++ [x] ++ A2) ++ B' ++ R by simp]
      have l1 : (A1 ++ [x] ++ A2).length = (A1 ++ A2).length + 1 := by simp <;> omega
      rw [l1] at z3
      rw [show E.length + (A1 ++ A2).length + (x :: B').length = E.length + ((A1 ++ A2).length + 1) + B'.length by simp <;> omega, show E.length + (A1 ++ A2).length + 1 = E.length + ((A1 ++ A2).length + 1) by omega]
      exact z3
theorem insertion_list (lt : α → α → Bool) (T J : α → α → Prop) (tr : ∀ a b c, T a b → T b c → T a c) (hJ : Jn lt T J) (E C R : List α) (hC : C.Pairwise J) :
    ∃ Z, Z.Perm C ∧ Z.Pairwise T ∧ Sort.insertionSort lt (E ++ C ++ R).toArray E.length (E.length + C.length) = (E ++ Z ++ R).toArray := by
  cases C with
  | nil => exact ⟨[], List.Perm.refl _, by simp, by unfold Sort.insertionSort; rw [insOuter_stop _ _ _ _ _ (by simp <;> omega)]⟩
  | cons x B =>
    have hB := List.pairwise_cons.1 hC
    obtain ⟨Z, z1, z2, z3⟩ := insOuter_list lt T J tr hJ E R B.length [x] B rfl (by simp) hB.2 (fun a ha b hb => by
      have ea : a = x := by simpa using ha
      subst ea
      exact hB.1 b hb)
    refine ⟨Z, z1, z2, ?_⟩
    unfold Sort.insertionSort
    have e : E ++ [x] ++ B ++ R = E ++ x :: B ++ R := by simp
    rw [e] at z3
    rw [show E.length + (x :: B).length = E.length + [x].length + B.length by simp <;> omega]
    exact z3
end Go.Proofs.YtehamdkjdbaceaaDoor.so
