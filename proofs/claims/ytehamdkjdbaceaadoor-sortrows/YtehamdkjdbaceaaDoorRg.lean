
/- The document's Sort. Conditions: as each theorem says. -/
import Derived.Test.YtehamdkjdbaceaaDoorRf
import Derived.Deep.Upon
namespace Go.Proofs.YtehamdkjdbaceaaDoor.so
open Go.RowKit Go.Sort Go.Shelf
theorem add_pl (g o k : Nat) : (⟨g, o, none⟩ : Addr).add k = ⟨g, o + k, none⟩ := by
  unfold Addr.add
  by_cases h : k = 0 <;> simp [h]
/-- Some more behind a list. -/
theorem IV.many {w : World} {v : Value} {xs : List Int} {wx : World} (h : IV w v xs wx) {p : Option Addr} {ys : List Int} {a : Nat → Int} (c : Nat) (hy : IM wx p ys.length a) (ha : ∀ i, i < ys.length → a i = ys.getD i 0) (hl : xs.length + ys.length < 8796093022208) :
    ∃ v' w', (Builtin.append_ #[24, 24] 24 #[v, .slice p ys.length c]).run Tryd.prog wx = .ok v' w' ∧ IV w v' (xs ++ ys) w' := by
  obtain ⟨i0, hi, hz0, hz1, hz2⟩ := info_parts info3
  have hmax : maxLen = 9223372036854775807 := rfl
  by_cases h0 : ys = []
  · subst h0
    have hv : ∃ b l k, v = .slice b l k ∧ l ≤ k := by
      rcases h.own.2 with ⟨rfl, -⟩ | ⟨g, cap, cur, rfl, -, -, hc, -⟩
      · exact ⟨none, 0, 0, rfl, Nat.le_refl _⟩
      · exact ⟨_, _, _, rfl, hc⟩
    obtain ⟨b, l, k, rfl, hlk⟩ := hv
    refine ⟨_, wx, run_append_nothing (P := Tryd.prog) wx 24 24 24 3 i0 Tryd.underlying24 hi b l k hlk (.slice p 0 c) ?_, by rw [List.append_nil]; exact h⟩
    rw [hz1]
    cases p with
    | none => exact Src.ofNil wx Tryd.underlying24 c
    | some ad => exact Src.ofSlice wx Tryd.underlying24 ad 0 c [] (by simp) (by simp) (by simp)
  · have hl0 : 0 < ys.length := List.length_pos_iff.2 h0
    rcases hy with hy | ⟨g, o, rfl, hg, hc⟩
    · omega
    obtain ⟨g', cap', w', hr, ho, hgr, -, -⟩ := run_append_lies (P := Tryd.prog) (w := wx) 24 24 w.heap.size 3 i0 (.int .i64 0) 1 8 Tryd.underlying24 hi hz0 hz1 hz2 rfl (by decide) v xs.length (ints xs) h.own ⟨g, o, none⟩ ys.length c (ints ys) (by simp) (fun j u hu => by
      have hj : j < ys.length := by have := (List.getElem?_eq_some_iff.1 hu).1; simpa using this
      rw [add_pl, hc j hj, ha j hj, ← hu, List.getElem?_map, List.getElem?_eq_getElem hj, List.getD_eq_getElem?_getD, List.getElem?_eq_getElem hj]
      rfl) (by simp [Value.oneCell']) hl0 (by omega) (by omega) h.below.size _ rfl
    refine ⟨_, w', hr, ⟨?_, h.below.grown hgr h.below.size (fun q hq => (h.own.lt q hq).1)⟩⟩
    have e : ints (xs ++ ys) = ints xs ++ ints ys := by simp
    rw [e, List.length_append]
    exact ho
/-- One is put into a row from behind. -/
theorem ins_ok {T : Tb} {n : Nat} {c : Nat → Int} {d : Nat → Bool} {i k : Nat} {Z : List Nat} (hp : Z.Perm (List.range i)) (hw : Z.Pairwise (Tn T n c d)) (hk : k ≤ Z.length) (h1 : ∀ j (hj : j < Z.length), k ≤ j → crw (T.v i) (T.v Z[j]) c d n 0 < 0) (h2 : ∀ j (hj : j < Z.length), j + 1 = k → ¬ crw (T.v i) (T.v Z[j]) c d n 0 < 0) :
    (Z.take k ++ [i] ++ Z.drop k).Perm (List.range (i + 1)) ∧ (Z.take k ++ [i] ++ Z.drop k).Pairwise (Tn T n c d) := by
  have hlt : ∀ z ∈ Z, z < i := fun z hz => List.mem_range.1 (hp.mem_iff.1 hz)
  constructor
  · rw [List.range_succ]
    have e : (Z.take k ++ [i] ++ Z.drop k).Perm (Z ++ [i]) := by
      have e1 : Z ++ [i] = Z.take k ++ (Z.drop k ++ [i]) := by rw [← List.append_assoc, List.take_append_drop]
      rw [List.append_assoc, e1]
      exact List.Perm.append_left _ List.perm_append_comm
    exact e.trans (hp.append_right [i])
  · have hA : ∀ z ∈ Z.take k, Tn T n c d z i := by
      intro z hz
      obtain ⟨j, hj, e⟩ := List.getElem_of_mem hz
      rw [List.length_take] at hj
      rw [List.getElem_take] at e
      have hjl : j < Z.length := by omega
      have hk1 : k - 1 < Z.length := by omega
      have hlast : Tn T n c d Z[k - 1] i := by
        have := h2 (k - 1) hk1 (by omega)
        have hneg := crw_neg (T.v i) (T.v Z[k - 1]) c d n 0
        have hzi := hlt Z[k - 1] (List.getElem_mem hk1)
        unfold Tn
        omega
      by_cases e' : j = k - 1
      · subst e'; rw [← e]; exact hlast
      · have := List.pairwise_iff_getElem.1 hw j (k - 1) hjl hk1 (by omega)
        rw [← e]
        exact tn_trans this hlast
    have hB : ∀ z ∈ Z.drop k, Tn T n c d i z := by
      intro z hz
      obtain ⟨j, hj, e⟩ := List.getElem_of_mem hz
      rw [List.length_drop] at hj
      rw [List.getElem_drop] at e
      have := h1 (k + j) (by omega) (by omega)
      rw [e] at this
      exact .inl this
    have hAB : ∀ x ∈ Z.take k, ∀ y ∈ Z.drop k, Tn T n c d x y := fun x hx y hy => tn_trans (hA x hx) (hB y hy)
    rw [List.append_assoc, List.pairwise_append]
    refine ⟨hw.sublist (List.take_sublist _ _), ?_, ?_⟩
    · rw [List.singleton_append, List.pairwise_cons]
      exact ⟨hB, hw.sublist (List.drop_sublist _ _)⟩
    · intro x hx y hy
      rw [List.singleton_append, List.mem_cons] at hy
      rcases hy with e | hy
      · rw [e]; exact hA x hx
      · exact hAB x hx y hy
end Go.Proofs.YtehamdkjdbaceaaDoor.so
