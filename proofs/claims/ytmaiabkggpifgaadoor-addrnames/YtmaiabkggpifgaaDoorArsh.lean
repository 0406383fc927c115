/- Shift as the reference has it, the corners of a box, which box is one, which cell stands ahead. Conditions: none, but where a theorem says so. -/
import Derived.Test.YtmaiabkggpifgaaDoorAmath
namespace Go.Proofs.YtmaiabkggpifgaaDoor.adr
open Go.RowKit
set_option maxHeartbeats 1000000 in
theorem in_any (c r : Int) (w : World) :
    Calls Tryd.prog 10 #[C c r] w fun e w' => e = .returned (.bool (isC c r)) ∧ Below w.heap.size w w' := by
  by_cases h1 : 1 ≤ c
  · by_cases h2 : c ≤ 26
    · by_cases h3 : 1 ≤ r
      · have e1 : isC c r = decide (r ≤ 99) := by unfold isC; simp [h1, h2, h3]
        rw [e1]
        clear e1
        go_enter Tryd.func10, Tryd.ntmps10
        go_wp2
        go_ret
        exact ⟨by simp, (Below.refl _ _).alloc (Nat.le_refl _) _⟩
      · have e1 : isC c r = false := by unfold isC; simp [h3]
        rw [e1]
        clear e1
        go_enter Tryd.func10, Tryd.ntmps10
        go_wp2
        go_ret
        exact ⟨rfl, (Below.refl _ _).alloc (Nat.le_refl _) _⟩
    · have e1 : isC c r = false := by unfold isC; simp [h2]
      rw [e1]
      clear e1
      go_enter Tryd.func10, Tryd.ntmps10
      go_wp2
      go_ret
      exact ⟨rfl, (Below.refl _ _).alloc (Nat.le_refl _) _⟩
  · have e1 : isC c r = false := by unfold isC; simp [h1]
    rw [e1]
    clear e1
    go_enter Tryd.func10, Tryd.ntmps10
    go_wp2
    go_ret
    exact ⟨rfl, (Below.refl _ _).alloc (Nat.le_refl _) _⟩

theorem sh_out {c r cols rows : Int} {fc fr : Bool} (h : isC c r = false) : shR c r fc fr cols rows = ⟨0, 0, false, false, false⟩ := by unfold shR; rw [if_neg (by simp [h])]
theorem sh_far {c r cols rows : Int} {fc fr : Bool} (h : isC c r = true) (h2 : isC (sum1 fc c cols) (sum1 fr r rows) = false) : shR c r fc fr cols rows = ⟨0, 0, false, false, false⟩ := by unfold shR; rw [if_pos h, if_neg (by simp [h2])]
theorem sh_near {c r cols rows : Int} {fc fr : Bool} (h : isC c r = true) (h2 : isC (sum1 fc c cols) (sum1 fr r rows) = true) : shR c r fc fr cols rows = ⟨sum1 fc c cols, sum1 fr r rows, fc, fr, true⟩ := by unfold shR; rw [if_pos h, if_pos h2]
theorem isC_col {c r : Int} (h : ¬ (1 ≤ c ∧ c ≤ 26)) : isC c r = false := by
  cases q : isC c r
  · rfl
  · exact absurd (isC_iff.1 q).1 h
theorem isC_row {c r : Int} (h : ¬ (1 ≤ r ∧ r ≤ 99)) : isC c r = false := by
  cases q : isC c r
  · rfl
  · exact absurd (isC_iff.1 q).2 h
abbrev rsPost (c r cols rows : Int) (fc fr : Bool) (w : World) (e : Ending) (w' : World) : Prop :=
  e = .returned (.tuple #[R (shR c r fc fr cols rows).c (shR c r fc fr cols rows).r (shR c r fc fr cols rows).fc (shR c r fc fr cols rows).fr, .bool (shR c r fc fr cols rows).ok]) ∧ Below w.heap.size w w'
set_option maxRecDepth 100000 in
set_option maxHeartbeats 4000000 in
theorem rshift_out (c r cols rows : Int) (fc fr : Bool) (w : World) (h : isC c r = false) :
    Calls Tryd.prog 15 #[R c r fc fr, .int .i64 cols, .int .i64 rows] w fun e w' => e = .returned (.tuple #[R 0 0 false false, .bool false]) ∧ Below w.heap.size w w' := by
  have HH : Hid (isC c r = false) := h
  clear h
  have hS := SS.start w c r fc fr
  go_enter Tryd.func15, Tryd.ntmps15
  go_wp2_with fail
  refine (in_any _ _ _).mono ?_
  rintro e w1 ⟨rfl, b1⟩
  rw [HH.out]
  replace hS := hS.next b1
  obtain ⟨⟨o0, o1, o2, o3⟩, p0, p1, p2, p3⟩ := cells_four hS.res
  have hB := hS.below
  go_wp2_with fail
  exact bodyPost_ret (v := .tuple #[R 0 0 false false, .bool false]) (by simp [results, Tryd.results15, go_sem, o0, o1, o2, o3]) rfl ⟨rfl, hB.trans (below4 (by omega))⟩
set_option maxRecDepth 100000 in
set_option maxHeartbeats 4000000 in
theorem rshift_cols (c r cols rows : Int) (fr : Bool) (w : World) (h : isC c r = true) (hc : cols < -26 ∨ 26 < cols) :
    Calls Tryd.prog 15 #[R c r false fr, .int .i64 cols, .int .i64 rows] w fun e w' => e = .returned (.tuple #[R 0 0 false false, .bool false]) ∧ Below w.heap.size w w' := by
  have HH : Hid (isC c r = true) := h
  clear h
  have hS := SS.start w c r false fr
  go_enter Tryd.func15, Tryd.ntmps15
  go_wp2_with fail
  refine (in_any _ _ _).mono ?_
  rintro e w1 ⟨rfl, b1⟩
  rw [HH.out]
  replace hS := hS.next b1
  obtain ⟨⟨q0, q1, q2, q3⟩, v0, v1, v2, v3⟩ := cells_four hS.own
  obtain ⟨⟨o0, o1, o2, o3⟩, p0, p1, p2, p3⟩ := cells_four hS.res
  have hB := hS.below
  rcases hc with hc | hc
  · go_wp2_with fail
    exact bodyPost_ret (v := .tuple #[R 0 0 false false, .bool false]) (by simp [results, Tryd.results15, go_sem, o0, o1, o2, o3]) rfl ⟨rfl, hB.trans (below4 (by omega))⟩
  · go_wp2_with fail
    exact bodyPost_ret (v := .tuple #[R 0 0 false false, .bool false]) (by simp [results, Tryd.results15, go_sem, o0, o1, o2, o3]) rfl ⟨rfl, hB.trans (below4 (by omega))⟩
set_option maxRecDepth 100000 in
set_option maxHeartbeats 4000000 in
theorem rshift_go (c r cols rows : Int) (fc fr : Bool) (w : World) (h : isC c r = true) (hc : fc = true ∨ (fc = false ∧ -26 ≤ cols ∧ cols ≤ 26)) (k0 : -9223372036854775808 ≤ rows) (k1 : rows ≤ 9223372036854775807)
    (c' r' : Int) (hsc : sum1 fc c cols = c') (hsr : sum1 fr r rows = r') :
    Calls Tryd.prog 15 #[R c r fc fr, .int .i64 cols, .int .i64 rows] w fun e w' => e = .returned (.tuple (shA c' r' fc fr)) ∧ Below w.heap.size w w' := by
  have HH : Hid (isC c r = true) := h
  obtain ⟨⟨i1, i2⟩, i3, i4⟩ := isC_iff.1 h
  clear h
  have HC : Hid (sum1 fc c cols = c') := hsc
  have HR : Hid (sum1 fr r rows = r') := hsr
  clear hsc hsr
  have hS := SS.start w c r fc fr
  go_enter Tryd.func15, Tryd.ntmps15
  go_upto_region 1 with fail
  go_cut [8] (fun s8 wx => s8 = .bool true ∧ SS w c r fc fr wx)
  case first =>
    go_wp2_with fail
    refine (in_any _ _ _).mono ?_
    rintro e w1 ⟨rfl, b1⟩
    rw [HH.out]
    go_wp2_with fail
    go_meet
    case rel => exact ⟨rfl, hS.next b1⟩
  case rest =>
  clear hS
  obtain ⟨rfl, hS⟩ := hcut
  go_upto_region 4 with fail
  go_cut [17] (fun s17 wx => s17 = .bool (!fc) ∧ wx = wc)
  case first =>
    obtain ⟨⟨o0, o1, o2, o3⟩, p0, p1, p2, p3⟩ := cells_four hS.own
    go_wp2_with fail
    go_meet
    case rel => exact ⟨rfl, rfl⟩
  case rest =>
  obtain ⟨rfl, rfl⟩ := hcut
  go_upto_if 17 with fail
  go_cut [] (fun wx => SS w c' r fc fr wx)
  case first =>
    obtain ⟨⟨o0, o1, o2, o3⟩, p0, p1, p2, p3⟩ := cells_four hS.own
    rcases hc with rfl | ⟨rfl, c1, c2⟩
    · go_wp2_with fail
      go_meet
      case rel => rw [← HC.out]; exact hS
    · go_wp2_with fail
      go_meet
      case rel => exact hS.set 0 _ (by rw [← HC.out]; unfold sum1; rw [if_neg (by simp), if_pos (by omega)]; rfl)
  case rest =>
  clear hS HC hc
  have hS := hcut
  clear hcut
  go_upto_region 8 with fail
  go_cut [34] (fun s34 wx => s34 = .bool (!fr) ∧ wx = wc)
  case first =>
    obtain ⟨⟨o0, o1, o2, o3⟩, p0, p1, p2, p3⟩ := cells_four hS.own
    go_wp2_with fail
    go_meet
    case rel => exact ⟨rfl, rfl⟩
  case rest =>
  obtain ⟨rfl, rfl⟩ := hcut
  go_upto_if 34 with fail
  have ⟨⟨o0, o1, o2, o3⟩, p0, p1, p2, p3⟩ := cells_four hS.own
  by_cases hf : fr = false ∧ (rows < -99 ∨ 99 < rows)
  · obtain ⟨rfl, hf⟩ := hf
    have HN : Hid (shA c' r' fc false = #[R 0 0 false false, .bool false]) := by
      unfold Hid shA
      rw [← HR.out, isC_row (c := c'), if_neg (by simp)]
      unfold sum1
      rw [if_neg (by simp)]
      split <;> omega
    obtain ⟨⟨g0, g1, g2, g3⟩, h0, h1, h2, h3⟩ := cells_four hS.res
    have hB := hS.below
    rcases hf with hf | hf
    · go_wp2_with fail
      exact bodyPost_ret (v := .tuple #[R 0 0 false false, .bool false]) (by simp [results, Tryd.results15, go_sem, g0, g1, g2, g3]) rfl ⟨by rw [HN.out], hB.trans (below4 (by omega))⟩
    · go_wp2_with fail
      exact bodyPost_ret (v := .tuple #[R 0 0 false false, .bool false]) (by simp [results, Tryd.results15, go_sem, g0, g1, g2, g3]) rfl ⟨by rw [HN.out], hB.trans (below4 (by omega))⟩
  clear o0 o1 o2 o3 p0 p1 p2 p3
  go_cut [] (fun wx => SS w c' r' fc fr wx)
  case first =>
    obtain ⟨⟨o0, o1, o2, o3⟩, p0, p1, p2, p3⟩ := cells_four hS.own
    cases fr
    · have g1 : -99 ≤ rows := by
        by_cases q : -99 ≤ rows
        · exact q
        · exact absurd ⟨rfl, Or.inl (by omega)⟩ hf
      have g2 : rows ≤ 99 := by
        by_cases q : rows ≤ 99
        · exact q
        · exact absurd ⟨rfl, Or.inr (by omega)⟩ hf
      clear hf
      go_wp2_with fail
      go_meet
      case rel => exact hS.set 1 _ (by rw [← HR.out]; unfold sum1; rw [if_neg (by simp), if_pos (by omega)]; rfl)
    · clear hf
      go_wp2_with fail
      go_meet
      case rel => rw [← HR.out]; exact hS
  case rest =>
  clear hS HR hf
  have hS := hcut
  clear hcut
  have ⟨⟨q0, q1, q2, q3⟩, v0, v1, v2, v3⟩ := cells_four hS.own
  go_wp2_with fail
  refine (in_any _ _ _).mono ?_
  rintro e w1 ⟨rfl, b1⟩
  clear q0 q1 q2 q3 v0 v1 v2 v3
  replace hS := hS.next b1
  obtain ⟨⟨q0, q1, q2, q3⟩, v0, v1, v2, v3⟩ := cells_four hS.own
  obtain ⟨⟨o0, o1, o2, o3⟩, p0, p1, p2, p3⟩ := cells_four hS.res
  have hB := hS.below
  cases hq : isC c' r'
  · have HQ : Hid (isC c' r' = false) := hq
    clear hq
    go_wp2_with fail
    exact bodyPost_ret (v := .tuple #[R 0 0 false false, .bool false]) (by simp [results, Tryd.results15, go_sem, o0, o1, o2, o3]) rfl ⟨by unfold shA; rw [HQ.out]; rfl, hB.trans (below4 (by omega))⟩
  · have HQ : Hid (isC c' r' = true) := hq
    clear hq
    go_wp2_with fail
    exact bodyPost_ret (v := .tuple #[R c' r' fc fr, .bool true]) (by simp [results, Tryd.results15, go_sem, o0, o1, o2, o3]) rfl ⟨by unfold shA; rw [HQ.out]; rfl, hB.trans (below4 (by omega))⟩
theorem rshift_any (c r cols rows : Int) (fc fr : Bool) (w : World) (a0 : -9223372036854775808 ≤ cols) (a1 : cols ≤ 9223372036854775807) (k0 : -9223372036854775808 ≤ rows) (k1 : rows ≤ 9223372036854775807) :
    Calls Tryd.prog 15 #[R c r fc fr, .int .i64 cols, .int .i64 rows] w (rsPost c r cols rows fc fr w) := by
  unfold rsPost
  cases h : isC c r
  · rw [sh_out h]
    exact rshift_out c r cols rows fc fr w h
  by_cases hc : fc = false ∧ (cols < -26 ∨ 26 < cols)
  · obtain ⟨rfl, hc⟩ := hc
    obtain ⟨⟨i1, i2⟩, i3, i4⟩ := isC_iff.1 h
    rw [sh_far h (isC_col (by unfold sum1; rw [if_neg (by simp)]; split <;> omega))]
    exact rshift_cols c r cols rows fr w h hc
  · have hc' : fc = true ∨ (fc = false ∧ -26 ≤ cols ∧ cols ≤ 26) := by
      cases fc
      · refine Or.inr ⟨rfl, ?_⟩
        by_cases q : -26 ≤ cols ∧ cols ≤ 26
        · exact q
        · exact absurd ⟨rfl, by omega⟩ hc
      · exact Or.inl rfl
    have hh := rshift_go c r cols rows fc fr w h hc' k0 k1 _ _ rfl rfl
    cases h2 : isC (sum1 fc c cols) (sum1 fr r rows)
    · rw [sh_far h h2]
      unfold shA at hh
      rw [if_neg (by simp [h2])] at hh
      exact hh
    · rw [sh_near h h2]
      unfold shA at hh
      rw [if_pos h2] at hh
      exact hh
end Go.Proofs.YtmaiabkggpifgaaDoor.adr
