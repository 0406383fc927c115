/- Shift: a ref so far further, for every ref and every step. Conditions: none. -/
import Derived.Test.YtmaiabkggpifgaaDoorAref
namespace Go.Proofs.YtmaiabkggpifgaaDoor.adr
open Go.RowKit
/-- A block of a ref, the call's own, and a second one. -/
structure SS (w : World) (c r : Int) (fc fr : Bool) (wx : World) : Prop where
  own : wx.heap[w.heap.size]? = some (.cells #[.int .i64 c, .int .i64 r, .bool fc, .bool fr] 25 (0, 0))
  res : wx.heap[w.heap.size + 1]? = some (.cells #[.int .i64 0, .int .i64 0, .bool false, .bool false] 25 (0, 0))
  below : Below w.heap.size w wx
theorem SS.start (w : World) (c r : Int) (fc fr : Bool) : SS w c r fc fr ((w.alloc (.cells #[.int .i64 c, .int .i64 r, .bool fc, .bool fr] 25)).alloc (.cells #[.int .i64 0, .int .i64 0, .bool false, .bool false] 25)) :=
  ⟨by rw [Below.heap_alloc _ _ _ (by simp), heap_at _ _ _ rfl], heap_at _ _ _ (by simp), ((Below.refl _ _).alloc (Nat.le_refl _) _).alloc (by simp) _⟩
section
variable {w wx : World} {c r : Int} {fc fr : Bool}
theorem SS.lt (h : SS w c r fc fr wx) : w.heap.size + 1 < wx.heap.size := lt_of_block h.res
theorem SS.next {wy : World} (h : SS w c r fc fr wx) (hb : Below wx.heap.size wx wy) : SS w c r fc fr wy := by
  have hl := h.lt
  refine ⟨?_, ?_, bnext h.below hb h.below.size⟩
  · rw [hb.block _ (by omega)]; exact h.own
  · rw [hb.block _ (by omega)]; exact h.res
theorem SS.set (h : SS w c r fc fr wx) (o : Nat) (u : Value) {c' r' : Int} {fc' fr' : Bool} (he : (#[.int .i64 c, .int .i64 r, .bool fc, .bool fr] : Array Value).setIfInBounds o u = #[.int .i64 c', .int .i64 r', .bool fc', .bool fr']) :
    SS w c' r' fc' fr' (wx.setCell ⟨w.heap.size, o, none⟩ u) :=
  ⟨by rw [block_setCell h.own, he], by rw [Below.heap_setCell _ _ _ _ (by simp)]; exact h.res, h.below.setCell (by simp) _⟩
end
theorem wrap_high {n : Int} (h : 9223372036854775807 < n) (h2 : n ≤ 27670116110564327423) : wrap64 n = n - 18446744073709551616 := by unfold wrap64; omega
/-- A number of the ref, so far further. -/
def sum1 (f : Bool) (c d : Int) : Int := if f = true then c else if c + d ≤ 9223372036854775807 then c + d else c + d - 18446744073709551616
set_option maxRecDepth 100000 in
set_option maxHeartbeats 4000000 in
theorem shift_out (c r cols rows : Int) (fc fr : Bool) (w : World) (h : isC c r = false) :
    Calls Tryd.prog 16 #[R c r fc fr, .int .i64 cols, .int .i64 rows] w fun e w' => e = .returned (.tuple #[R 0 0 false false, .bool false]) ∧ Below w.heap.size w w' := by
  have HH : Hid (isC c r = false) := h
  clear h
  have hS := SS.start w c r fc fr
  go_enter Tryd.func16, Tryd.ntmps16
  go_wp2_with fail
  refine (isCell_any _ _ _).mono ?_
  rintro e w1 ⟨rfl, b1⟩
  rw [HH.out]
  replace hS := hS.next b1
  obtain ⟨⟨o0, o1, o2, o3⟩, p0, p1, p2, p3⟩ := cells_four hS.res
  have hB := hS.below
  go_wp2_with fail
  exact bodyPost_ret (v := .tuple #[R 0 0 false false, .bool false]) (by simp [results, Tryd.results16, go_sem, o0, o1, o2, o3]) rfl ⟨rfl, hB.trans (below4 (by omega))⟩
def shA (c r : Int) (fc fr : Bool) : Array Value := if isC c r = true then #[R c r fc fr, .bool true] else #[R 0 0 false false, .bool false]
set_option maxRecDepth 100000 in
set_option maxHeartbeats 4000000 in
theorem shift_in (c r cols rows : Int) (fc fr : Bool) (w : World) (h : isC c r = true) (k0 : -9223372036854775808 ≤ cols) (k1 : cols ≤ 9223372036854775807) (l0 : -9223372036854775808 ≤ rows) (l1 : rows ≤ 9223372036854775807)
    (c' r' : Int) (hc : sum1 fc c cols = c') (hr : sum1 fr r rows = r') :
    Calls Tryd.prog 16 #[R c r fc fr, .int .i64 cols, .int .i64 rows] w fun e w' => e = .returned (.tuple (shA c' r' fc fr)) ∧ Below w.heap.size w w' := by
  have HH : Hid (isC c r = true) := h
  obtain ⟨⟨i1, i2⟩, i3, i4⟩ := isC_iff.1 h
  clear h
  have HC : Hid (sum1 fc c cols = c') := hc
  have HR : Hid (sum1 fr r rows = r') := hr
  clear hc hr
  have hS := SS.start w c r fc fr
  go_enter Tryd.func16, Tryd.ntmps16
  go_upto_region 1 with fail
  go_cut [11] (fun s11 wx => s11 = .bool false ∧ SS w c r fc fr wx)
  case first =>
    go_wp2_with fail
    refine (isCell_any _ _ _).mono ?_
    rintro e w1 ⟨rfl, b1⟩
    rw [HH.out]
    go_wp2_with fail
    go_meet
    case rel => exact ⟨rfl, hS.next b1⟩
  case rest =>
  clear hS
  obtain ⟨rfl, hS⟩ := hcut
  go_upto_region 3 with fail
  go_cut [15] (fun s15 wx => s15 = .bool (!fc) ∧ wx = wc)
  case first =>
    obtain ⟨⟨o0, o1, o2, o3⟩, p0, p1, p2, p3⟩ := cells_four hS.own
    go_wp2_with fail
    go_meet
    case rel => exact ⟨rfl, rfl⟩
  case rest =>
  obtain ⟨rfl, rfl⟩ := hcut
  go_upto_if 15 with fail
  go_cut [] (fun wx => SS w c' r fc fr wx)
  case first =>
    obtain ⟨⟨o0, o1, o2, o3⟩, p0, p1, p2, p3⟩ := cells_four hS.own
    cases fc
    · by_cases hv : c + cols ≤ 9223372036854775807
      · go_wp2_with fail
        go_meet
        case rel => exact hS.set 0 _ (by rw [← HC.out]; unfold sum1; rw [if_neg (by simp), if_pos hv]; rfl)
      · go_wp2_with fail
        go_meet
        case rel => exact hS.set 0 _ (by rw [wrap_high hv (by omega), ← HC.out]; unfold sum1; rw [if_neg (by simp), if_neg (by omega)]; rfl)
    · go_wp2_with fail
      go_meet
      case rel => rw [← HC.out]; exact hS
  case rest =>
  clear hS HC
  have hS := hcut
  clear hcut
  go_upto_region 5 with fail
  go_cut [25] (fun s25 wx => s25 = .bool (!fr) ∧ wx = wc)
  case first =>
    obtain ⟨⟨o0, o1, o2, o3⟩, p0, p1, p2, p3⟩ := cells_four hS.own
    go_wp2_with fail
    go_meet
    case rel => exact ⟨rfl, rfl⟩
  case rest =>
  obtain ⟨rfl, rfl⟩ := hcut
  go_upto_if 25 with fail
  go_cut [] (fun wx => SS w c' r' fc fr wx)
  case first =>
    obtain ⟨⟨o0, o1, o2, o3⟩, p0, p1, p2, p3⟩ := cells_four hS.own
    cases fr
    · by_cases hv : r + rows ≤ 9223372036854775807
      · go_wp2_with fail
        go_meet
        case rel => exact hS.set 1 _ (by rw [← HR.out]; unfold sum1; rw [if_neg (by simp), if_pos hv]; rfl)
      · go_wp2_with fail
        go_meet
        case rel => exact hS.set 1 _ (by rw [wrap_high hv (by omega), ← HR.out]; unfold sum1; rw [if_neg (by simp), if_neg (by omega)]; rfl)
    · go_wp2_with fail
      go_meet
      case rel => rw [← HR.out]; exact hS
  case rest =>
  clear hS HR
  have hS := hcut
  clear hcut
  have ⟨⟨q0, q1, q2, q3⟩, v0, v1, v2, v3⟩ := cells_four hS.own
  go_wp2_with fail
  refine (isCell_any _ _ _).mono ?_
  rintro e w1 ⟨rfl, b1⟩
  clear q0 q1 q2 q3 v0 v1 v2 v3
  replace hS := hS.next b1
  obtain ⟨⟨q0, q1, q2, q3⟩, v0, v1, v2, v3⟩ := cells_four hS.own
  obtain ⟨⟨o0, o1, o2, o3⟩, p0, p1, p2, p3⟩ := cells_four hS.res
  have hB := hS.below
  cases hq : isC c' r'
  · have HQ : Hid (isC c' r' = false) := hq
    clear hq
    go_wp2_with fail
    exact bodyPost_ret (v := .tuple #[R 0 0 false false, .bool false]) (by simp [results, Tryd.results16, go_sem, o0, o1, o2, o3]) rfl ⟨by unfold shA; rw [HQ.out]; rfl, hB.trans (below4 (by omega))⟩
  · have HQ : Hid (isC c' r' = true) := hq
    clear hq
    go_wp2_with fail
    exact bodyPost_ret (v := .tuple #[R c' r' fc fr, .bool true]) (by simp [results, Tryd.results16, go_sem, o0, o1, o2, o3]) rfl ⟨by unfold shA; rw [HQ.out]; rfl, hB.trans (below4 (by omega))⟩
/-- What Shift makes of a ref. -/
structure Sh where
  c : Int
  r : Int
  fc : Bool
  fr : Bool
  ok : Bool
def shR (c r : Int) (fc fr : Bool) (cols rows : Int) : Sh :=
  if isC c r = true then (if isC (sum1 fc c cols) (sum1 fr r rows) = true then ⟨sum1 fc c cols, sum1 fr r rows, fc, fr, true⟩ else ⟨0, 0, false, false, false⟩) else ⟨0, 0, false, false, false⟩
theorem shift_any (c r cols rows : Int) (fc fr : Bool) (w : World) (k0 : -9223372036854775808 ≤ cols) (k1 : cols ≤ 9223372036854775807) (l0 : -9223372036854775808 ≤ rows) (l1 : rows ≤ 9223372036854775807) :
    Calls Tryd.prog 16 #[R c r fc fr, .int .i64 cols, .int .i64 rows] w fun e w' => e = .returned (.tuple #[R (shR c r fc fr cols rows).c (shR c r fc fr cols rows).r (shR c r fc fr cols rows).fc (shR c r fc fr cols rows).fr, .bool (shR c r fc fr cols rows).ok]) ∧ Below w.heap.size w w' := by
  cases h : isC c r
  · have : shR c r fc fr cols rows = ⟨0, 0, false, false, false⟩ := by unfold shR; rw [if_neg (by simp [h])]
    rw [this]
    exact shift_out c r cols rows fc fr w h
  · have hh := shift_in c r cols rows fc fr w h k0 k1 l0 l1 _ _ rfl rfl
    cases h2 : isC (sum1 fc c cols) (sum1 fr r rows)
    · have : shR c r fc fr cols rows = ⟨0, 0, false, false, false⟩ := by unfold shR; rw [if_pos h, if_neg (by simp [h2])]
      rw [this]
      unfold shA at hh
      rw [if_neg (by simp [h2])] at hh
      exact hh
    · have : shR c r fc fr cols rows = ⟨sum1 fc c cols, sum1 fr r rows, fc, fr, true⟩ := by unfold shR; rw [if_pos h, if_pos h2]
      rw [this]
      unfold shA at hh
      rw [if_pos h2] at hh
      exact hh
end Go.Proofs.YtmaiabkggpifgaaDoor.adr
