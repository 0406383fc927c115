/- Box: the box of two cells; which box is one. Conditions: none. -/
import Derived.Test.YtmaiabkggpifgaaDoorAcorn
namespace Go.Proofs.YtmaiabkggpifgaaDoor.adr
open Go.RowKit
/-- Is it a box? -/
def bxB (a b c d : Int) : Bool := isC a b && isC c d && decide (a ≤ c) && decide (b ≤ d)
/-- The box's own block stands. -/
structure XS (w : World) (a b c d : Int) (wx : World) : Prop where
  own : wx.heap[w.heap.size]? = some (.cells #[.int .i64 a, .int .i64 b, .int .i64 c, .int .i64 d] 43 (0, 0))
  below : Below w.heap.size w wx
theorem XS.start (w : World) (a b c d : Int) : XS w a b c d (w.alloc (.cells #[.int .i64 a, .int .i64 b, .int .i64 c, .int .i64 d] 43)) := ⟨heap_at _ _ _ rfl, (Below.refl _ _).alloc (Nat.le_refl _) _⟩
theorem XS.next {w wx wy : World} {a b c d : Int} (h : XS w a b c d wx) (hb : Below wx.heap.size wx wy) : XS w a b c d wy :=
  ⟨by rw [hb.block _ (lt_of_block h.own)]; exact h.own, bnext h.below hb h.below.size⟩
set_option maxRecDepth 100000 in
set_option maxHeartbeats 4000000 in
theorem isBox_any (a b c d : Int) (w : World) :
    Calls Tryd.prog 32 #[X a b c d] w fun e w' => e = .returned (.bool (bxB a b c d)) ∧ Below w.heap.size w w' := by
  have hS := XS.start w a b c d
  cases h1 : isC a b
  · have e1 : bxB a b c d = false := by unfold bxB; rw [h1]; rfl
    have HH : Hid (isC a b = false) := h1
    rw [e1]
    clear h1 e1
    go_enter Tryd.func32, Tryd.ntmps32
    go_wp2_with fail
    refine (isCell_any _ _ _).mono ?_
    rintro e w1 ⟨rfl, b1⟩
    rw [HH.out]
    go_wp2_with fail
    go_ret
    exact ⟨rfl, (hS.next b1).below⟩
  have H1 : Hid (isC a b = true) := h1
  cases h2 : isC c d
  · have e1 : bxB a b c d = false := by unfold bxB; rw [h1, h2]; rfl
    have H2 : Hid (isC c d = false) := h2
    rw [e1]
    clear h1 h2 e1
    go_enter Tryd.func32, Tryd.ntmps32
    go_wp2_with fail
    refine (isCell_any _ _ _).mono ?_
    rintro e w1 ⟨rfl, b1⟩
    rw [H1.out]
    replace hS := hS.next b1
    obtain ⟨⟨o0, o1, o2, o3⟩, p0, p1, p2, p3⟩ := cells_four hS.own
    go_wp2_with fail
    refine (isCell_any _ _ _).mono ?_
    rintro e w2 ⟨rfl, b2⟩
    rw [H2.out]
    go_wp2_with fail
    go_ret
    exact ⟨rfl, (hS.next b2).below⟩
  have e1 : bxB a b c d = (decide (a ≤ c) && decide (b ≤ d)) := by unfold bxB; rw [h1, h2]; rfl
  have H2 : Hid (isC c d = true) := h2
  rw [e1]
  clear h1 h2 e1
  by_cases h3 : a ≤ c
  · rw [decide_eq_true h3, Bool.true_and]
    go_enter Tryd.func32, Tryd.ntmps32
    go_wp2_with fail
    refine (isCell_any _ _ _).mono ?_
    rintro e w1 ⟨rfl, b1⟩
    rw [H1.out]
    replace hS := hS.next b1
    have ⟨⟨o0, o1, o2, o3⟩, p0, p1, p2, p3⟩ := cells_four hS.own
    go_wp2_with fail
    refine (isCell_any _ _ _).mono ?_
    rintro e w2 ⟨rfl, b2⟩
    rw [H2.out]
    clear o0 o1 o2 o3 p0 p1 p2 p3
    replace hS := hS.next b2
    obtain ⟨⟨o0, o1, o2, o3⟩, p0, p1, p2, p3⟩ := cells_four hS.own
    go_wp2_with fail
    go_ret
    exact ⟨by simp, hS.below⟩
  · rw [decide_eq_false h3, Bool.false_and]
    go_enter Tryd.func32, Tryd.ntmps32
    go_wp2_with fail
    refine (isCell_any _ _ _).mono ?_
    rintro e w1 ⟨rfl, b1⟩
    rw [H1.out]
    replace hS := hS.next b1
    have ⟨⟨o0, o1, o2, o3⟩, p0, p1, p2, p3⟩ := cells_four hS.own
    go_wp2_with fail
    refine (isCell_any _ _ _).mono ?_
    rintro e w2 ⟨rfl, b2⟩
    rw [H2.out]
    clear o0 o1 o2 o3 p0 p1 p2 p3
    replace hS := hS.next b2
    obtain ⟨⟨o0, o1, o2, o3⟩, p0, p1, p2, p3⟩ := cells_four hS.own
    go_wp2_with fail
    go_ret
    exact ⟨rfl, hS.below⟩
set_option maxRecDepth 100000 in
set_option maxHeartbeats 4000000 in
theorem boxed_any (a b c d : Int) (w : World) :
    Calls Tryd.prog 19 #[X a b c d] w fun e w' => e = .returned (.bool (bxB a b c d)) ∧ Below w.heap.size w w' := by
  have hS := XS.start w a b c d
  obtain ⟨x, hx⟩ : ∃ x, isC a b = x := ⟨_, rfl⟩
  obtain ⟨y, hy⟩ : ∃ y, isC c d = y := ⟨_, rfl⟩
  have HX : Hid (isC a b = x) := hx
  have HY : Hid (isC c d = y) := hy
  have HB : Hid (bxB a b c d = (x && y && decide (a ≤ c) && decide (b ≤ d))) := by unfold Hid bxB; rw [hx, hy]
  clear hx hy
  go_enter Tryd.func19, Tryd.ntmps19
  go_wp2_with fail
  refine (in_any _ _ _).mono ?_
  rintro e w1 ⟨rfl, b1⟩
  rw [HX.out]
  replace hS := hS.next b1
  have ⟨⟨o0, o1, o2, o3⟩, p0, p1, p2, p3⟩ := cells_four hS.own
  go_wp2_with fail
  refine (in_any _ _ _).mono ?_
  rintro e w2 ⟨rfl, b2⟩
  rw [HY.out]
  clear o0 o1 o2 o3 p0 p1 p2 p3
  replace hS := hS.next b2
  obtain ⟨⟨o0, o1, o2, o3⟩, p0, p1, p2, p3⟩ := cells_four hS.own
  have hB := hS.below
  clear HX HY
  cases x
  · go_wp2_with fail
    go_ret
    exact ⟨by rw [HB.out]; rfl, hB⟩
  cases y
  · go_wp2_with fail
    go_ret
    exact ⟨by rw [HB.out]; rfl, hB⟩
  by_cases h3 : a ≤ c
  · have HB' : Hid (bxB a b c d = decide (b ≤ d)) := by unfold Hid; rw [HB.out]; simp [h3]
    clear HB
    go_wp2_with fail
    go_ret
    exact ⟨by rw [HB'.out]; simp, hB⟩
  · have HB' : Hid (bxB a b c d = false) := by unfold Hid; rw [HB.out]; simp [h3]
    clear HB
    go_wp2_with fail
    go_ret
    exact ⟨by rw [HB'.out]; rfl, hB⟩
/-- What Box has at hand. -/
structure TS (w : World) (ac ar bc br : Int) (wx : World) : Prop where
  a : wx.heap[w.heap.size]? = some (.cells #[.int .i64 ac, .int .i64 ar] 23 (0, 0))
  b : wx.heap[w.heap.size + 1]? = some (.cells #[.int .i64 bc, .int .i64 br] 23 (0, 0))
  res : wx.heap[w.heap.size + 2]? = some (.cells #[.int .i64 0, .int .i64 0, .int .i64 0, .int .i64 0] 43 (0, 0))
  below : Below w.heap.size w wx
theorem TS.start (w : World) (ac ar bc br : Int) : TS w ac ar bc br (((w.alloc (.cells #[.int .i64 ac, .int .i64 ar] 23)).alloc (.cells #[.int .i64 bc, .int .i64 br] 23)).alloc (.cells #[.int .i64 0, .int .i64 0, .int .i64 0, .int .i64 0] 43)) :=
  ⟨by rw [Below.heap_alloc _ _ _ (by simp; omega), Below.heap_alloc _ _ _ (by simp), heap_at _ _ _ rfl], by rw [Below.heap_alloc _ _ _ (by simp), heap_at _ _ _ (by simp)], heap_at _ _ _ (by simp), (((Below.refl _ _).alloc (Nat.le_refl _) _).alloc (by simp) _).alloc (by simp; omega) _⟩
theorem TS.next {w wx wy : World} {ac ar bc br : Int} (h : TS w ac ar bc br wx) (hb : Below wx.heap.size wx wy) : TS w ac ar bc br wy := by
  have hl := lt_of_block h.res
  refine ⟨?_, ?_, ?_, bnext h.below hb h.below.size⟩
  · rw [hb.block _ (by omega)]; exact h.a
  · rw [hb.block _ (by omega)]; exact h.b
  · rw [hb.block _ (by omega)]; exact h.res
theorem cells_two {w : World} {b : Nat} {a0 a1 : Value} {t : TypeId} (h : w.heap[b]? = some (.cells #[a0, a1] t (0, 0))) : w.cell? ⟨b, 0, none⟩ = some a0 ∧ w.cell? ⟨b, 1, none⟩ = some a1 := by
  simp [World.cell?, h]
/-- What Box answers. -/
def bxV (t : Bool) (ac ar bc br : Int) : Value := if t = true then X (min ac bc) (min ar br) (max ac bc) (max ar br) else X 0 0 0 0
set_option maxRecDepth 100000 in
set_option maxHeartbeats 4000000 in
theorem box_any (ac ar bc br : Int) (w : World) :
    Calls Tryd.prog 18 #[C ac ar, C bc br] w fun e w' => e = .returned (.tuple #[bxV (isC ac ar && isC bc br) ac ar bc br, ckc (isC ac ar && isC bc br)]) ∧ Below w.heap.size w w' := by
  have hS := TS.start w ac ar bc br
  obtain ⟨x, hx⟩ : ∃ x, isC ac ar = x := ⟨_, rfl⟩
  obtain ⟨y, hy⟩ : ∃ y, isC bc br = y := ⟨_, rfl⟩
  have HX : Hid (isC ac ar = x) := hx
  have HY : Hid (isC bc br = y) := hy
  rw [hx, hy]
  clear hx hy
  go_enter Tryd.func18, Tryd.ntmps18
  go_wp2_with fail
  refine (isCell_any _ _ _).mono ?_
  rintro e w1 ⟨rfl, b1⟩
  rw [HX.out]
  replace hS := hS.next b1
  have ⟨f0, f1⟩ := cells_two hS.a
  have ⟨g0, g1⟩ := cells_two hS.b
  have ⟨⟨o0, o1, o2, o3⟩, p0, p1, p2, p3⟩ := cells_four hS.res
  cases x
  · have hB := hS.below
    go_wp2_with fail
    exact bodyPost_ret (v := .tuple #[X 0 0 0 0, .iface 59 (.int .i64 1)]) (by simp [results, Tryd.results18, go_sem, o0, o1, o2, o3]) rfl ⟨rfl, hB.trans (below4 (by omega))⟩
  go_wp2_with fail
  refine (isCell_any _ _ _).mono ?_
  rintro e w2 ⟨rfl, b2⟩
  rw [HY.out]
  clear f0 f1 g0 g1 o0 o1 o2 o3 p0 p1 p2 p3
  replace hS := hS.next b2
  have ⟨f0, f1⟩ := cells_two hS.a
  have ⟨g0, g1⟩ := cells_two hS.b
  have ⟨⟨o0, o1, o2, o3⟩, p0, p1, p2, p3⟩ := cells_four hS.res
  have hB := hS.below
  cases y
  · go_wp2_with fail
    exact bodyPost_ret (v := .tuple #[X 0 0 0 0, .iface 59 (.int .i64 1)]) (by simp [results, Tryd.results18, go_sem, o0, o1, o2, o3]) rfl ⟨rfl, hB.trans (below4 (by omega))⟩
  go_wp2_with fail
  exact bodyPost_ret (v := .tuple #[X (min ac bc) (min ar br) (max ac bc) (max ar br), .nilIface]) (by simp [results, Tryd.results18, go_sem, o0, o1, o2, o3]) rfl ⟨rfl, hB.trans (below4 (by omega))⟩
end Go.Proofs.YtmaiabkggpifgaaDoor.adr
