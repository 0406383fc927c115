/- Package addr: Box, and the cells of a box, as the program makes them. Conditions: as each theorem says. -/
import Derived.Test.YtoebppmagkijjaaGreatDoorArow
import Derived.Test.YtoebppmagkijjaaGreatDoorEt
import Derived.OwnWalk
namespace Go.Proofs.YtoebppmagkijjaaGreatDoor.adr
open Go.RowKit
abbrev X (a b c d : Int) : Value := .agg #[.int .i64 a, .int .i64 b, .int .i64 c, .int .i64 d]
theorem lt_of_block {w : World} {b : Nat} {o : Obj} (h : w.heap[b]? = some o) : b < w.heap.size := (Array.getElem?_eq_some_iff.1 h).1
/-- Is it a box? -/
def bxB (a b c d : Int) : Bool := isC a b && isC c d && decide (a ≤ c) && decide (b ≤ d)
/-- The box's own block stands. -/
structure XS (w : World) (a b c d : Int) (wx : World) : Prop where
  own : wx.heap[w.heap.size]? = some (.cells #[.int .i64 a, .int .i64 b, .int .i64 c, .int .i64 d] 90 (0, 0))
  below : Below w.heap.size w wx
theorem XS.start (w : World) (a b c d : Int) : XS w a b c d (w.alloc (.cells #[.int .i64 a, .int .i64 b, .int .i64 c, .int .i64 d] 90)) := ⟨heap_at _ _ _ rfl, (Below.refl _ _).alloc (Nat.le_refl _) _⟩
theorem XS.next {w wx wy : World} {a b c d : Int} (h : XS w a b c d wx) (hb : Below wx.heap.size wx wy) : XS w a b c d wy :=
  ⟨by rw [hb.block _ (lt_of_block h.own)]; exact h.own, bnext h.below hb h.below.size⟩
set_option maxRecDepth 100000 in
set_option maxHeartbeats 4000000 in
theorem isBox_any (a b c d : Int) (w : World) :
    Calls Tryz.prog 292 #[X a b c d] w fun e w' => e = .returned (.bool (bxB a b c d)) ∧ Below w.heap.size w w' := by
  have hS := XS.start w a b c d
  cases h1 : isC a b
  · have e1 : bxB a b c d = false := by unfold bxB; rw [h1]; rfl
    have HH : Hid (isC a b = false) := h1
    rw [e1]
    clear h1 e1
    go_enter Tryz.func292, Tryz.ntmps292
    go_wp2_with fail
    refine (isCell_any _ _ _).mono ?_
    rintro e w1 ⟨rfl, b1⟩
    rw [HH.out]
    go_wp2_with fail
    go_ret
    exact ⟨rfl, (hS.next b1).below⟩
  have H1 : Hid (isC a b = true) := h1
  cases h2 : isC c d
  · have e1 : bxB a b c d = false := by unfold bxB; rw [h1, h2]; rfl
    have H2 : Hid (isC c d = false) := h2
    rw [e1]
    clear h1 h2 e1
    go_enter Tryz.func292, Tryz.ntmps292
    go_wp2_with fail
    refine (isCell_any _ _ _).mono ?_
    rintro e w1 ⟨rfl, b1⟩
    rw [H1.out]
    replace hS := hS.next b1
    obtain ⟨⟨o0, o1, o2, o3⟩, p0, p1, p2, p3⟩ := cells_four hS.own
    go_wp2_with fail
    refine (isCell_any _ _ _).mono ?_
    rintro e w2 ⟨rfl, b2⟩
    rw [H2.out]
    go_wp2_with fail
    go_ret
    exact ⟨rfl, (hS.next b2).below⟩
  have e1 : bxB a b c d = (decide (a ≤ c) && decide (b ≤ d)) := by unfold bxB; rw [h1, h2]; rfl
  have H2 : Hid (isC c d = true) := h2
  rw [e1]
  clear h1 h2 e1
  by_cases h3 : a ≤ c
  · rw [decide_eq_true h3, Bool.true_and]
    go_enter Tryz.func292, Tryz.ntmps292
    go_wp2_with fail
    refine (isCell_any _ _ _).mono ?_
    rintro e w1 ⟨rfl, b1⟩
    rw [H1.out]
    replace hS := hS.next b1
    have ⟨⟨o0, o1, o2, o3⟩, p0, p1, p2, p3⟩ := cells_four hS.own
    go_wp2_with fail
    refine (isCell_any _ _ _).mono ?_
    rintro e w2 ⟨rfl, b2⟩
    rw [H2.out]
    clear o0 o1 o2 o3 p0 p1 p2 p3
    replace hS := hS.next b2
    obtain ⟨⟨o0, o1, o2, o3⟩, p0, p1, p2, p3⟩ := cells_four hS.own
    go_wp2_with fail
    go_ret
    exact ⟨by simp, hS.below⟩
  · rw [decide_eq_false h3, Bool.false_and]
    go_enter Tryz.func292, Tryz.ntmps292
    go_wp2_with fail
    refine (isCell_any _ _ _).mono ?_
    rintro e w1 ⟨rfl, b1⟩
    rw [H1.out]
    replace hS := hS.next b1
    have ⟨⟨o0, o1, o2, o3⟩, p0, p1, p2, p3⟩ := cells_four hS.own
    go_wp2_with fail
    refine (isCell_any _ _ _).mono ?_
    rintro e w2 ⟨rfl, b2⟩
    rw [H2.out]
    clear o0 o1 o2 o3 p0 p1 p2 p3
    replace hS := hS.next b2
    obtain ⟨⟨o0, o1, o2, o3⟩, p0, p1, p2, p3⟩ := cells_four hS.own
    go_wp2_with fail
    go_ret
    exact ⟨rfl, hS.below⟩
/-- What Box has at hand. -/
structure TS (w : World) (ac ar bc br : Int) (wx : World) : Prop where
  a : wx.heap[w.heap.size]? = some (.cells #[.int .i64 ac, .int .i64 ar] 23 (0, 0))
  b : wx.heap[w.heap.size + 1]? = some (.cells #[.int .i64 bc, .int .i64 br] 23 (0, 0))
  res : wx.heap[w.heap.size + 2]? = some (.cells #[.int .i64 0, .int .i64 0, .int .i64 0, .int .i64 0] 90 (0, 0))
  below : Below w.heap.size w wx
theorem TS.start (w : World) (ac ar bc br : Int) : TS w ac ar bc br (((w.alloc (.cells #[.int .i64 ac, .int .i64 ar] 23)).alloc (.cells #[.int .i64 bc, .int .i64 br] 23)).alloc (.cells #[.int .i64 0, .int .i64 0, .int .i64 0, .int .i64 0] 90)) :=
  ⟨by rw [Below.heap_alloc _ _ _ (by simp; omega), Below.heap_alloc _ _ _ (by simp), heap_at _ _ _ rfl], by rw [Below.heap_alloc _ _ _ (by simp), heap_at _ _ _ (by simp)], heap_at _ _ _ (by simp), (((Below.refl _ _).alloc (Nat.le_refl _) _).alloc (by simp) _).alloc (by simp; omega) _⟩
theorem TS.next {w wx wy : World} {ac ar bc br : Int} (h : TS w ac ar bc br wx) (hb : Below wx.heap.size wx wy) : TS w ac ar bc br wy := by
  have hl := lt_of_block h.res
  refine ⟨?_, ?_, ?_, bnext h.below hb h.below.size⟩
  · rw [hb.block _ (by omega)]; exact h.a
  · rw [hb.block _ (by omega)]; exact h.b
  · rw [hb.block _ (by omega)]; exact h.res
theorem cells_two {w : World} {b : Nat} {a0 a1 : Value} {t : TypeId} (h : w.heap[b]? = some (.cells #[a0, a1] t (0, 0))) : w.cell? ⟨b, 0, none⟩ = some a0 ∧ w.cell? ⟨b, 1, none⟩ = some a1 := by
  simp [World.cell?, h]
/-- What Box answers. -/
def bxV (t : Bool) (ac ar bc br : Int) : Value := if t = true then X (min ac bc) (min ar br) (max ac bc) (max ar br) else X 0 0 0 0
set_option maxRecDepth 100000 in
set_option maxHeartbeats 4000000 in
theorem box_any (ac ar bc br : Int) (w : World) :
    Calls Tryz.prog 288 #[C ac ar, C bc br] w fun e w' => e = .returned (.tuple #[bxV (isC ac ar && isC bc br) ac ar bc br, ckc (isC ac ar && isC bc br)]) ∧ Below w.heap.size w w' := by
  have hS := TS.start w ac ar bc br
  obtain ⟨x, hx⟩ : ∃ x, isC ac ar = x := ⟨_, rfl⟩
  obtain ⟨y, hy⟩ : ∃ y, isC bc br = y := ⟨_, rfl⟩
  have HX : Hid (isC ac ar = x) := hx
  have HY : Hid (isC bc br = y) := hy
  rw [hx, hy]
  clear hx hy
  go_enter Tryz.func288, Tryz.ntmps288
  go_wp2_with fail
  refine (isCell_any _ _ _).mono ?_
  rintro e w1 ⟨rfl, b1⟩
  rw [HX.out]
  replace hS := hS.next b1
  have ⟨f0, f1⟩ := cells_two hS.a
  have ⟨g0, g1⟩ := cells_two hS.b
  have ⟨⟨o0, o1, o2, o3⟩, p0, p1, p2, p3⟩ := cells_four hS.res
  cases x
  · have hB := hS.below
    go_wp2_with fail
    exact bodyPost_ret (v := .tuple #[X 0 0 0 0, .iface 62 (.int .i64 1)]) (by simp [results, Tryz.results288, go_sem, o0, o1, o2, o3]) rfl ⟨rfl, hB.trans (below4 (by omega))⟩
  go_wp2_with fail
  refine (isCell_any _ _ _).mono ?_
  rintro e w2 ⟨rfl, b2⟩
  rw [HY.out]
  clear f0 f1 g0 g1 o0 o1 o2 o3 p0 p1 p2 p3
  replace hS := hS.next b2
  have ⟨f0, f1⟩ := cells_two hS.a
  have ⟨g0, g1⟩ := cells_two hS.b
  have ⟨⟨o0, o1, o2, o3⟩, p0, p1, p2, p3⟩ := cells_four hS.res
  have hB := hS.below
  cases y
  · go_wp2_with fail
    exact bodyPost_ret (v := .tuple #[X 0 0 0 0, .iface 62 (.int .i64 1)]) (by simp [results, Tryz.results288, go_sem, o0, o1, o2, o3]) rfl ⟨rfl, hB.trans (below4 (by omega))⟩
  go_wp2_with fail
  exact bodyPost_ret (v := .tuple #[X (min ac bc) (min ar br) (max ac bc) (max ar br), .nilIface]) (by simp [results, Tryz.results288, go_sem, o0, o1, o2, o3]) rfl ⟨rfl, hB.trans (below4 (by omega))⟩
/-- k cells of a row, and m whole rows, as the cells of memory have them. -/
def rowL (r c0 : Int) : Nat → List Value
  | 0 => []
  | k + 1 => rowL r c0 k ++ [.int .i64 (c0 + k), .int .i64 r]
def boxL (c0 r0 : Int) (wd : Nat) : Nat → List Value
  | 0 => []
  | m + 1 => boxL c0 r0 wd m ++ rowL (r0 + m) c0 wd
theorem info23 : (Tryz.prog.info? 23).map (fun i => (i.zero, i.size, i.bytes)) = some (some (C 0 0), 2, 16) := by kernel_rfl
theorem info_split {P : Program} {e : TypeId} {z : Value} {s b : Nat} (h : (P.info? e).map (fun i => (i.zero, i.size, i.bytes)) = some (some z, s, b)) : ∃ i, P.info? e = some i ∧ i.zero = some z ∧ i.size = s ∧ i.bytes = b := by
  cases hi : P.info? e with
  | none => rw [hi] at h; cases h
  | some i =>
    rw [hi] at h
    simp at h
    exact ⟨i, rfl, h.1, h.2.1, h.2.2⟩
theorem own_block {w : World} {base n : Nat} {v : Value} {xs : List Value} (h : w.ownsRow base 23 2 v n xs) {w' : World} (hb : Below w.heap.size w w') : w'.ownsRow base 23 2 v n xs := by
  obtain ⟨h0, h | ⟨g, cap, cur, h1, h2, h3, h4⟩⟩ := h
  · exact ⟨h0, Or.inl h⟩
  · exact ⟨h0, Or.inr ⟨g, cap, cur, h1, h2, by rw [hb.block g (lt_of_block h3)]; exact h3, h4⟩⟩
theorem own_mono {w : World} {base base' n : Nat} {v : Value} {xs : List Value} (h : w.ownsRow base 23 2 v n xs) (hb : base' ≤ base) : w.ownsRow base' 23 2 v n xs := by
  obtain ⟨h0, h | ⟨g, cap, cur, h1, h2, h3, h4⟩⟩ := h
  · exact ⟨h0, Or.inl h⟩
  · exact ⟨h0, Or.inr ⟨g, cap, cur, h1, Nat.le_trans hb h2, h3, h4⟩⟩
theorem bx_yes {a b : Int} {wd ht : Nat} (a1 : 1 ≤ a) (b1 : 1 ≤ b) (c1 : a + wd ≤ 27) (d1 : b + ht ≤ 100) (w1 : 1 ≤ wd) (h1 : 1 ≤ ht) : bxB a b (a + wd - 1) (b + ht - 1) = true := by
  unfold bxB
  rw [isC_iff.2 ⟨by omega, by omega⟩, isC_iff.2 ⟨by omega, by omega⟩, decide_eq_true (by omega), decide_eq_true (by omega)]
  rfl
set_option maxRecDepth 100000 in
set_option maxHeartbeats 8000000 in
theorem pcells_yes (a b : Int) (wd ht : Nat) (w : World) (a1 : 1 ≤ a) (b1 : 1 ≤ b) (c1 : a + wd ≤ 27) (d1 : b + ht ≤ 100) (g1 : 1 ≤ wd) (g2 : 1 ≤ ht) :
    Calls Tryz.prog 272 #[X a b (a + wd - 1) (b + ht - 1)] w fun e w' => (∃ v, e = .returned (.tuple #[v, .nilIface]) ∧ w'.ownsRow w.heap.size 23 2 v (ht * wd) (boxL a b wd ht)) ∧ Below w.heap.size w w' := by
  have hS := XS.start w a b (a + wd - 1) (b + ht - 1)
  obtain ⟨i0, hi, hz0, hz1, hz2⟩ := info_split info23
  have HH : Hid (bxB a b (a + wd - 1) (b + ht - 1) = true) := bx_yes a1 b1 c1 d1 g1 g2
  go_enter Tryz.func272, Tryz.ntmps272
  go_upto_region 1 with fail
  go_cut [9] (fun s9 wx => s9 = .bool false ∧ XS w a b (a + wd - 1) (b + ht - 1) wx)
  case first =>
    go_wp2_with fail
    refine (isBox_any _ _ _ _ _).mono ?_
    rintro e w1 ⟨rfl, q1⟩
    rw [HH.out]
    go_wp2_with fail
    go_meet
    case rel => exact ⟨rfl, hS.next q1⟩
  case rest =>
  clear hS
  obtain ⟨rfl, hS⟩ := hcut
  have HS : Hid (XS w a b (a + wd - 1) (b + ht - 1) wc) := hS
  have hsz0 : w.heap.size < wc.heap.size := lt_of_block hS.own
  obtain ⟨⟨o0, o1, o2, o3⟩, p0, p1, p2, p3⟩ := cells_four hS.own
  have hmul : (a + wd - 1 - a + 1) * (b + ht - 1 - b + 1) = ((wd * ht : Nat) : Int) := by
    rw [show a + (wd : Int) - 1 - a + 1 = wd from by omega, show b + (ht : Int) - 1 - b + 1 = ht from by omega]
    rfl
  have hwh : wd * ht ≤ 2600 := by
    have h1 : wd * ht ≤ 26 * 99 := Nat.mul_le_mul (by omega) (by omega)
    omega
  generalize hw0 : wc = w0 at *
  go_upto_region 3 with fail
  go_wp2_with (first | (at_make; (refine wpList_make_own _ rfl _ _ 42 rfl (w.heap.size + 1) 23 i0 (C 0 0) 2 Tryz.underlying42 hi hz0 hz1 .i64 .i64 _ (wd * ht) rfl rfl ?m0 ?m1 ?m2 ?m3 ?_)))
  case m0 => simp
  case m1 => rw [hz2]; omega
  case m2 => unfold maxLen; omega
  case m3 => omega
  intro w5 hown hg
  have hBm : Below (w.heap.size + 1) w0 w5 := (Below.refl _ _).grown hg (by omega) (fun k hk => by cases hk)
  have e0 := hBm.cell (p := ⟨w.heap.size, 0, none⟩) (by simp)
  have e1 := hBm.cell (p := ⟨w.heap.size, 1, none⟩) (by simp)
  rw [o0] at e0
  rw [o1] at e1
  go_wp2_with fail
  clear e0 e1
  go_loopw [4, 5] (fun vl vr wr => ∃ m : Nat, m ≤ ht ∧ vr = .int .i64 (b + m) ∧ wr.ownsRow (w.heap.size + 1) 23 2 vl (m * wd) (boxL a b wd m) ∧ Below (w.heap.size + 1) w0 wr) (fun _ vr _ => (b + ht - intOf vr).toNat)
  case atStart => exact ⟨0, Nat.zero_le _, by simp, by simpa [boxL] using hown, hBm⟩
  case round =>
    clear hown hBm
    obtain ⟨m, hm, rfl, hown, hB⟩ := hrel
    have hS := HS.out
    have e0 := hB.cell (p := ⟨w.heap.size, 0, none⟩) (by simp)
    have e1 := hB.cell (p := ⟨w.heap.size, 1, none⟩) (by simp)
    have e2 := hB.cell (p := ⟨w.heap.size, 2, none⟩) (by simp)
    have e3 := hB.cell (p := ⟨w.heap.size, 3, none⟩) (by simp)
    rw [o0] at e0
    rw [o1] at e1
    rw [o2] at e2
    rw [o3] at e3
    have hbs := hB.size
    by_cases hlt : m < ht
    · have hdm : decide (b + (m : Int) ≤ b + (ht : Int) - 1) = true := by simp; omega
      go_wp2_with fail
      go_loopw [4, 6] (fun vl vc wq => ∃ k : Nat, k ≤ wd ∧ vc = .int .i64 (a + k) ∧ wq.ownsRow (w.heap.size + 1) 23 2 vl (m * wd + k) (boxL a b wd m ++ rowL (b + m) a k) ∧ Below (w.heap.size + 1) w0 wq) (fun _ vc _ => (a + wd - intOf vc).toNat)
      case atStart => exact ⟨0, Nat.zero_le _, by simp, by simpa [rowL] using hown, hB⟩
      case round =>
        clear hown hB e0 e1 e2 e3 hbs
        obtain ⟨k, hk, rfl, hown, hB⟩ := hrel
        have e0 := hB.cell (p := ⟨w.heap.size, 0, none⟩) (by simp)
        have e1 := hB.cell (p := ⟨w.heap.size, 1, none⟩) (by simp)
        have e2 := hB.cell (p := ⟨w.heap.size, 2, none⟩) (by simp)
        have e3 := hB.cell (p := ⟨w.heap.size, 3, none⟩) (by simp)
        rw [o0] at e0
        rw [o1] at e1
        rw [o2] at e2
        rw [o3] at e3
        have hbs := hB.size
        have hmw : m * wd + k ≤ 2600 := by
          have h1 : m * wd ≤ 99 * 26 := Nat.mul_le_mul (by omega) (by omega)
          omega
        by_cases hkl : k < wd
        · have hcap : (m * wd + k + 1) * 16 ≤ 140737488355328 := by omega
          go_wp2_with (first | (at_builtin; refine wpList_append_own _ rfl _ _ 42 rfl (w.heap.size + 1) 23 i0 (C 0 0) 2 16 Tryz.underlying42 hi hz0 hz1 hz2 rfl (by decide) _ _ _ rfl (hown.alloc _) ⟨wr.heap.size, 0, none⟩ 1 1 [.int .i64 (a + k), .int .i64 (b + m)] rfl rfl ?c1 ?c2 ?c3 ?c4 ?c5 ?_))
          case c1 =>
            intro j u hj
            match j, hj with
            | 0, hj => simp at hj; subst hj; simp [Addr.add]
            | 1, hj => simp at hj; subst hj; simp [Addr.add]
          case c2 =>
            intro u hu
            simp at hu
            rcases hu with rfl | rfl <;> rfl
          case c3 => unfold maxLen; omega
          case c4 => omega
          case c5 => simp; omega
          · intro v' w3 hown' hgrow _
            go_wp2_with fail
            have hb3 : Below (w.heap.size + 1) w0 w3 := (hB.alloc (by omega) _).grown hgrow (by simp; omega) (fun q hq => (hown.lt q hq).1)
            exact ⟨⟨k + 1, by omega, by congr 1; omega, hown', hb3⟩, by simp [intOf]; omega⟩
        · have hkw : k = wd := by omega
          subst hkw
          go_wp2_with fail
          exact ⟨⟨m + 1, by omega, by congr 1; omega, by rw [Nat.succ_mul]; exact hown, hB⟩, by simp [intOf]; omega⟩
    · have hmt : m = ht := by omega
      subst hmt
      go_wp2_with fail
      go_ret2
      exact ⟨⟨_, rfl, own_mono hown (by omega)⟩, HS.out.below.trans (hB.mono (by omega))⟩
end Go.Proofs.YtoebppmagkijjaaGreatDoor.adr
