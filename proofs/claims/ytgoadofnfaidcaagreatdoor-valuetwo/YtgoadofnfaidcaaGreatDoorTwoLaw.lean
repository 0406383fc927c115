/- The law ValueTwo: what it returns, whatever the operator and the two values' fields are. Conditions: the package variables hold what the program's text lays. -/
import Derived.Test.YtgoadofnfaidcaaGreatDoorPDisp
import Derived.Test.YtgoadofnfaidcaaGreatDoorMakesLaw
namespace Go.Proofs.YtgoadofnfaidcaaGreatDoor
open Go.RowKit
theorem PS.env {w wx : World} {k n : Int} {s : ByteArray} {k' n' : Int} {s' : ByteArray} (h : PS w k n s k' n' s' wx) (hE : Env w) : Env wx := hE.below h.below hE.size
theorem PS.alloc {w wx : World} {k n : Int} {s : ByteArray} {k' n' : Int} {s' : ByteArray} (h : PS w k n s k' n' s' wx) (o : Obj) : PS w k n s k' n' s' (wx.alloc o) := h.next ((Below.refl _ _).alloc (Nat.le_refl _) _)
theorem cmp21 : cmpV 1 2 nul 1 1 nul = 1 := by unfold cmpV cmpI; decide
set_option maxRecDepth 100000 in
set_option maxHeartbeats 8000000 in
theorem two_ff (op k n : Int) (s : ByteArray) (k' n' : Int) (s' : ByteArray) (w : World) (hv : isVal k n s = false) (hv' : isVal k' n' s' = false) :
    Calls Tryz.prog 4 #[.int .i64 op, V k n s, V k' n' s'] w fun e w' => e = .returned (.bool true) ∧ Below w.heap.size w w' := by
  have HV : Hid (isVal k n s = false) := hv
  have HV' : Hid (isVal k' n' s' = false) := hv'
  clear hv hv'
  have hS := PS.start w k n s k' n' s'
  go_enter Tryz.func4, Tryz.ntmps4
  go_wp2_with fail
  refine (rnum_any _ _).mono ?_
  rintro e w1 ⟨rfl, q1⟩
  replace hS := hS.next q1
  go_wp2_with fail
  refine (rnum_any _ _).mono ?_
  rintro e w2 ⟨rfl, q2⟩
  replace hS := hS.next q2
  go_wp2_with fail
  refine (compare_any _ _ _ _ _ _ _).mono ?_
  rintro e w3 ⟨rfl, q3⟩
  rw [cmp21]
  replace hS := hS.next q3
  obtain ⟨⟨o0, o1, o2⟩, p0, p1, p2⟩ := cells3 hS.a
  obtain ⟨⟨a0, a1, a2⟩, c0, c1, c2⟩ := cells3 hS.b
  go_wp2_with fail
  refine (is_any k n s _).mono ?_
  rintro e w4 ⟨rfl, q4⟩
  rw [HV.out]
  replace hS := hS.next q4
  clear o0 o1 o2 p0 p1 p2 a0 a1 a2 c0 c1 c2
  obtain ⟨⟨o0, o1, o2⟩, p0, p1, p2⟩ := cells3 hS.a
  obtain ⟨⟨a0, a1, a2⟩, c0, c1, c2⟩ := cells3 hS.b
  go_wp2_with fail
  refine (is_any k' n' s' _).mono ?_
  rintro e w5 ⟨rfl, q5⟩
  rw [HV'.out]
  replace hS := hS.next q5
  clear o0 o1 o2 p0 p1 p2 a0 a1 a2 c0 c1 c2
  clear q1 q2 q3 q4 q5
  have hB := hS.below
  go_wp2_with fail
  go_ret
  exact ⟨rfl, hB⟩
set_option maxRecDepth 100000 in
set_option maxHeartbeats 8000000 in
theorem two_ft (op k n : Int) (s : ByteArray) (k' n' : Int) (s' : ByteArray) (w : World) (hv : isVal k n s = false) (hv' : isVal k' n' s' = true) :
    Calls Tryz.prog 4 #[.int .i64 op, V k n s, V k' n' s'] w fun e w' => e = .returned (.bool true) ∧ Below w.heap.size w w' := by
  have HV : Hid (isVal k n s = false) := hv
  have HV' : Hid (isVal k' n' s' = true) := hv'
  clear hv hv'
  have hS := PS.start w k n s k' n' s'
  go_enter Tryz.func4, Tryz.ntmps4
  go_wp2_with fail
  refine (rnum_any _ _).mono ?_
  rintro e w1 ⟨rfl, q1⟩
  replace hS := hS.next q1
  go_wp2_with fail
  refine (rnum_any _ _).mono ?_
  rintro e w2 ⟨rfl, q2⟩
  replace hS := hS.next q2
  go_wp2_with fail
  refine (compare_any _ _ _ _ _ _ _).mono ?_
  rintro e w3 ⟨rfl, q3⟩
  rw [cmp21]
  replace hS := hS.next q3
  obtain ⟨⟨o0, o1, o2⟩, p0, p1, p2⟩ := cells3 hS.a
  obtain ⟨⟨a0, a1, a2⟩, c0, c1, c2⟩ := cells3 hS.b
  go_wp2_with fail
  refine (is_any k n s _).mono ?_
  rintro e w4 ⟨rfl, q4⟩
  rw [HV.out]
  replace hS := hS.next q4
  clear o0 o1 o2 p0 p1 p2 a0 a1 a2 c0 c1 c2
  obtain ⟨⟨o0, o1, o2⟩, p0, p1, p2⟩ := cells3 hS.a
  obtain ⟨⟨a0, a1, a2⟩, c0, c1, c2⟩ := cells3 hS.b
  go_wp2_with fail
  refine (is_any k' n' s' _).mono ?_
  rintro e w5 ⟨rfl, q5⟩
  rw [HV'.out]
  replace hS := hS.next q5
  clear o0 o1 o2 p0 p1 p2 a0 a1 a2 c0 c1 c2
  clear q1 q2 q3 q4 q5
  have hB := hS.below
  go_wp2_with fail
  go_ret
  exact ⟨rfl, hB⟩
set_option maxRecDepth 100000 in
set_option maxHeartbeats 8000000 in
theorem two_tf (op k n : Int) (s : ByteArray) (k' n' : Int) (s' : ByteArray) (w : World) (hv : isVal k n s = true) (hv' : isVal k' n' s' = false) :
    Calls Tryz.prog 4 #[.int .i64 op, V k n s, V k' n' s'] w fun e w' => e = .returned (.bool true) ∧ Below w.heap.size w w' := by
  have HV : Hid (isVal k n s = true) := hv
  have HV' : Hid (isVal k' n' s' = false) := hv'
  clear hv hv'
  have hS := PS.start w k n s k' n' s'
  go_enter Tryz.func4, Tryz.ntmps4
  go_wp2_with fail
  refine (rnum_any _ _).mono ?_
  rintro e w1 ⟨rfl, q1⟩
  replace hS := hS.next q1
  go_wp2_with fail
  refine (rnum_any _ _).mono ?_
  rintro e w2 ⟨rfl, q2⟩
  replace hS := hS.next q2
  go_wp2_with fail
  refine (compare_any _ _ _ _ _ _ _).mono ?_
  rintro e w3 ⟨rfl, q3⟩
  rw [cmp21]
  replace hS := hS.next q3
  obtain ⟨⟨o0, o1, o2⟩, p0, p1, p2⟩ := cells3 hS.a
  obtain ⟨⟨a0, a1, a2⟩, c0, c1, c2⟩ := cells3 hS.b
  go_wp2_with fail
  refine (is_any k n s _).mono ?_
  rintro e w4 ⟨rfl, q4⟩
  rw [HV.out]
  replace hS := hS.next q4
  clear o0 o1 o2 p0 p1 p2 a0 a1 a2 c0 c1 c2
  obtain ⟨⟨o0, o1, o2⟩, p0, p1, p2⟩ := cells3 hS.a
  obtain ⟨⟨a0, a1, a2⟩, c0, c1, c2⟩ := cells3 hS.b
  go_wp2_with fail
  refine (is_any k' n' s' _).mono ?_
  rintro e w5 ⟨rfl, q5⟩
  rw [HV'.out]
  replace hS := hS.next q5
  clear o0 o1 o2 p0 p1 p2 a0 a1 a2 c0 c1 c2
  clear q1 q2 q3 q4 q5
  have hB := hS.below
  go_wp2_with fail
  go_ret
  exact ⟨rfl, hB⟩
set_option maxRecDepth 100000 in
set_option maxHeartbeats 8000000 in
theorem two_yes (op k n : Int) (s : ByteArray) (k' n' : Int) (s' : ByteArray) (w : World) (hv : isVal k n s = true) (hv' : isVal k' n' s' = true) (hb : B64 n) (hb' : B64 n') (hE : Env w) :
    Calls Tryz.prog 4 #[.int .i64 op, V k n s, V k' n' s'] w fun e w' => e = .returned (.bool true) ∧ Below w.heap.size w w' := by
  obtain ⟨rk, rn, rs, hP, hR⟩ := two_agree op k n s k' n' s' hv hv' hb hb'
  obtain ⟨mk, mn, ms, hPm, hRm⟩ := mod_agree k n s k' n' s' hv hv' hb hb'
  have HP : Hid (Gives 18 #[.int .i64 op, V k n s, V k' n' s'] rk rn rs) := hP
  have HR : Hid (Gives 15 #[.int .i64 op, V k n s, V k' n' s'] rk rn rs) := hR
  have HPm : Hid (Gives 19 #[V k n s, V k' n' s'] mk mn ms) := hPm
  have HRm : Hid (Gives 20 #[V k n s, V k' n' s'] mk mn ms) := hRm
  have HV : Hid (isVal k n s = true) := hv
  have HV' : Hid (isVal k' n' s' = true) := hv'
  clear hv hv' hP hR hPm hRm hb hb'
  have hS := PS.start w k n s k' n' s'
  go_enter Tryz.func4, Tryz.ntmps4
  go_wp2_with fail
  refine (rnum_any _ _).mono ?_
  rintro e w1 ⟨rfl, q1⟩
  replace hS := hS.next q1
  go_wp2_with fail
  refine (rnum_any _ _).mono ?_
  rintro e w2 ⟨rfl, q2⟩
  replace hS := hS.next q2
  go_wp2_with fail
  refine (compare_any _ _ _ _ _ _ _).mono ?_
  rintro e w3 ⟨rfl, q3⟩
  rw [cmp21]
  replace hS := hS.next q3
  obtain ⟨⟨o0, o1, o2⟩, p0, p1, p2⟩ := cells3 hS.a
  obtain ⟨⟨a0, a1, a2⟩, c0, c1, c2⟩ := cells3 hS.b
  go_wp2_with fail
  refine (is_any k n s _).mono ?_
  rintro e w4 ⟨rfl, q4⟩
  rw [HV.out]
  replace hS := hS.next q4
  clear o0 o1 o2 p0 p1 p2 a0 a1 a2 c0 c1 c2
  obtain ⟨⟨o0, o1, o2⟩, p0, p1, p2⟩ := cells3 hS.a
  obtain ⟨⟨a0, a1, a2⟩, c0, c1, c2⟩ := cells3 hS.b
  go_wp2_with fail
  refine (is_any k' n' s' _).mono ?_
  rintro e w5 ⟨rfl, q5⟩
  rw [HV'.out]
  replace hS := hS.next q5
  clear o0 o1 o2 p0 p1 p2 a0 a1 a2 c0 c1 c2
  clear q1 q2 q3 q4 q5
  go_upto_region 8 with fail
  go_cut [10] (fun s10 wx => ∃ b10, s10 = ptr b10 ∧ wx.heap[b10]? = some (O3 rk rn rs) ∧ PS w k n s k' n' s' wx)
  case first =>
    obtain ⟨⟨o0, o1, o2⟩, p0, p1, p2⟩ := cells3 hS.a
    obtain ⟨⟨a0, a1, a2⟩, c0, c1, c2⟩ := cells3 hS.b
    go_wp2_with fail
    refine (HP.out _ (hS.env hE)).mono ?_
    rintro e w1 ⟨rfl, q1⟩
    replace hS := hS.next q1
    go_wp2_with fail
    go_meet
    case rel => exact ⟨_, rfl, hat _ _ _ rfl, hS.alloc _⟩
  case rest =>
  clear hS
  obtain ⟨b10, rfl, h10, hS⟩ := hcut
  go_upto_region 9 with fail
  go_cut [11] (fun s11 wx => ∃ b11, s11 = ptr b11 ∧ wx.heap[b11]? = some (O3 rk rn rs) ∧ wx.heap[b10]? = some (O3 rk rn rs) ∧ PS w k n s k' n' s' wx)
  case first =>
    obtain ⟨⟨o0, o1, o2⟩, p0, p1, p2⟩ := cells3 hS.a
    obtain ⟨⟨a0, a1, a2⟩, c0, c1, c2⟩ := cells3 hS.b
    go_wp2_with fail
    refine (HR.out _ (hS.env hE)).mono ?_
    rintro e w1 ⟨rfl, q1⟩
    replace hS := hS.next q1
    replace h10 := bk h10 q1
    go_wp2_with fail
    go_meet
    case rel => exact ⟨_, rfl, hat _ _ _ rfl, bkA h10 _, hS.alloc _⟩
  case rest =>
  clear hS h10
  obtain ⟨b11, rfl, h11, h10, hS⟩ := hcut
  go_upto_region 10 with fail
  go_cut [12] (fun s12 wx => ∃ b12, s12 = ptr b12 ∧ wx.heap[b12]? = some (O3 mk mn ms) ∧ wx.heap[b11]? = some (O3 rk rn rs) ∧ wx.heap[b10]? = some (O3 rk rn rs) ∧ PS w k n s k' n' s' wx)
  case first =>
    obtain ⟨⟨o0, o1, o2⟩, p0, p1, p2⟩ := cells3 hS.a
    obtain ⟨⟨a0, a1, a2⟩, c0, c1, c2⟩ := cells3 hS.b
    go_wp2_with fail
    refine (HPm.out _ (hS.env hE)).mono ?_
    rintro e w1 ⟨rfl, q1⟩
    replace hS := hS.next q1
    replace h10 := bk h10 q1
    replace h11 := bk h11 q1
    go_wp2_with fail
    go_meet
    case rel => exact ⟨_, rfl, hat _ _ _ rfl, bkA h11 _, bkA h10 _, hS.alloc _⟩
  case rest =>
  clear hS h10 h11
  obtain ⟨b12, rfl, h12, h11, h10, hS⟩ := hcut
  go_upto_region 11 with fail
  go_cut [13] (fun s13 wx => ∃ b13, s13 = ptr b13 ∧ wx.heap[b13]? = some (O3 mk mn ms) ∧ wx.heap[b12]? = some (O3 mk mn ms) ∧ wx.heap[b11]? = some (O3 rk rn rs) ∧ wx.heap[b10]? = some (O3 rk rn rs) ∧ PS w k n s k' n' s' wx)
  case first =>
    obtain ⟨⟨o0, o1, o2⟩, p0, p1, p2⟩ := cells3 hS.a
    obtain ⟨⟨a0, a1, a2⟩, c0, c1, c2⟩ := cells3 hS.b
    go_wp2_with fail
    refine (HRm.out _ (hS.env hE)).mono ?_
    rintro e w1 ⟨rfl, q1⟩
    replace hS := hS.next q1
    replace h10 := bk h10 q1
    replace h11 := bk h11 q1
    replace h12 := bk h12 q1
    go_wp2_with fail
    go_meet
    case rel => exact ⟨_, rfl, hat _ _ _ rfl, bkA h12 _, bkA h11 _, bkA h10 _, hS.alloc _⟩
  case rest =>
  clear hS h10 h11 h12
  obtain ⟨b13, rfl, h13, h12, h11, h10, hS⟩ := hcut
  obtain ⟨⟨o0, o1, o2⟩, p0, p1, p2⟩ := cells3 hS.a
  obtain ⟨⟨a0, a1, a2⟩, c0, c1, c2⟩ := cells3 hS.b
  go_wp2_with fail
  refine (compare_any _ _ _ _ _ _ _).mono ?_
  rintro e w6 ⟨rfl, q6⟩
  replace hS := hS.next q6
  replace h10 := bk h10 q6
  replace h11 := bk h11 q6
  replace h12 := bk h12 q6
  replace h13 := bk h13 q6
  clear o0 o1 o2 p0 p1 p2 a0 a1 a2 c0 c1 c2
  obtain ⟨⟨o0, o1, o2⟩, p0, p1, p2⟩ := cells3 hS.a
  obtain ⟨⟨a0, a1, a2⟩, c0, c1, c2⟩ := cells3 hS.b
  go_wp2_with fail
  refine (rcompare_any _ _ _ _ _ _ _).mono ?_
  rintro e w7 ⟨rfl, q7⟩
  replace hS := hS.next q7
  replace h10 := bk h10 q7
  replace h11 := bk h11 q7
  replace h12 := bk h12 q7
  replace h13 := bk h13 q7
  clear o0 o1 o2 p0 p1 p2 a0 a1 a2 c0 c1 c2
  obtain ⟨c, hc⟩ : ∃ c, cmpV k n s k' n' s' = c := ⟨_, rfl⟩
  rw [hc]
  clear hc q6 q7
  obtain ⟨⟨d0, d1, d2⟩, _, _, _⟩ := cells3 h10
  obtain ⟨⟨e0, e1, e2⟩, _, _, _⟩ := cells3 h11
  obtain ⟨⟨f0, f1, f2⟩, _, _, _⟩ := cells3 h12
  obtain ⟨⟨g0, g1, g2⟩, _, _, _⟩ := cells3 h13
  have hB := hS.below
  go_wp2_with fail
  go_ret
  exact ⟨by simp, hB⟩
theorem two_law (op k n : Int) (s : ByteArray) (k' n' : Int) (s' : ByteArray) (w : World) (hb : B64 n) (hb' : B64 n') (hE : Env w) :
    Calls Tryz.prog 4 #[.int .i64 op, V k n s, V k' n' s'] w fun e w' => e = .returned (.bool true) ∧ Below w.heap.size w w' := by
  cases h : isVal k n s <;> cases h' : isVal k' n' s'
  · exact two_ff op k n s k' n' s' w h h'
  · exact two_ft op k n s k' n' s' w h h'
  · exact two_tf op k n s k' n' s' w h h'
  · exact two_yes op k n s k' n' s' w h h' hb hb' hE
end Go.Proofs.YtgoadofnfaidcaaGreatDoor
