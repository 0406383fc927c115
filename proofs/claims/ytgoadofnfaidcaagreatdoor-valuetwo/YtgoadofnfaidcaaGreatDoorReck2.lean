/- The reference's sums, products and quotients, and what the program's workings give. Conditions: as each theorem says. -/
import Derived.Test.YtgoadofnfaidcaaGreatDoorReck
import Derived.Test.YtgoadofnfaidcaaGreatDoorAddG
import Derived.Test.YtgoadofnfaidcaaGreatDoorMulG
import Derived.Test.YtgoadofnfaidcaaGreatDoorQuo
import Derived.Test.YtgoadofnfaidcaaGreatDoorOfN2
import Derived.Test.YtgoadofnfaidcaaGreatDoorRingArith
import Derived.Test.YtgoadofnfaidcaaGreatDoorRTwo
import Derived.Test.YtgoadofnfaidcaaGreatDoorSvMath
namespace Go.Proofs.YtgoadofnfaidcaaGreatDoor
open Go.RowKit
set_option maxRecDepth 100000 in
set_option maxHeartbeats 8000000 in
theorem reckon_8 (x y : Int) (w : World) (x0 : -9223372036854775808 ≤ x) (x1 : x ≤ 9223372036854775807) (y0 : -9223372036854775808 ≤ y) (y1 : y ≤ 9223372036854775807) :
    Calls Tryz.prog 38 #[.int .i64 8, .int .i64 x, .int .i64 y] w fun e w' => e = .returned (V (fK (x + y)) (fN (x + y)) nul) ∧ Below w.heap.size w w' := by
  have hres := hat w (O3 0 0 nul) _ rfl
  have hB := (Below.refl w.heap.size w).alloc (Nat.le_refl _) (O3 0 0 nul)
  go_enter Tryz.func38, Tryz.ntmps38
  go_upto_region 1 with fail
  go_cut [7] (fun s7 wx => ∃ bx, s7 = ptr bx ∧ BigInt wx bx (decide (x < 0)) x.natAbs ∧ wx.heap[w.heap.size]? = some (O3 0 0 nul) ∧ Below w.heap.size w wx)
  case first =>
    go_wp2_with fail
    refine (newInt_any x _ x0 x1).mono ?_
    rintro e w1 ⟨⟨b, rfl, hb, hI⟩, q1⟩
    go_wp2_with fail
    go_meet
    case rel => exact ⟨b, rfl, hI, bk hres q1, bnext hB q1 hB.size⟩
  case rest =>
  clear hres hB
  obtain ⟨bx, rfl, hX, hres, hB⟩ := hcut
  go_upto_region 2 with fail
  go_cut [8] (fun s8 wx => ∃ b2, s8 = ptr b2 ∧ BigInt wx b2 (decide (y < 0)) y.natAbs ∧ BigInt wx bx (decide (x < 0)) x.natAbs ∧ wx.heap[w.heap.size]? = some (O3 0 0 nul) ∧ Below w.heap.size w wx)
  case first =>
    go_wp2_with fail
    refine (newInt_any y _ y0 y1).mono ?_
    rintro e w1 ⟨⟨b, rfl, hb, hI⟩, q1⟩
    go_wp2_with fail
    go_meet
    case rel => exact ⟨b, rfl, hI, hX.below q1, bk hres q1, bnext hB q1 hB.size⟩
  case rest =>
  clear hres hB hX
  obtain ⟨b2, rfl, hY, hX, hres, hB⟩ := hcut
  go_upto_region 3 with fail
  go_cut [9] (fun s9 wx => ∃ bz, s9 = ptr bz ∧ KS w bx b2 bz x y wx)
  case first =>
    go_wp2_with fail
    go_meet
    case rel =>
      have hA : Below wc.heap.size wc (wc.alloc (.cells #[.bool false, .slice none 0 0] 53)) := (Below.refl _ _).alloc (Nat.le_refl _) _
      exact ⟨_, rfl, ⟨bkA hres _, hX.below hA, hY.below hA, BigInt.new _ _, lt_of_blk hres, bnext hB hA hB.size⟩⟩
  case rest =>
  clear hres hB hX hY
  obtain ⟨bz, rfl, hK⟩ := hcut
  go_wp2_with fail
  refine (addG bz bx b2 _ _ _ _ _ _ _ hK.z hK.x hK.y (by omega) (by omega)).mono ?_
  rintro e w1 ⟨rfl, ⟨s, z, hz, hs⟩, q1⟩
  have HSV : Hid (sv s z = x + y) := by
    unfold Hid
    rw [hs, sv_new, sv_new]
  clear hs
  have hres : w1.heap[w.heap.size]? = some (O3 0 0 nul) := by rw [(q1 bz (Nat.le_refl _)).block _ hK.lt]; exact hK.res
  have hB : Below w.heap.size w w1 := hK.below.trans (q1 _ (Nat.le_of_lt hK.lt))
  clear hK q1
  go_wp2_with fail
  refine (fits_any bz z _ _ hz).mono ?_
  rintro e w2 ⟨rfl, rfl⟩
  rw [fit_sv, HSV.out]
  cases h : inR (x + y)
  · have HF : Hid (fK (x + y) = 4 ∧ fN (x + y) = 5) := f_no h
    clear h
    go_wp2_with fail
    refine (rbad_any _ _).mono ?_
    rintro e w1 ⟨rfl, q1⟩
    replace hres := bk hres q1
    have hB1 := bnext hB q1 hB.size
    obtain ⟨⟨o0, o1, o2⟩, p0, p1, p2⟩ := cells3 hres
    go_wp2_with fail
    exact bodyPost_ret (v := V 4 5 nul) (by simp [results, Tryz.results38, go_sem, o0, o1, o2]) rfl ⟨by rw [HF.out.1, HF.out.2], hB1.trans (below3 (Nat.le_refl _))⟩
  · have HF : Hid (fK (x + y) = 1 ∧ fN (x + y) = x + y) := f_yes h
    have HI : Hid (inR (sv s z) = true) := by unfold Hid; rw [HSV.out]; exact h
    clear h
    go_wp2_with fail
    refine (int64_any bz z s _ hz HI.out).mono ?_
    rintro e w1 ⟨rfl, rfl⟩
    rw [HSV.out]
    go_wp2_with fail
    refine (rnum_any _ _).mono ?_
    rintro e w1 ⟨rfl, q1⟩
    replace hres := bk hres q1
    have hB1 := bnext hB q1 hB.size
    obtain ⟨⟨o0, o1, o2⟩, p0, p1, p2⟩ := cells3 hres
    go_wp2_with fail
    exact bodyPost_ret (v := V 1 (x + y) nul) (by simp [results, Tryz.results38, go_sem, o0, o1, o2]) rfl ⟨by rw [HF.out.1, HF.out.2], hB1.trans (below3 (Nat.le_refl _))⟩
set_option maxRecDepth 100000 in
set_option maxHeartbeats 8000000 in
theorem reckon_10 (x y : Int) (w : World) (x0 : -9223372036854775808 ≤ x) (x1 : x ≤ 9223372036854775807) (y0 : -9223372036854775808 ≤ y) (y1 : y ≤ 9223372036854775807) :
    Calls Tryz.prog 38 #[.int .i64 10, .int .i64 x, .int .i64 y] w fun e w' => e = .returned (V (fK (x * y)) (fN (x * y)) nul) ∧ Below w.heap.size w w' := by
  have hres := hat w (O3 0 0 nul) _ rfl
  have hB := (Below.refl w.heap.size w).alloc (Nat.le_refl _) (O3 0 0 nul)
  go_enter Tryz.func38, Tryz.ntmps38
  go_upto_region 1 with fail
  go_cut [7] (fun s7 wx => ∃ bx, s7 = ptr bx ∧ BigInt wx bx (decide (x < 0)) x.natAbs ∧ wx.heap[w.heap.size]? = some (O3 0 0 nul) ∧ Below w.heap.size w wx)
  case first =>
    go_wp2_with fail
    refine (newInt_any x _ x0 x1).mono ?_
    rintro e w1 ⟨⟨b, rfl, hb, hI⟩, q1⟩
    go_wp2_with fail
    go_meet
    case rel => exact ⟨b, rfl, hI, bk hres q1, bnext hB q1 hB.size⟩
  case rest =>
  clear hres hB
  obtain ⟨bx, rfl, hX, hres, hB⟩ := hcut
  go_upto_region 2 with fail
  go_cut [8] (fun s8 wx => ∃ b2, s8 = ptr b2 ∧ BigInt wx b2 (decide (y < 0)) y.natAbs ∧ BigInt wx bx (decide (x < 0)) x.natAbs ∧ wx.heap[w.heap.size]? = some (O3 0 0 nul) ∧ Below w.heap.size w wx)
  case first =>
    go_wp2_with fail
    refine (newInt_any y _ y0 y1).mono ?_
    rintro e w1 ⟨⟨b, rfl, hb, hI⟩, q1⟩
    go_wp2_with fail
    go_meet
    case rel => exact ⟨b, rfl, hI, hX.below q1, bk hres q1, bnext hB q1 hB.size⟩
  case rest =>
  clear hres hB hX
  obtain ⟨b2, rfl, hY, hX, hres, hB⟩ := hcut
  go_upto_region 3 with fail
  go_cut [9] (fun s9 wx => ∃ bz, s9 = ptr bz ∧ KS w bx b2 bz x y wx)
  case first =>
    go_wp2_with fail
    go_meet
    case rel =>
      have hA : Below wc.heap.size wc (wc.alloc (.cells #[.bool false, .slice none 0 0] 53)) := (Below.refl _ _).alloc (Nat.le_refl _) _
      exact ⟨_, rfl, ⟨bkA hres _, hX.below hA, hY.below hA, BigInt.new _ _, lt_of_blk hres, bnext hB hA hB.size⟩⟩
  case rest =>
  clear hres hB hX hY
  obtain ⟨bz, rfl, hK⟩ := hcut
  go_wp2_with fail
  refine (mulG bz bx b2 _ _ _ _ _ _ _ hK.z hK.x hK.y (by omega) (by omega)).mono ?_
  rintro e w1 ⟨rfl, hz0, q1⟩
  obtain ⟨s, hs⟩ : ∃ s, s = (decide (x < 0) != decide (y < 0)) := ⟨_, rfl⟩
  obtain ⟨z, hzz⟩ : ∃ z, z = x.natAbs * y.natAbs := ⟨_, rfl⟩
  have HSV : Hid (sv s z = x * y) := by
    unfold Hid
    rw [hs, hzz]
    exact sv_mul x y
  rw [← hs, ← hzz] at hz0
  have hz := hz0
  clear hs hzz hz0
  have hres : w1.heap[w.heap.size]? = some (O3 0 0 nul) := by rw [(q1 bz (Nat.le_refl _)).block _ hK.lt]; exact hK.res
  have hB : Below w.heap.size w w1 := hK.below.trans (q1 _ (Nat.le_of_lt hK.lt))
  clear hK q1
  go_wp2_with fail
  refine (fits_any bz z _ _ hz).mono ?_
  rintro e w2 ⟨rfl, rfl⟩
  rw [fit_sv, HSV.out]
  cases h : inR (x * y)
  · have HF : Hid (fK (x * y) = 4 ∧ fN (x * y) = 5) := f_no h
    clear h
    go_wp2_with fail
    refine (rbad_any _ _).mono ?_
    rintro e w1 ⟨rfl, q1⟩
    replace hres := bk hres q1
    have hB1 := bnext hB q1 hB.size
    obtain ⟨⟨o0, o1, o2⟩, p0, p1, p2⟩ := cells3 hres
    go_wp2_with fail
    exact bodyPost_ret (v := V 4 5 nul) (by simp [results, Tryz.results38, go_sem, o0, o1, o2]) rfl ⟨by rw [HF.out.1, HF.out.2], hB1.trans (below3 (Nat.le_refl _))⟩
  · have HF : Hid (fK (x * y) = 1 ∧ fN (x * y) = x * y) := f_yes h
    have HI : Hid (inR (sv s z) = true) := by unfold Hid; rw [HSV.out]; exact h
    clear h
    go_wp2_with fail
    refine (int64_any bz z s _ hz HI.out).mono ?_
    rintro e w1 ⟨rfl, rfl⟩
    rw [HSV.out]
    go_wp2_with fail
    refine (rnum_any _ _).mono ?_
    rintro e w1 ⟨rfl, q1⟩
    replace hres := bk hres q1
    have hB1 := bnext hB q1 hB.size
    obtain ⟨⟨o0, o1, o2⟩, p0, p1, p2⟩ := cells3 hres
    go_wp2_with fail
    exact bodyPost_ret (v := V 1 (x * y) nul) (by simp [results, Tryz.results38, go_sem, o0, o1, o2]) rfl ⟨by rw [HF.out.1, HF.out.2], hB1.trans (below3 (Nat.le_refl _))⟩
set_option maxRecDepth 100000 in
set_option maxHeartbeats 8000000 in
theorem reckon_11 (x y : Int) (w : World) (hy0 : y ≠ 0) (x0 : -9223372036854775808 ≤ x) (x1 : x ≤ 9223372036854775807) (y0 : -9223372036854775808 ≤ y) (y1 : y ≤ 9223372036854775807) :
    Calls Tryz.prog 38 #[.int .i64 11, .int .i64 x, .int .i64 y] w fun e w' => e = .returned (V (fK (x.tdiv y)) (fN (x.tdiv y)) nul) ∧ Below w.heap.size w w' := by
  have hres := hat w (O3 0 0 nul) _ rfl
  have hB := (Below.refl w.heap.size w).alloc (Nat.le_refl _) (O3 0 0 nul)
  have hyz : (y == 0) = false := beq_eq_false_iff_ne.2 hy0
  go_enter Tryz.func38, Tryz.ntmps38
  go_upto_region 1 with fail
  go_cut [7] (fun s7 wx => ∃ bx, s7 = ptr bx ∧ BigInt wx bx (decide (x < 0)) x.natAbs ∧ wx.heap[w.heap.size]? = some (O3 0 0 nul) ∧ Below w.heap.size w wx)
  case first =>
    go_wp2_with fail
    refine (newInt_any x _ x0 x1).mono ?_
    rintro e w1 ⟨⟨b, rfl, hb, hI⟩, q1⟩
    go_wp2_with fail
    go_meet
    case rel => exact ⟨b, rfl, hI, bk hres q1, bnext hB q1 hB.size⟩
  case rest =>
  clear hres hB
  obtain ⟨bx, rfl, hX, hres, hB⟩ := hcut
  go_upto_region 2 with fail
  go_cut [8] (fun s8 wx => ∃ b2, s8 = ptr b2 ∧ BigInt wx b2 (decide (y < 0)) y.natAbs ∧ BigInt wx bx (decide (x < 0)) x.natAbs ∧ wx.heap[w.heap.size]? = some (O3 0 0 nul) ∧ Below w.heap.size w wx)
  case first =>
    go_wp2_with fail
    refine (newInt_any y _ y0 y1).mono ?_
    rintro e w1 ⟨⟨b, rfl, hb, hI⟩, q1⟩
    go_wp2_with fail
    go_meet
    case rel => exact ⟨b, rfl, hI, hX.below q1, bk hres q1, bnext hB q1 hB.size⟩
  case rest =>
  clear hres hB hX
  obtain ⟨b2, rfl, hY, hX, hres, hB⟩ := hcut
  go_upto_region 3 with fail
  go_cut [9] (fun s9 wx => ∃ bz, s9 = ptr bz ∧ KS w bx b2 bz x y wx)
  case first =>
    go_wp2_with fail
    go_meet
    case rel =>
      have hA : Below wc.heap.size wc (wc.alloc (.cells #[.bool false, .slice none 0 0] 53)) := (Below.refl _ _).alloc (Nat.le_refl _) _
      exact ⟨_, rfl, ⟨bkA hres _, hX.below hA, hY.below hA, BigInt.new _ _, lt_of_blk hres, bnext hB hA hB.size⟩⟩
  case rest =>
  clear hres hB hX hY
  obtain ⟨bz, rfl, hK⟩ := hcut
  go_wp2_with fail
  refine (quo_any bz bx b2 _ _ _ _ _ _ _ hK.z hK.x hK.y (by omega) (by omega) (by omega)).mono ?_
  rintro e w1 ⟨rfl, hz0, q1⟩
  obtain ⟨s, hs⟩ : ∃ s, s = (decide (x < 0) != decide (y < 0)) := ⟨_, rfl⟩
  obtain ⟨z, hzz⟩ : ∃ z, z = x.natAbs / y.natAbs := ⟨_, rfl⟩
  have HSV : Hid (sv s z = x.tdiv y) := by
    unfold Hid
    rw [hs, hzz]
    exact sv_quo x y
  rw [← hs, ← hzz] at hz0
  have hz := hz0
  clear hs hzz hz0
  have hres : w1.heap[w.heap.size]? = some (O3 0 0 nul) := by rw [(q1 bz (Nat.le_refl _)).block _ hK.lt]; exact hK.res
  have hB : Below w.heap.size w w1 := hK.below.trans (q1 _ (Nat.le_of_lt hK.lt))
  clear hK q1
  go_wp2_with fail
  refine (fits_any bz z _ _ hz).mono ?_
  rintro e w2 ⟨rfl, rfl⟩
  rw [fit_sv, HSV.out]
  cases h : inR (x.tdiv y)
  · have HF : Hid (fK (x.tdiv y) = 4 ∧ fN (x.tdiv y) = 5) := f_no h
    clear h
    go_wp2_with fail
    refine (rbad_any _ _).mono ?_
    rintro e w1 ⟨rfl, q1⟩
    replace hres := bk hres q1
    have hB1 := bnext hB q1 hB.size
    obtain ⟨⟨o0, o1, o2⟩, p0, p1, p2⟩ := cells3 hres
    go_wp2_with fail
    exact bodyPost_ret (v := V 4 5 nul) (by simp [results, Tryz.results38, go_sem, o0, o1, o2]) rfl ⟨by rw [HF.out.1, HF.out.2], hB1.trans (below3 (Nat.le_refl _))⟩
  · have HF : Hid (fK (x.tdiv y) = 1 ∧ fN (x.tdiv y) = x.tdiv y) := f_yes h
    have HI : Hid (inR (sv s z) = true) := by unfold Hid; rw [HSV.out]; exact h
    clear h
    go_wp2_with fail
    refine (int64_any bz z s _ hz HI.out).mono ?_
    rintro e w1 ⟨rfl, rfl⟩
    rw [HSV.out]
    go_wp2_with fail
    refine (rnum_any _ _).mono ?_
    rintro e w1 ⟨rfl, q1⟩
    replace hres := bk hres q1
    have hB1 := bnext hB q1 hB.size
    obtain ⟨⟨o0, o1, o2⟩, p0, p1, p2⟩ := cells3 hres
    go_wp2_with fail
    exact bodyPost_ret (v := V 1 (x.tdiv y) nul) (by simp [results, Tryz.results38, go_sem, o0, o1, o2]) rfl ⟨by rw [HF.out.1, HF.out.2], hB1.trans (below3 (Nat.le_refl _))⟩
end Go.Proofs.YtgoadofnfaidcaaGreatDoor
