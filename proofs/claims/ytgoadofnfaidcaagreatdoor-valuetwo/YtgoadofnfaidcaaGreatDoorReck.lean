/- Less, exactly and then of 64 bits, by the reference; the program's. Conditions: as each theorem says. -/
import Derived.Test.YtgoadofnfaidcaaGreatDoorSubG
import Derived.Test.YtgoadofnfaidcaaGreatDoorIsInt
import Derived.Test.YtgoadofnfaidcaaGreatDoorWhole
import Derived.Test.YtgoadofnfaidcaaGreatDoorVNum
namespace Go.Proofs.YtgoadofnfaidcaaGreatDoor
open Go.RowKit
/-- What a whole number is as an answer, if it has 64 bits; else that it is bad. -/
def inR (z : Int) : Bool := decide (-9223372036854775808 ≤ z) && decide (z ≤ 9223372036854775807)
def fK (z : Int) : Int := if inR z = true then 1 else 4
def fN (z : Int) : Int := if inR z = true then z else 5
theorem f_yes {z : Int} (h : inR z = true) : fK z = 1 ∧ fN z = z := by unfold fK fN; rw [if_pos h, if_pos h]; exact ⟨rfl, rfl⟩
theorem f_no {z : Int} (h : inR z = false) : fK z = 4 ∧ fN z = 5 := by unfold fK fN; rw [if_neg (by simp [h]), if_neg (by simp [h])]; exact ⟨rfl, rfl⟩
theorem inR_iff {z : Int} : inR z = true ↔ -9223372036854775808 ≤ z ∧ z ≤ 9223372036854775807 := by unfold inR; simp
theorem fit_sv {s : Bool} {z : Nat} : fitI (s && decide (z ≠ 0)) z = inR (sv s z) := by
  rw [Bool.eq_iff_iff, fit_iff, inR_iff]
  unfold sv
  cases s
  · simp; omega
  · simp only [Bool.true_and, decide_eq_true_eq, if_true]
    omega
theorem sv_new (n : Int) : sv (decide (n < 0)) n.natAbs = n := by
  unfold sv
  by_cases h : n < 0
  · rw [if_pos (by simpa using h)]; omega
  · rw [if_neg (by simpa using h)]; omega
/-- A number of 64 bits, told of one. -/
theorem int64_any (bz z : Nat) (s : Bool) (w : World) (hz : BigInt w bz (s && decide (z ≠ 0)) z) (h : inR (sv s z) = true) :
    Calls Tryz.prog 53 #[ptr bz] w fun e w' => e = .returned (.int .i64 (sv s z)) ∧ w' = w := by
  rw [inR_iff] at h
  cases s
  · have e1 : sv false z = (z : Int) := rfl
    rw [e1] at h ⊢
    exact int64_pos bz z w hz (by omega)
  · by_cases q : z = 0
    · subst q
      exact int64_pos bz 0 w hz (by omega)
    · have e1 : sv true z = -(z : Int) := rfl
      rw [e1] at h ⊢
      have e2 : (true && decide (z ≠ 0)) = true := by simp [q]
      rw [e2] at hz
      exact int64_neg bz z w hz (by omega)
/-- The answer's block, three numbers. -/
structure KS (w : World) (bx b2 bz : Nat) (x y : Int) (wx : World) : Prop where
  res : wx.heap[w.heap.size]? = some (O3 0 0 nul)
  x : BigInt wx bx (decide (x < 0)) x.natAbs
  y : BigInt wx b2 (decide (y < 0)) y.natAbs
  z : BigInt wx bz false 0
  lt : w.heap.size < bz
  below : Below w.heap.size w wx
set_option maxRecDepth 100000 in
set_option maxHeartbeats 8000000 in
theorem reckon_9 (x y : Int) (w : World) (x0 : -9223372036854775808 ≤ x) (x1 : x ≤ 9223372036854775807) (y0 : -9223372036854775808 ≤ y) (y1 : y ≤ 9223372036854775807) :
    Calls Tryz.prog 38 #[.int .i64 9, .int .i64 x, .int .i64 y] w fun e w' => e = .returned (V (fK (x - y)) (fN (x - y)) nul) ∧ Below w.heap.size w w' := by
  have hres := hat w (O3 0 0 nul) _ rfl
  have hB := (Below.refl w.heap.size w).alloc (Nat.le_refl _) (O3 0 0 nul)
  go_enter Tryz.func38, Tryz.ntmps38
  go_upto_region 1 with fail
  go_cut [7] (fun s7 wx => ∃ bx, s7 = ptr bx ∧ BigInt wx bx (decide (x < 0)) x.natAbs ∧ wx.heap[w.heap.size]? = some (O3 0 0 nul) ∧ Below w.heap.size w wx)
  case first =>
    go_wp2_with fail
    refine (newInt_any x _ x0 x1).mono ?_
    rintro e w1 ⟨⟨b, rfl, hb, hI⟩, q1⟩
    go_wp2_with fail
    go_meet
    case rel => exact ⟨b, rfl, hI, bk hres q1, bnext hB q1 hB.size⟩
  case rest =>
  clear hres hB
  obtain ⟨bx, rfl, hX, hres, hB⟩ := hcut
  go_upto_region 2 with fail
  go_cut [8] (fun s8 wx => ∃ b2, s8 = ptr b2 ∧ BigInt wx b2 (decide (y < 0)) y.natAbs ∧ BigInt wx bx (decide (x < 0)) x.natAbs ∧ wx.heap[w.heap.size]? = some (O3 0 0 nul) ∧ Below w.heap.size w wx)
  case first =>
    go_wp2_with fail
    refine (newInt_any y _ y0 y1).mono ?_
    rintro e w1 ⟨⟨b, rfl, hb, hI⟩, q1⟩
    go_wp2_with fail
    go_meet
    case rel => exact ⟨b, rfl, hI, hX.below q1, bk hres q1, bnext hB q1 hB.size⟩
  case rest =>
  clear hres hB hX
  obtain ⟨b2, rfl, hY, hX, hres, hB⟩ := hcut
  go_upto_region 3 with fail
  go_cut [9] (fun s9 wx => ∃ bz, s9 = ptr bz ∧ KS w bx b2 bz x y wx)
  case first =>
    go_wp2_with fail
    go_meet
    case rel =>
      have hA : Below wc.heap.size wc (wc.alloc (.cells #[.bool false, .slice none 0 0] 53)) := (Below.refl _ _).alloc (Nat.le_refl _) _
      exact ⟨_, rfl, ⟨bkA hres _, hX.below hA, hY.below hA, BigInt.new _ _, lt_of_blk hres, bnext hB hA hB.size⟩⟩
  case rest =>
  clear hres hB hX hY
  obtain ⟨bz, rfl, hK⟩ := hcut
  go_wp2_with fail
  refine (subG bz bx b2 _ _ _ _ _ _ _ hK.z hK.x hK.y (by omega) (by omega)).mono ?_
  rintro e w1 ⟨rfl, ⟨s, z, hz, hs⟩, q1⟩
  have HSV : Hid (sv s z = x - y) := by
    unfold Hid
    rw [hs, sv_new]
    have : sv (!decide (y < 0)) y.natAbs = -y := by
      unfold sv
      by_cases h : y < 0
      · rw [if_neg (by simp [h])]; omega
      · rw [if_pos (by simp [h])]; omega
    rw [this]
    omega
  have hres : w1.heap[w.heap.size]? = some (O3 0 0 nul) := by rw [(q1 bz (Nat.le_refl _)).block _ hK.lt]; exact hK.res
  have hB : Below w.heap.size w w1 := hK.below.trans (q1 _ (Nat.le_of_lt hK.lt))
  clear hs hK q1
  go_wp2_with fail
  refine (fits_any bz z _ _ hz).mono ?_
  rintro e w2 ⟨rfl, rfl⟩
  rw [fit_sv, HSV.out]
  cases h : inR (x - y)
  · have HF : Hid (fK (x - y) = 4 ∧ fN (x - y) = 5) := f_no h
    clear h
    go_wp2_with fail
    refine (rbad_any _ _).mono ?_
    rintro e w1 ⟨rfl, q1⟩
    replace hres := bk hres q1
    have hB1 := bnext hB q1 hB.size
    obtain ⟨⟨o0, o1, o2⟩, p0, p1, p2⟩ := cells3 hres
    go_wp2_with fail
    exact bodyPost_ret (v := V 4 5 nul) (by simp [results, Tryz.results38, go_sem, o0, o1, o2]) rfl ⟨by rw [HF.out.1, HF.out.2], hB1.trans (below3 (Nat.le_refl _))⟩
  · have HF : Hid (fK (x - y) = 1 ∧ fN (x - y) = x - y) := f_yes h
    have HI : Hid (inR (sv s z) = true) := by unfold Hid; rw [HSV.out]; exact h
    clear h
    go_wp2_with fail
    refine (int64_any bz z s _ hz HI.out).mono ?_
    rintro e w1 ⟨rfl, rfl⟩
    rw [HSV.out]
    go_wp2_with fail
    refine (rnum_any _ _).mono ?_
    rintro e w1 ⟨rfl, q1⟩
    replace hres := bk hres q1
    have hB1 := bnext hB q1 hB.size
    obtain ⟨⟨o0, o1, o2⟩, p0, p1, p2⟩ := cells3 hres
    go_wp2_with fail
    exact bodyPost_ret (v := V 1 (x - y) nul) (by simp [results, Tryz.results38, go_sem, o0, o1, o2]) rfl ⟨by rw [HF.out.1, HF.out.2], hB1.trans (below3 (Nat.le_refl _))⟩
/-! The program's. -/
set_option maxHeartbeats 2000000 in
theorem psub_any (x y : Int) (w : World) (x0 : -9223372036854775808 ≤ x) (x1 : x ≤ 9223372036854775807) (y0 : -9223372036854775808 ≤ y) (y1 : y ≤ 9223372036854775807) :
    Calls Tryz.prog 32 #[.int .i64 x, .int .i64 y] w fun e w' => e = .returned (V (fK (x - y)) (fN (x - y)) nul) ∧ Below w.heap.size w w' := by
  have hres := hat w (O3 0 0 nul) _ rfl
  have hB := (Below.refl w.heap.size w).alloc (Nat.le_refl _) (O3 0 0 nul)
  by_cases h1 : x - y ≤ 9223372036854775807
  · by_cases h2 : -9223372036854775808 ≤ x - y
    · have HF : Hid (fK (x - y) = 1 ∧ fN (x - y) = x - y) := f_yes (inR_iff.2 ⟨h2, h1⟩)
      have ht : decide (x < x - y) = decide (y < 0) := by
        by_cases q : y < 0
        · rw [decide_eq_true q, decide_eq_true (by omega)]
        · rw [decide_eq_false q, decide_eq_false (by omega)]
      go_enter Tryz.func32, Tryz.ntmps32
      go_wp2_with fail
      refine (number_any _ _).mono ?_
      rintro e w1 ⟨rfl, q1⟩
      replace hres := bk hres q1
      have hB1 := bnext hB q1 hB.size
      obtain ⟨⟨o0, o1, o2⟩, p0, p1, p2⟩ := cells3 hres
      go_wp2_with fail
      exact bodyPost_ret (v := V 1 (x - y) nul) (by simp [results, Tryz.results32, go_sem, o0, o1, o2]) rfl ⟨by rw [HF.out.1, HF.out.2], hB1.trans (below3 (Nat.le_refl _))⟩
    · have HF : Hid (fK (x - y) = 4 ∧ fN (x - y) = 5) := f_no (by cases q : inR (x - y); rfl; exact absurd (inR_iff.1 q).1 h2)
      have hw : wrap64 (x - y) = x - y + 18446744073709551616 := by unfold wrap64; omega
      have ht : decide (x < x - y + 18446744073709551616) = true := decide_eq_true (by omega)
      have ht2 : decide (y < 0) = false := decide_eq_false (by omega)
      go_enter Tryz.func32, Tryz.ntmps32
      go_wp2_with fail
      refine (bad_any _ _).mono ?_
      rintro e w1 ⟨rfl, q1⟩
      replace hres := bk hres q1
      have hB1 := bnext hB q1 hB.size
      obtain ⟨⟨o0, o1, o2⟩, p0, p1, p2⟩ := cells3 hres
      go_wp2_with fail
      exact bodyPost_ret (v := V 4 5 nul) (by simp [results, Tryz.results32, go_sem, o0, o1, o2]) rfl ⟨by rw [HF.out.1, HF.out.2], hB1.trans (below3 (Nat.le_refl _))⟩
  · have HF : Hid (fK (x - y) = 4 ∧ fN (x - y) = 5) := f_no (by cases q : inR (x - y); rfl; exact absurd (inR_iff.1 q).2 h1)
    have hw : wrap64 (x - y) = x - y - 18446744073709551616 := by unfold wrap64; omega
    have ht : decide (x < x - y - 18446744073709551616) = false := decide_eq_false (by omega)
    have ht2 : decide (y < 0) = true := decide_eq_true (by omega)
    go_enter Tryz.func32, Tryz.ntmps32
    go_wp2_with fail
    refine (bad_any _ _).mono ?_
    rintro e w1 ⟨rfl, q1⟩
    replace hres := bk hres q1
    have hB1 := bnext hB q1 hB.size
    obtain ⟨⟨o0, o1, o2⟩, p0, p1, p2⟩ := cells3 hres
    go_wp2_with fail
    exact bodyPost_ret (v := V 4 5 nul) (by simp [results, Tryz.results32, go_sem, o0, o1, o2]) rfl ⟨by rw [HF.out.1, HF.out.2], hB1.trans (below3 (Nat.le_refl _))⟩
end Go.Proofs.YtgoadofnfaidcaaGreatDoor
