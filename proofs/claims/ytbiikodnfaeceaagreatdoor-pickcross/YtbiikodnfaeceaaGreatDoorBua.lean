/- The document's sums of two numbers. Conditions: as each theorem says. -/
import Derived.Test.YtbiikodnfaeceaaGreatDoorAddG
import Derived.Test.YtbiikodnfaeceaaGreatDoorIsInt
import Derived.Test.YtbiikodnfaeceaaGreatDoorOq
namespace Go.Proofs.YtbiikodnfaeceaaGreatDoor.so
open Go.RowKit
theorem rnumB_any (n : Int) (w : World) : Calls Tryz.prog 45 #[.int .i64 n] w fun e w' => e = .returned (V 1 n nul) ∧ Below w.heap.size w w' := by
  go_enter Tryz.func45, Tryz.ntmps45
  go_wp2
  exact bodyPost_ret (v := V 1 n nul) (by simp [results, Tryz.results45, go_sem]) rfl ⟨rfl, (Below.refl _ _).alloc (Nat.le_refl _) _⟩
theorem fit_iff {neg : Bool} {x : Nat} : fitI neg x = true ↔ x < 9223372036854775808 ∨ (neg = true ∧ x = 9223372036854775808) := by
  unfold fitI
  simp
set_option maxHeartbeats 1000000 in
theorem fits_any (bz x : Nat) (neg : Bool) (w : World) (hz : BigInt w bz neg x) :
    Calls Tryz.prog 100 #[ptr bz] w fun e w' => e = .returned (.bool (fitI neg x)) ∧ w' = w := by
  go_enter Tryz.func100, Tryz.ntmps100
  go_wp2_with fail
  refine (isInt_any bz x neg _ hz).mono ?_
  rintro e w1 ⟨rfl, rfl⟩
  go_wp2_with fail
  go_ret
  exact ⟨rfl, rfl⟩
theorem rbad_any (n : Int) (w : World) :
    Calls Tryz.prog 63 #[.int .i64 n] w fun e w' => e = .returned (V 4 n nul) ∧ Below w.heap.size w w' := by
  go_enter Tryz.func63, Tryz.ntmps63
  go_wp2
  exact bodyPost_ret (v := V 4 n nul) (by simp [results, Tryz.results63, go_sem]) rfl ⟨rfl, (Below.refl _ _).alloc (Nat.le_refl _) _⟩
set_option maxHeartbeats 1000000 in
theorem setInt_neg (bz x : Nat) (w : World) (zn : Bool) (zx : Nat) (hz : BigInt w bz zn zx) (h1 : 1 ≤ x) (hx : x ≤ 9223372036854775808) :
    Calls Tryz.prog 126 #[ptr bz, .int .i64 (-(x : Int))] w fun e w' => e = .returned (ptr bz) ∧ BigInt w' bz true x ∧ ∀ B, B ≤ bz → Below B w w' := by
  have hlt0 : -(x : Int) < 0 := by omega
  go_enter Tryz.func126, Tryz.ntmps126
  go_wp2_with fail
  rw [wrapU_neg (x := -(x : Int)) (by omega) (by omega), show (-(-(x : Int) + 18446744073709551616)) = (x : Int) - 18446744073709551616 from by omega, wrapU_neg (by omega) (by omega), show (x : Int) - 18446744073709551616 + 18446744073709551616 = (x : Int) from by omega]
  refine (words_any x _ (by omega)).mono ?_
  rintro e w1 ⟨⟨v, rfl, hv⟩, b1⟩
  have hz1 := hz.below b1
  have hN := num_trim hv (word_val x)
  have hlt := hz.lt
  go_wp2_with fail
  refine (give_any bz true v x _ zn zx hz1 hN).mono ?_
  rintro e w2 ⟨rfl, hz2, b2⟩
  have e1 : (true && decide (x ≠ 0)) = true := by simp; omega
  rw [e1] at hz2
  go_wp2_with fail
  go_ret
  exact ⟨rfl, hz2, fun B hB => (b1.mono (by omega)).trans (b2 B hB)⟩
set_option maxHeartbeats 1000000 in
theorem newInt_any (n : Int) (w : World) (h0 : -9223372036854775808 ≤ n) (h1 : n ≤ 9223372036854775807) :
    Calls Tryz.prog 95 #[.int .i64 n] w fun e w' => (∃ b, e = .returned (ptr b) ∧ w.heap.size ≤ b ∧ BigInt w' b (decide (n < 0)) n.natAbs) ∧ Below w.heap.size w w' := by
  by_cases c : n < 0
  · obtain ⟨x, rfl, hx⟩ : ∃ x : Nat, n = -(x : Int) ∧ 1 ≤ x := ⟨n.natAbs, by omega, by omega⟩
    have e1 : decide (-(x : Int) < 0) = true := decide_eq_true c
    have e2 : (-(x : Int)).natAbs = x := by omega
    rw [e1, e2]
    have hb := BigInt.new w 146
    clear c e1 e2
    go_enter Tryz.func95, Tryz.ntmps95
    go_wp2_with fail
    refine (setInt_neg _ x _ false 0 hb hx (by omega)).mono ?_
    rintro e w1 ⟨rfl, hz, b1⟩
    go_wp2_with fail
    go_ret
    exact ⟨⟨_, rfl, Nat.le_refl _, hz⟩, ((Below.refl _ _).alloc (Nat.le_refl _) _).trans (b1 _ (Nat.le_refl _))⟩
  · obtain ⟨x, rfl⟩ : ∃ x : Nat, n = (x : Int) := ⟨n.natAbs, by omega⟩
    have e1 : decide ((x : Int) < 0) = false := decide_eq_false c
    have e2 : ((x : Int)).natAbs = x := by omega
    rw [e1, e2]
    exact newInt_nn x w (by omega)
theorem fit_sv {s : Bool} {z : Nat} : fitI (s && decide (z ≠ 0)) z = inR (sv s z) := by
  rw [Bool.eq_iff_iff, fit_iff, inR_iff]
  unfold sv
  cases s
  · simp; omega
  · simp only [Bool.true_and, decide_eq_true_eq, if_true]
    omega
theorem sv_new (n : Int) : sv (decide (n < 0)) n.natAbs = n := by
  unfold sv
  by_cases h : n < 0
  · rw [if_pos (by simpa using h)]; omega
  · rw [if_neg (by simpa using h)]; omega
/-- A number of 64 bits, told of one. -/
theorem int64_any (bz z : Nat) (s : Bool) (w : World) (hz : BigInt w bz (s && decide (z ≠ 0)) z) (h : inR (sv s z) = true) :
    Calls Tryz.prog 101 #[ptr bz] w fun e w' => e = .returned (.int .i64 (sv s z)) ∧ w' = w := by
  rw [inR_iff] at h
  cases s
  · have e1 : sv false z = (z : Int) := rfl
    rw [e1] at h ⊢
    exact int64_pos bz z w hz (by omega)
  · by_cases q : z = 0
    · subst q
      exact int64_pos bz 0 w hz (by omega)
    · have e1 : sv true z = -(z : Int) := rfl
      rw [e1] at h ⊢
      have e2 : (true && decide (z ≠ 0)) = true := by simp [q]
      rw [e2] at hz
      exact int64_neg bz z w hz (by omega)
/-- The answer's block, three numbers. -/
structure KS (w : World) (bx b2 bz : Nat) (x y : Int) (wx : World) : Prop where
  res : wx.heap[w.heap.size]? = some (O3 0 0 nul)
  x : BigInt wx bx (decide (x < 0)) x.natAbs
  y : BigInt wx b2 (decide (y < 0)) y.natAbs
  z : BigInt wx bz false 0
  lt : w.heap.size < bz
  below : Below w.heap.size w wx
set_option maxRecDepth 100000 in
set_option maxHeartbeats 8000000 in
theorem reckon_8 (x y : Int) (w : World) (x0 : -9223372036854775808 ≤ x) (x1 : x ≤ 9223372036854775807) (y0 : -9223372036854775808 ≤ y) (y1 : y ≤ 9223372036854775807) :
    Calls Tryz.prog 65 #[.int .i64 8, .int .i64 x, .int .i64 y] w fun e w' => e = .returned (V (fK (x + y)) (fN (x + y)) nul) ∧ Below w.heap.size w w' := by
  have hres := hat w (O3 0 0 nul) _ rfl
  have hB := (Below.refl w.heap.size w).alloc (Nat.le_refl _) (O3 0 0 nul)
  go_enter Tryz.func65, Tryz.ntmps65
  go_upto_region 1 with fail
  go_cut [7] (fun s7 wx => ∃ bx, s7 = ptr bx ∧ BigInt wx bx (decide (x < 0)) x.natAbs ∧ wx.heap[w.heap.size]? = some (O3 0 0 nul) ∧ Below w.heap.size w wx)
  case first =>
    go_wp2_with fail
    refine (newInt_any x _ x0 x1).mono ?_
    rintro e w1 ⟨⟨b, rfl, hb, hI⟩, q1⟩
    go_wp2_with fail
    go_meet
    case rel => exact ⟨b, rfl, hI, bk hres q1, bnext hB q1 hB.size⟩
  case rest =>
  clear hres hB
  obtain ⟨bx, rfl, hX, hres, hB⟩ := hcut
  go_upto_region 2 with fail
  go_cut [8] (fun s8 wx => ∃ b2, s8 = ptr b2 ∧ BigInt wx b2 (decide (y < 0)) y.natAbs ∧ BigInt wx bx (decide (x < 0)) x.natAbs ∧ wx.heap[w.heap.size]? = some (O3 0 0 nul) ∧ Below w.heap.size w wx)
  case first =>
    go_wp2_with fail
    refine (newInt_any y _ y0 y1).mono ?_
    rintro e w1 ⟨⟨b, rfl, hb, hI⟩, q1⟩
    go_wp2_with fail
    go_meet
    case rel => exact ⟨b, rfl, hI, hX.below q1, bk hres q1, bnext hB q1 hB.size⟩
  case rest =>
  clear hres hB hX
  obtain ⟨b2, rfl, hY, hX, hres, hB⟩ := hcut
  go_upto_region 3 with fail
  go_cut [9] (fun s9 wx => ∃ bz, s9 = ptr bz ∧ KS w bx b2 bz x y wx)
  case first =>
    go_wp2_with fail
    go_meet
    case rel =>
      have hA : Below wc.heap.size wc (wc.alloc (.cells #[.bool false, .slice none 0 0] 146)) := (Below.refl _ _).alloc (Nat.le_refl _) _
      exact ⟨_, rfl, ⟨bkA hres _, hX.below hA, hY.below hA, BigInt.new _ _, lt_of_blk hres, bnext hB hA hB.size⟩⟩
  case rest =>
  clear hres hB hX hY
  obtain ⟨bz, rfl, hK⟩ := hcut
  go_wp2_with fail
  refine (addG bz bx b2 _ _ _ _ _ _ _ hK.z hK.x hK.y (by omega) (by omega)).mono ?_
  rintro e w1 ⟨rfl, ⟨s, z, hz, hs⟩, q1⟩
  have HSV : Hid (sv s z = x + y) := by
    unfold Hid
    rw [hs, sv_new, sv_new]
  clear hs
  have hres : w1.heap[w.heap.size]? = some (O3 0 0 nul) := by rw [(q1 bz (Nat.le_refl _)).block _ hK.lt]; exact hK.res
  have hB : Below w.heap.size w w1 := hK.below.trans (q1 _ (Nat.le_of_lt hK.lt))
  clear hK q1
  go_wp2_with fail
  refine (fits_any bz z _ _ hz).mono ?_
  rintro e w2 ⟨rfl, rfl⟩
  rw [fit_sv, HSV.out]
  cases h : inR (x + y)
  · have HF : Hid (fK (x + y) = 4 ∧ fN (x + y) = 5) := f_no h
    clear h
    go_wp2_with fail
    refine (rbad_any _ _).mono ?_
    rintro e w1 ⟨rfl, q1⟩
    replace hres := bk hres q1
    have hB1 := bnext hB q1 hB.size
    obtain ⟨⟨o0, o1, o2⟩, p0, p1, p2⟩ := cells3 hres
    go_wp2_with fail
    exact bodyPost_ret (v := V 4 5 nul) (by simp [results, Tryz.results65, go_sem, o0, o1, o2]) rfl ⟨by rw [HF.out.1, HF.out.2], hB1.trans (below3 (Nat.le_refl _))⟩
  · have HF : Hid (fK (x + y) = 1 ∧ fN (x + y) = x + y) := f_yes h
    have HI : Hid (inR (sv s z) = true) := by unfold Hid; rw [HSV.out]; exact h
    clear h
    go_wp2_with fail
    refine (int64_any bz z s _ hz HI.out).mono ?_
    rintro e w1 ⟨rfl, rfl⟩
    rw [HSV.out]
    go_wp2_with fail
    refine (rnumB_any _ _).mono ?_
    rintro e w1 ⟨rfl, q1⟩
    replace hres := bk hres q1
    have hB1 := bnext hB q1 hB.size
    obtain ⟨⟨o0, o1, o2⟩, p0, p1, p2⟩ := cells3 hres
    go_wp2_with fail
    exact bodyPost_ret (v := V 1 (x + y) nul) (by simp [results, Tryz.results65, go_sem, o0, o1, o2]) rfl ⟨by rw [HF.out.1, HF.out.2], hB1.trans (below3 (Nat.le_refl _))⟩
set_option maxHeartbeats 1600000 in
theorem rnum14 (k : Int) (h : k = 1 ∨ k = 4) (n : Int) (s : ByteArray) (w : World) : Calls Tryz.prog 64 #[V k n s] w fun e w' => e = .returned (V k n s) ∧ Below w.heap.size w w' := by
  rcases h with rfl | rfl
  · go_enter Tryz.func64, Tryz.ntmps64
    go_wp2_with fail
    exact bodyPost_ret (v := V 1 n s) (by simp [results, Tryz.results64, go_sem]) rfl ⟨rfl, by (repeat (first | exact Below.refl _ _ | assumption | (refine Below.setCell ?_ (by first | omega | (simp <;> omega)) _) | (refine Below.alloc ?_ (by first | omega | (simp <;> omega)) _) | (refine Below.drew ?_) | (refine Below.trans ?_ (Below.mono (by assumption) (by first | omega | (simp <;> omega))))))⟩
  · go_enter Tryz.func64, Tryz.ntmps64
    go_wp2_with fail
    exact bodyPost_ret (v := V 4 n s) (by simp [results, Tryz.results64, go_sem]) rfl ⟨rfl, by (repeat (first | exact Below.refl _ _ | assumption | (refine Below.setCell ?_ (by first | omega | (simp <;> omega)) _) | (refine Below.alloc ?_ (by first | omega | (simp <;> omega)) _) | (refine Below.drew ?_) | (refine Below.trans ?_ (Below.mono (by assumption) (by first | omega | (simp <;> omega))))))⟩
set_option maxRecDepth 100000 in
set_option maxHeartbeats 8000000 in
theorem rtwo8 (k n : Int) (s : ByteArray) (k' n' : Int) (s' : ByteArray) (w : World) (hk : k = 1 ∨ k = 4) (hk' : k' = 1 ∨ k' = 4) (hx : B64 n) (hy : B64 n') :
    Calls Tryz.prog 46 #[.int .i64 8, V k n s, V k' n' s'] w fun e w' => e = .returned (V (t8 ⟨k, n, s⟩ ⟨k', n', s'⟩).k (t8 ⟨k, n, s⟩ ⟨k', n', s'⟩).n (t8 ⟨k, n, s⟩ ⟨k', n', s'⟩).s) ∧ Below w.heap.size w w' := by
  have hS := MS.start w k n s k' n' s'
  have HK : Hid (k = 1 ∨ k = 4) := hk
  have HK' : Hid (k' = 1 ∨ k' = 4) := hk'
  have HF : Hid (∀ wx, Calls Tryz.prog 65 #[.int .i64 8, .int .i64 n, .int .i64 n'] wx fun e w' => e = .returned (V (fK (n + n')) (fN (n + n')) nul) ∧ Below wx.heap.size wx w') := fun wx => reckon_8 n n' wx hx.1 hx.2 hy.1 hy.2
  obtain ⟨R, hR⟩ : ∃ R, t8 ⟨k, n, s⟩ ⟨k', n', s'⟩ = R := ⟨_, rfl⟩
  have HR : Hid (t8 ⟨k, n, s⟩ ⟨k', n', s'⟩ = R) := hR
  rw [hR]
  clear hR hk hk' hx hy
  go_enter Tryz.func46, Tryz.ntmps46
  go_upto_region 4 with fail
  go_cut [] (fun wx => MS w k n s k' n' s' wx)
  case first =>
    obtain ⟨⟨o0, o1, o2⟩, p0, p1, p2⟩ := cells3 hS.a
    go_wp2_with fail
    refine (rnum14 k HK.out n s _).mono ?_
    rintro e w1 ⟨rfl, q1⟩
    replace hS := hS.next q1
    clear o0 o1 o2 p0 p1 p2
    obtain ⟨⟨o0, o1, o2⟩, p0, p1, p2⟩ := cells3 hS.a
    go_wp2_with fail
    go_meet
    case rel => exact ms_setA hS k n s
  case rest =>
  clear hS
  have hS := hcut
  clear hcut
  have ⟨⟨o0, o1, o2⟩, p0, p1, p2⟩ := cells3 hS.b
  go_wp2_with fail
  refine (rnum14 k' HK'.out n' s' _).mono ?_
  rintro e w1 ⟨rfl, q1⟩
  clear o0 o1 o2 p0 p1 p2
  replace hS := hS.next q1
  have hSB := ms_setB hS k' n' s'
  have ⟨⟨o0, o1, o2⟩, p0, p1, p2⟩ := cells3 hS.b
  have ⟨⟨a0, a1, a2⟩, c0, c1, c2⟩ := cells3 hS.a
  have ⟨⟨r0, r1, r2⟩, t0, t1, t2⟩ := cells3 hS.res
  have hB := hSB.below
  cases b4 : (k == 4) with
  | true =>
    go_wp2_with fail
    exact bodyPost_ret (v := V k n s) (by simp [results, Tryz.results46, go_sem, r0, r1, r2]) rfl ⟨by rw [← HR.out, t8_a b4], hB.trans (below3 (by omega))⟩
  | false =>
  cases b5 : (k' == 4) with
  | true =>
    go_wp2_with fail
    exact bodyPost_ret (v := V k' n' s') (by simp [results, Tryz.results46, go_sem, r0, r1, r2]) rfl ⟨by rw [← HR.out, t8_b b4 b5], hB.trans (below3 (by omega))⟩
  | false =>
    go_wp2_with fail
    refine (HF.out _).mono ?_
    rintro e w2 ⟨rfl, q2⟩
    replace hSB := hSB.next q2
    obtain ⟨⟨u0, u1, u2⟩, v0, v1, v2⟩ := cells3 hSB.res
    have hB2 := hSB.below
    go_wp2_with fail
    exact bodyPost_ret (v := V (fK (n + n')) (fN (n + n')) nul) (by simp [results, Tryz.results46, go_sem, u0, u1, u2]) rfl ⟨by rw [← HR.out, t8_c b4 b5], hB2.trans (below3 (by omega))⟩
end Go.Proofs.YtbiikodnfaeceaaGreatDoor.so
