/- What each operator reckons: the program's workings and the reference's, and the reference's Mod. Conditions: as each theorem says. -/
import Derived.Test.YtgoadofnfaidcaaGreatDoorReck2
import Derived.Test.YtgoadofnfaidcaaGreatDoorSgn
namespace Go.Proofs.YtgoadofnfaidcaaGreatDoor
open Go.RowKit
def dvK (x y : Int) : Int := if y = 0 then 4 else fK (x.tdiv y)
def dvN (x y : Int) : Int := if y = 0 then 1 else fN (x.tdiv y)
def mdK (_x y : Int) : Int := if y = 0 then 4 else 1
def mdN (x y : Int) : Int := if y = 0 then 1 else x.fmod y
theorem fits_in {n : Int} (h : B64 n) : ring.fitsB n = true := ring.fits_iff.2 h
theorem ok_f (z : Int) : ring.oK z = fK z ∧ ring.oN z = fN z := by
  by_cases h : B64 z
  · have := f_yes (inR_iff.2 h)
    rw [ring.oK_yes (fits_in h), ring.oN_yes (fits_in h), this.1, this.2]
    exact ⟨rfl, rfl⟩
  · have hn : ¬ ring.fitsB z = true := fun q => h (ring.fits_iff.1 q)
    have := f_no (z := z) (by cases q : inR z; rfl; exact absurd (inR_iff.1 q) h)
    rw [ring.oK_no hn, ring.oN_no hn, this.1, this.2]
    exact ⟨rfl, rfl⟩
theorem works_add : Works 43 (fun x y => fK (x + y)) (fun x y => fN (x + y)) := fun x y w hx hy => by
  have := ring.add_any x y w (fits_in hx) (fits_in hy)
  rw [(ok_f (x + y)).1, (ok_f (x + y)).2] at this
  exact this
theorem works_mul : Works 44 (fun x y => fK (x * y)) (fun x y => fN (x * y)) := fun x y w hx hy => by
  have := ring.mul_any x y w (fits_in hx) (fits_in hy)
  rw [(ok_f (x * y)).1, (ok_f (x * y)).2] at this
  exact this
theorem works_div : Works 45 dvK dvN := fun x y w hx hy => by
  by_cases h : y = 0
  · subst h
    exact ring.div_zero x w
  · have := ring.div_any x y w (fits_in hx) (fits_in hy) h
    rw [(ok_f (x.tdiv y)).1, (ok_f (x.tdiv y)).2] at this
    unfold dvK dvN
    rw [if_neg h, if_neg h]
    exact this
theorem works_mod : Works 48 mdK mdN := fun x y w hx hy => by
  by_cases h : y = 0
  · subst h
    exact ring.mod_zero x w
  · unfold mdK mdN
    rw [if_neg h, if_neg h]
    exact ring.mod_any x y w (fits_in hy) h
set_option maxRecDepth 100000 in
set_option maxHeartbeats 4000000 in
theorem reckon_11z (x : Int) (w : World) (x0 : -9223372036854775808 ≤ x) (x1 : x ≤ 9223372036854775807) :
    Calls Tryz.prog 38 #[.int .i64 11, .int .i64 x, .int .i64 0] w fun e w' => e = .returned (V 4 1 nul) ∧ Below w.heap.size w w' := by
  have hres := hat w (O3 0 0 nul) _ rfl
  have hB := (Below.refl w.heap.size w).alloc (Nat.le_refl _) (O3 0 0 nul)
  go_enter Tryz.func38, Tryz.ntmps38
  go_wp2_with fail
  refine (newInt_any x _ x0 x1).mono ?_
  rintro e w1 ⟨⟨b, rfl, hb, hI⟩, q1⟩
  replace hres := bk hres q1
  replace hB := bnext hB q1 hB.size
  go_wp2_with fail
  refine (newInt_any 0 _ (by omega) (by omega)).mono ?_
  rintro e w2 ⟨⟨b', rfl, hb', hI'⟩, q2⟩
  replace hres := bkA (bk hres q2) (.cells #[.bool false, .slice none 0 0] 53)
  replace hB := bnext hB q2 hB.size
  replace hB := hB.alloc hB.size (.cells #[.bool false, .slice none 0 0] 53)
  go_wp2_with fail
  refine (rbad_any _ _).mono ?_
  rintro e w3 ⟨rfl, q3⟩
  replace hres := bk hres q3
  have hB1 := bnext hB q3 hB.size
  obtain ⟨⟨o0, o1, o2⟩, p0, p1, p2⟩ := cells3 hres
  go_wp2_with fail
  exact bodyPost_ret (v := V 4 1 nul) (by simp [results, Tryz.results38, go_sem, o0, o1, o2]) rfl ⟨rfl, hB1.trans (below3 (Nat.le_refl _))⟩
theorem recks_8 : Recks 8 (fun x y => fK (x + y)) (fun x y => fN (x + y)) := fun x y w hx hy => reckon_8 x y w hx.1 hx.2 hy.1 hy.2
theorem recks_10 : Recks 10 (fun x y => fK (x * y)) (fun x y => fN (x * y)) := fun x y w hx hy => reckon_10 x y w hx.1 hx.2 hy.1 hy.2
theorem recks_11 : Recks 11 dvK dvN := fun x y w hx hy => by
  by_cases h : y = 0
  · subst h
    exact reckon_11z x w hx.1 hx.2
  · unfold dvK dvN
    rw [if_neg h, if_neg h]
    exact reckon_11 x y w h hx.1 hx.2 hy.1 hy.2
/-- A rest of y's sign. -/
theorem fm_same {x y : Int} (h0 : y ≠ 0) (h : x.tmod y = 0 ∨ cmpI (x.tmod y) 0 = cmpI y 0) : x.fmod y = x.tmod y := by
  rw [ring.fmod_of_tmod h0, if_neg]
  rintro ⟨h1, h2⟩
  rcases h with h | h
  · exact h1 h
  · apply h2
    unfold cmpI at h
    constructor
    · intro q
      rw [if_pos q] at h
      by_cases r : y < 0
      · exact r
      · rw [if_neg r] at h; split at h <;> omega
    · intro q
      rw [if_pos q] at h
      by_cases r : x.tmod y < 0
      · exact r
      · rw [if_neg r] at h; split at h <;> omega
theorem fm_other {x y : Int} (h0 : y ≠ 0) (h1 : x.tmod y ≠ 0) (h : cmpI (x.tmod y) 0 ≠ cmpI y 0) : x.fmod y = x.tmod y + y := by
  rw [ring.fmod_of_tmod h0, if_pos]
  refine ⟨h1, fun q => h ?_⟩
  unfold cmpI
  by_cases r : y < 0
  · rw [if_pos r, if_pos (q.2 r)]
  · rw [if_neg r, if_neg (fun z => r (q.1 z)), if_pos (by omega), if_pos (by omega)]
theorem MS.keep {w wx wy : World} {k n : Int} {s : ByteArray} {k' n' : Int} {s' : ByteArray} (h : MS w k n s k' n' s' wx) {B : Nat} (hb : Below B wx wy) (hB : w.heap.size + 2 < B) : MS w k n s k' n' s' wy :=
  ⟨by rw [hb.block _ (by omega)]; exact h.a, by rw [hb.block _ (by omega)]; exact h.b, by rw [hb.block _ (by omega)]; exact h.res, h.below.trans (hb.mono (by omega))⟩
set_option maxRecDepth 100000 in
set_option maxHeartbeats 16000000 in
theorem rmod_any (k n : Int) (s : ByteArray) (k' n' : Int) (s' : ByteArray) (w : World) (hv : isVal k n s = true) (hv' : isVal k' n' s' = true) (hb : B64 n) (hb' : B64 n') :
    Calls Tryz.prog 20 #[V k n s, V k' n' s'] w fun e w' => e = .returned (V (ofK mdK k n s k' n' s') (ofN mdN k n s k' n' s') (ofS k s k' s')) ∧ Below w.heap.size w w' := by
  have hS := MS.start w k n s k' n' s'
  have hx := nbN_bd (k := k) (s := s) hb
  have hy := nbN_bd (k := k') (s := s') hb'
  have HV : Hid (isVal k n s = true) := hv
  have HV' : Hid (isVal k' n' s' = true) := hv'
  have HA := @of_a mdK mdN k n s k' n' s'
  have HBB := @of_b mdK mdN k n s k' n' s'
  have HC := @of_c mdK mdN k n s k' n' s'
  obtain ⟨xk, hxk⟩ : ∃ xk, nbK k s = xk := ⟨_, rfl⟩
  obtain ⟨xn, hxn⟩ : ∃ xn, nbN k n s = xn := ⟨_, rfl⟩
  obtain ⟨xs, hxs⟩ : ∃ xs, nbS k s = xs := ⟨_, rfl⟩
  obtain ⟨yk, hyk⟩ : ∃ yk, nbK k' s' = yk := ⟨_, rfl⟩
  obtain ⟨yn, hyn⟩ : ∃ yn, nbN k' n' s' = yn := ⟨_, rfl⟩
  obtain ⟨ys, hys⟩ : ∃ ys, nbS k' s' = ys := ⟨_, rfl⟩
  rw [hxk, hxn, hxs] at HA
  rw [hxk, hyk, hyn, hys] at HBB
  rw [hxk, hyk, hxn, hyn] at HC
  rw [hxn] at hx
  rw [hyn] at hy
  have HX : Hid (nbK k s = xk ∧ nbN k n s = xn ∧ nbS k s = xs) := ⟨hxk, hxn, hxs⟩
  have HY : Hid (nbK k' s' = yk ∧ nbN k' n' s' = yn ∧ nbS k' s' = ys) := ⟨hyk, hyn, hys⟩
  have HHA : Hid (xk = 4 → ofK mdK k n s k' n' s' = xk ∧ ofN mdN k n s k' n' s' = xn ∧ ofS k s k' s' = xs) := HA
  have HHB : Hid (¬ xk = 4 → yk = 4 → ofK mdK k n s k' n' s' = yk ∧ ofN mdN k n s k' n' s' = yn ∧ ofS k s k' s' = ys) := HBB
  have HHC : Hid (¬ xk = 4 → ¬ yk = 4 → ofK mdK k n s k' n' s' = mdK xn yn ∧ ofN mdN k n s k' n' s' = mdN xn yn ∧ ofS k s k' s' = nul) := HC
  clear hv hv' HA HBB HC hxk hxn hxs hyk hyn hys
  go_enter Tryz.func20, Tryz.ntmps20
  go_upto_region 1 with fail
  go_cut [] (fun wx => MS w xk xn xs k' n' s' wx)
  case first =>
    obtain ⟨⟨o0, o1, o2⟩, p0, p1, p2⟩ := cells3 hS.a
    go_wp2_with fail
    refine (rnumber_any k n s _ HV.out).mono ?_
    rintro e w1 ⟨rfl, q1⟩
    rw [HX.out.1, HX.out.2.1, HX.out.2.2]
    replace hS := hS.next q1
    clear o0 o1 o2 p0 p1 p2
    obtain ⟨⟨o0, o1, o2⟩, p0, p1, p2⟩ := cells3 hS.a
    go_wp2_with fail
    go_meet
    case rel => exact hS.setA xk xn xs
  case rest =>
  clear hS HX
  have hS := hcut
  clear hcut
  go_upto_region 2 with fail
  go_cut [] (fun wx => MS w xk xn xs yk yn ys wx)
  case first =>
    obtain ⟨⟨o0, o1, o2⟩, p0, p1, p2⟩ := cells3 hS.b
    go_wp2_with fail
    refine (rnumber_any k' n' s' _ HV'.out).mono ?_
    rintro e w1 ⟨rfl, q1⟩
    rw [HY.out.1, HY.out.2.1, HY.out.2.2]
    replace hS := hS.next q1
    clear o0 o1 o2 p0 p1 p2
    obtain ⟨⟨o0, o1, o2⟩, p0, p1, p2⟩ := cells3 hS.b
    go_wp2_with fail
    go_meet
    case rel => exact hS.setB yk yn ys
  case rest =>
  clear hS HY
  have hS := hcut
  clear hcut
  have ⟨⟨o0, o1, o2⟩, p0, p1, p2⟩ := cells3 hS.b
  have ⟨⟨a0, a1, a2⟩, c0, c1, c2⟩ := cells3 hS.a
  have ⟨⟨r0, r1, r2⟩, t0, t1, t2⟩ := cells3 hS.res
  have hB := hS.below
  by_cases h4 : xk = 4
  · have b4 : (xk == 4) = true := beq_iff_eq.2 h4
    have HR' : Hid (ofK mdK k n s k' n' s' = xk ∧ ofN mdN k n s k' n' s' = xn ∧ ofS k s k' s' = xs) := HHA.out h4
    clear HHA HHB HHC h4
    go_wp2_with fail
    exact bodyPost_ret (v := V xk xn xs) (by simp [results, Tryz.results20, go_sem, r0, r1, r2]) rfl ⟨by rw [HR'.out.1, HR'.out.2.1, HR'.out.2.2], hB.trans (below3 (by omega))⟩
  have b4 : (xk == 4) = false := beq_eq_false_iff_ne.2 h4
  have N4 : Hid (¬ xk = 4) := h4
  clear h4 HHA
  by_cases h5 : yk = 4
  · have b5 : (yk == 4) = true := beq_iff_eq.2 h5
    have HR' : Hid (ofK mdK k n s k' n' s' = yk ∧ ofN mdN k n s k' n' s' = yn ∧ ofS k s k' s' = ys) := HHB.out N4.out h5
    clear HHB HHC h5
    go_wp2_with fail
    exact bodyPost_ret (v := V yk yn ys) (by simp [results, Tryz.results20, go_sem, r0, r1, r2]) rfl ⟨by rw [HR'.out.1, HR'.out.2.1, HR'.out.2.2], hB.trans (below3 (by omega))⟩
  have b5 : (yk == 4) = false := beq_eq_false_iff_ne.2 h5
  have HR0 : ofK mdK k n s k' n' s' = mdK xn yn ∧ ofN mdN k n s k' n' s' = mdN xn yn ∧ ofS k s k' s' = nul := HHC.out N4.out h5
  clear HHB HHC h5 N4
  by_cases hy0 : yn = 0
  · have HR' : Hid (ofK mdK k n s k' n' s' = 4 ∧ ofN mdN k n s k' n' s' = 1 ∧ ofS k s k' s' = nul) := by
      rw [HR0.1, HR0.2.1, HR0.2.2]
      unfold Hid mdK mdN
      rw [if_pos hy0, if_pos hy0]
      exact ⟨rfl, rfl, rfl⟩
    have b6 : (yn == 0) = true := beq_iff_eq.2 hy0
    clear HR0 hy0
    go_wp2_with fail
    refine (rbad_any _ _).mono ?_
    rintro e w1 ⟨rfl, q1⟩
    clear r0 r1 r2 t0 t1 t2
    replace hS := hS.next q1
    obtain ⟨⟨r0, r1, r2⟩, t0, t1, t2⟩ := cells3 hS.res
    have hB1 := hS.below
    go_wp2_with fail
    exact bodyPost_ret (v := V 4 1 nul) (by simp [results, Tryz.results20, go_sem, r0, r1, r2]) rfl ⟨by rw [HR'.out.1, HR'.out.2.1, HR'.out.2.2], hB1.trans (below3 (by omega))⟩
  have HR' : Hid (ofK mdK k n s k' n' s' = 1 ∧ ofN mdN k n s k' n' s' = xn.fmod yn ∧ ofS k s k' s' = nul) := by
    rw [HR0.1, HR0.2.1, HR0.2.2]
    unfold Hid mdK mdN
    rw [if_neg hy0, if_neg hy0]
    exact ⟨rfl, rfl, rfl⟩
  have b6 : (yn == 0) = false := beq_eq_false_iff_ne.2 hy0
  have HY0 : Hid (yn ≠ 0) := hy0
  have HFit : Hid (inR (xn.fmod yn) = true) := inR_iff.2 (ring.fits_iff.1 (ring.fits_fmod (fits_in hy) hy0))
  clear HR0 hy0
  go_wp2_with fail
  refine (newInt_any xn _ hx.1 hx.2).mono ?_
  rintro e w1 ⟨⟨bx, rfl, hbx, hX⟩, q1⟩
  clear o0 o1 o2 p0 p1 p2 a0 a1 a2 c0 c1 c2 r0 r1 r2 t0 t1 t2
  replace hS := hS.next q1
  have ⟨⟨o0, o1, o2⟩, p0, p1, p2⟩ := cells3 hS.b
  go_wp2_with fail
  refine (newInt_any yn _ hy.1 hy.2).mono ?_
  rintro e w2 ⟨⟨b2, rfl, hb2, hY⟩, q2⟩
  clear o0 o1 o2 p0 p1 p2
  replace hS := hS.next q2
  replace hX := hX.below q2
  have hlt2 : w.heap.size + 2 < w2.heap.size := hS.lt
  have hA : Below w2.heap.size w2 (w2.alloc (.cells #[.bool false, .slice none 0 0] 53)) := (Below.refl _ _).alloc (Nat.le_refl _) _
  have hZ := BigInt.new w2 53
  have hltY := hY.lt
  obtain ⟨z, hz⟩ : ∃ z, z = xn.natAbs % yn.natAbs := ⟨_, rfl⟩
  obtain ⟨t, ht⟩ : ∃ t, t = xn.tmod yn := ⟨_, rfl⟩
  have HSv : Hid (sv (decide (xn < 0)) z = t) := by unfold Hid; rw [hz, ht]; exact sv_rem xn yn
  have HT : Hid (t = xn.tmod yn) := ht
  have HRem := rem_any w2.heap.size bx b2 _ _ _ _ _ _ _ hZ (hX.below hA) (hY.below hA) (by omega) (by have := HY0.out; omega) (by omega)
  rw [← hz] at HRem
  have HRem' := HRem
  clear HRem hz ht hX hZ
  go_wp2_with fail
  refine HRem'.mono ?_
  rintro e w3 ⟨rfl, hM, q3⟩
  have q3' : Below w2.heap.size w2 w3 := hA.trans (q3 _ (Nat.le_refl _))
  replace hS := hS.next q3'
  replace hY := hY.below q3'
  clear q3 q3' hA
  have hYs : BigInt w3 b2 (decide (yn < 0) && decide (yn.natAbs ≠ 0)) yn.natAbs := by
    have e1 : (decide (yn < 0) && decide (yn.natAbs ≠ 0)) = decide (yn < 0) := by
      have := HY0.out
      rw [decide_eq_true (by omega : yn.natAbs ≠ 0), Bool.and_true]
    rw [e1]
    exact hY
  by_cases ht0 : t = 0
  · have HF : Hid (sv (decide (xn < 0)) z = xn.fmod yn) := by
      unfold Hid
      rw [HSv.out, HT.out, fm_same HY0.out (Or.inl (by rw [← HT.out]; exact ht0))]
    have HC : Hid (cmpI t 0 = 0) := by unfold Hid; rw [ht0]; rfl
    clear ht0
    go_wp2_with fail
    refine (sign_any _ z _ _ hM).mono ?_
    rintro e w4 ⟨rfl, rfl⟩
    rw [HSv.out, HC.out]
    go_wp2_with fail
    refine (int64_any w2.heap.size z (decide (xn < 0)) _ hM (by rw [HF.out]; exact HFit.out)).mono ?_
    rintro e w8 ⟨rfl, rfl⟩
    rw [HF.out]
    go_wp2_with fail
    refine (rnum_any _ _).mono ?_
    rintro e w9 ⟨rfl, q9⟩
    replace hS := hS.next q9
    obtain ⟨⟨r0, r1, r2⟩, t0, t1, t2⟩ := cells3 hS.res
    have hB1 := hS.below
    go_wp2_with fail
    exact bodyPost_ret (v := V 1 (xn.fmod yn) nul) (by simp [results, Tryz.results20, go_sem, r0, r1, r2]) rfl ⟨by rw [HR'.out.1, HR'.out.2.1, HR'.out.2.2], hB1.trans (below3 (by omega))⟩
  · have hc0 : (cmpI t 0 != 0) = true := by
      rw [bne_iff_ne]
      unfold cmpI
      split
      · decide
      · split
        · decide
        · omega
    have HT0 : Hid (t ≠ 0) := ht0
    clear ht0
    by_cases hcs : cmpI t 0 = cmpI yn 0
    · have HF : Hid (sv (decide (xn < 0)) z = xn.fmod yn) := by
        unfold Hid
        rw [HSv.out, HT.out, fm_same HY0.out (Or.inr (by rw [← HT.out]; exact hcs))]
      have hcc : (cmpI t 0 != cmpI yn 0) = false := by rw [bne_eq_false_iff_eq]; exact hcs
      clear hcs
      go_wp2_with fail
      refine (sign_any _ z _ _ hM).mono ?_
      rintro e w4 ⟨rfl, rfl⟩
      rw [HSv.out]
      go_wp2_with fail
      refine (sign_any _ z _ _ hM).mono ?_
      rintro e w4 ⟨rfl, rfl⟩
      rw [HSv.out]
      go_wp2_with fail
      refine (sign_any _ _ _ _ hYs).mono ?_
      rintro e w4 ⟨rfl, rfl⟩
      rw [sv_new]
      go_wp2_with fail
      refine (int64_any w2.heap.size z (decide (xn < 0)) _ hM (by rw [HF.out]; exact HFit.out)).mono ?_
      rintro e w8 ⟨rfl, rfl⟩
      rw [HF.out]
      go_wp2_with fail
      refine (rnum_any _ _).mono ?_
      rintro e w9 ⟨rfl, q9⟩
      replace hS := hS.next q9
      obtain ⟨⟨r0, r1, r2⟩, t0, t1, t2⟩ := cells3 hS.res
      have hB1 := hS.below
      go_wp2_with fail
      exact bodyPost_ret (v := V 1 (xn.fmod yn) nul) (by simp [results, Tryz.results20, go_sem, r0, r1, r2]) rfl ⟨by rw [HR'.out.1, HR'.out.2.1, HR'.out.2.2], hB1.trans (below3 (by omega))⟩
    · have HF : Hid (xn.fmod yn = t + yn) := by
        unfold Hid
        rw [HT.out]
        exact fm_other HY0.out (by rw [← HT.out]; exact HT0.out) (by rw [← HT.out]; exact hcs)
      have hcc : (cmpI t 0 != cmpI yn 0) = true := bne_iff_ne.2 hcs
      have hz64 : z < 18446744073709551616 := by
        have h1 := HSv.out
        have h2 := HT.out
        have h3 : z = (sv (decide (xn < 0)) z).natAbs := by unfold sv; split <;> omega
        rw [h3, h1, h2]
        have := Int.natAbs_tmod xn yn
        rw [this]
        exact Nat.lt_of_le_of_lt (Nat.mod_le _ _) (by omega)
      clear hcs
      go_wp2_with fail
      refine (sign_any _ z _ _ hM).mono ?_
      rintro e w4 ⟨rfl, rfl⟩
      rw [HSv.out]
      go_wp2_with fail
      refine (sign_any _ z _ _ hM).mono ?_
      rintro e w4 ⟨rfl, rfl⟩
      rw [HSv.out]
      go_wp2_with fail
      refine (sign_any _ _ _ _ hYs).mono ?_
      rintro e w4 ⟨rfl, rfl⟩
      rw [sv_new]
      go_wp2_with fail
      refine (addG w2.heap.size w2.heap.size b2 _ _ _ _ _ _ _ hM hM hY hz64 (by omega)).mono ?_
      rintro e w5 ⟨rfl, ⟨s5, z5, hM5, hs5⟩, q5⟩
      have HF5 : Hid (sv s5 z5 = xn.fmod yn) := by
        unfold Hid
        rw [hs5, HF.out, sv_new]
        have e2 : sv (decide (xn < 0) && decide (z ≠ 0)) z = sv (decide (xn < 0)) z := by
          by_cases q : z = 0
          · rw [q]; unfold sv; cases decide (xn < 0) <;> rfl
          · rw [decide_eq_true q, Bool.and_true]
        rw [e2, HSv.out]
      replace hS := hS.keep (q5 w2.heap.size (Nat.le_refl _)) hlt2
      clear hs5 q5 hM hY hYs HF
      go_wp2_with fail
      refine (int64_any w2.heap.size z5 s5 _ hM5 (by rw [HF5.out]; exact HFit.out)).mono ?_
      rintro e w8 ⟨rfl, rfl⟩
      rw [HF5.out]
      go_wp2_with fail
      refine (rnum_any _ _).mono ?_
      rintro e w9 ⟨rfl, q9⟩
      replace hS := hS.next q9
      obtain ⟨⟨r0, r1, r2⟩, t0, t1, t2⟩ := cells3 hS.res
      have hB1 := hS.below
      go_wp2_with fail
      exact bodyPost_ret (v := V 1 (xn.fmod yn) nul) (by simp [results, Tryz.results20, go_sem, r0, r1, r2]) rfl ⟨by rw [HR'.out.1, HR'.out.2.1, HR'.out.2.2], hB1.trans (below3 (by omega))⟩
end Go.Proofs.YtgoadofnfaidcaaGreatDoor
