/- What works on the Numbers of two values, for the other workings. Conditions: as each theorem says. -/
import Derived.Test.YtgoadofnfaidcaaGreatDoorOfN
namespace Go.Proofs.YtgoadofnfaidcaaGreatDoor
open Go.RowKit
set_option maxRecDepth 100000 in
set_option maxHeartbeats 8000000 in
theorem ofAdd (K M : Int → Int → Int) (hF : Works 43 K M) (k n : Int) (s : ByteArray) (k' n' : Int) (s' : ByteArray) (w : World) (hv : isVal k n s = true) (hv' : isVal k' n' s' = true) (hb : B64 n) (hb' : B64 n') (hE : Env w) :
    Calls Tryz.prog 31 #[V k n s, V k' n' s', .func (.func 43) #[] #[]] w fun e w' => e = .returned (V (ofK K k n s k' n' s') (ofN M k n s k' n' s') (ofS k s k' s')) ∧ Below w.heap.size w w' := by
  have hS := MS.start w k n s k' n' s'
  have hx := nbN_bd (k := k) (s := s) hb
  have hy := nbN_bd (k := k') (s := s') hb'
  have HV : Hid (isVal k n s = true) := hv
  have HV' : Hid (isVal k' n' s' = true) := hv'
  have HA := @of_a K M k n s k' n' s'
  have HBB := @of_b K M k n s k' n' s'
  have HC := @of_c K M k n s k' n' s'
  obtain ⟨xk, hxk⟩ : ∃ xk, nbK k s = xk := ⟨_, rfl⟩
  obtain ⟨xn, hxn⟩ : ∃ xn, nbN k n s = xn := ⟨_, rfl⟩
  obtain ⟨xs, hxs⟩ : ∃ xs, nbS k s = xs := ⟨_, rfl⟩
  obtain ⟨yk, hyk⟩ : ∃ yk, nbK k' s' = yk := ⟨_, rfl⟩
  obtain ⟨yn, hyn⟩ : ∃ yn, nbN k' n' s' = yn := ⟨_, rfl⟩
  obtain ⟨ys, hys⟩ : ∃ ys, nbS k' s' = ys := ⟨_, rfl⟩
  rw [hxk, hxn, hxs] at HA
  rw [hxk, hyk, hyn, hys] at HBB
  rw [hxk, hyk, hxn, hyn] at HC
  rw [hxn] at hx
  rw [hyn] at hy
  have HX : Hid (nbK k s = xk ∧ nbN k n s = xn ∧ nbS k s = xs) := ⟨hxk, hxn, hxs⟩
  have HY : Hid (nbK k' s' = yk ∧ nbN k' n' s' = yn ∧ nbS k' s' = ys) := ⟨hyk, hyn, hys⟩
  have HHA : Hid (xk = 4 → ofK K k n s k' n' s' = xk ∧ ofN M k n s k' n' s' = xn ∧ ofS k s k' s' = xs) := HA
  have HHB : Hid (¬ xk = 4 → yk = 4 → ofK K k n s k' n' s' = yk ∧ ofN M k n s k' n' s' = yn ∧ ofS k s k' s' = ys) := HBB
  have HHC : Hid (¬ xk = 4 → ¬ yk = 4 → ofK K k n s k' n' s' = K xn yn ∧ ofN M k n s k' n' s' = M xn yn ∧ ofS k s k' s' = nul) := HC
  clear hv hv' HA HBB HC hxk hxn hxs hyk hyn hys
  have HF : Hid (Works 43 K M) := hF
  clear hF
  go_enter Tryz.func31, Tryz.ntmps31
  go_upto_region 1 with fail
  go_cut [7] (fun s7 wx => ∃ b7, s7 = ptr b7 ∧ wx.heap[b7]? = some (O3 xk xn xs) ∧ MS w k n s k' n' s' wx)
  case first =>
    obtain ⟨⟨o0, o1, o2⟩, p0, p1, p2⟩ := cells3 hS.a
    go_wp2_with fail
    refine (pnumber_any k n s _ HV.out (hS.env hE)).mono ?_
    rintro e w1 ⟨rfl, q1⟩
    rw [HX.out.1, HX.out.2.1, HX.out.2.2]
    replace hS := hS.next q1
    go_wp2_with fail
    go_meet
    case rel => exact ⟨_, rfl, hat _ _ _ rfl, hS.alloc _⟩
  case rest =>
  clear hS HX
  obtain ⟨b7, rfl, h7, hS⟩ := hcut
  by_cases h4 : xk = 4
  · have b4 : (xk == 4) = true := beq_iff_eq.2 h4
    have HR := HHA.out h4
    have HR' : Hid (ofK K k n s k' n' s' = xk ∧ ofN M k n s k' n' s' = xn ∧ ofS k s k' s' = xs) := HR
    clear HR HHA HHB HHC h4
    obtain ⟨⟨o0, o1, o2⟩, p0, p1, p2⟩ := cells3 hS.res
    obtain ⟨⟨e0, e1, e2⟩, f0, f1, f2⟩ := cells3 h7
    have hB := hS.below
    go_wp2_with fail
    exact bodyPost_ret (v := V xk xn xs) (by simp [results, Tryz.results31, go_sem, o0, o1, o2]) rfl ⟨by rw [HR'.out.1, HR'.out.2.1, HR'.out.2.2], hB.trans (below3 (by omega))⟩
  have b4 : (xk == 4) = false := beq_eq_false_iff_ne.2 h4
  have N4 : Hid (¬ xk = 4) := h4
  clear h4 HHA
  go_upto_region 2 with fail
  go_cut [13] (fun s13 wx => s13 = .bool false ∧ wx = wc)
  case first =>
    obtain ⟨⟨e0, e1, e2⟩, f0, f1, f2⟩ := cells3 h7
    go_wp2_with fail
    go_meet
    case rel => exact ⟨rfl, rfl⟩
  case rest =>
  obtain ⟨rfl, rfl⟩ := hcut
  go_upto_region 4 with fail
  go_cut [8] (fun s8 wx => ∃ b8, s8 = ptr b8 ∧ wx.heap[b8]? = some (O3 yk yn ys) ∧ wx.heap[b7]? = some (O3 xk xn xs) ∧ MS w k n s k' n' s' wx)
  case first =>
    obtain ⟨⟨o0, o1, o2⟩, p0, p1, p2⟩ := cells3 hS.b
    go_wp2_with fail
    refine (pnumber_any k' n' s' _ HV'.out (hS.env hE)).mono ?_
    rintro e w1 ⟨rfl, q1⟩
    rw [HY.out.1, HY.out.2.1, HY.out.2.2]
    replace hS := hS.next q1
    replace h7 := bk h7 q1
    go_wp2_with fail
    go_meet
    case rel => exact ⟨_, rfl, hat _ _ _ rfl, bkA h7 _, hS.alloc _⟩
  case rest =>
  clear hS HY h7
  obtain ⟨b8, rfl, h8, h7, hS⟩ := hcut
  obtain ⟨⟨e0, e1, e2⟩, f0, f1, f2⟩ := cells3 h8
  obtain ⟨⟨g0, g1, g2⟩, i0, i1, i2⟩ := cells3 h7
  by_cases h4 : yk = 4
  · have b5 : (yk == 4) = true := beq_iff_eq.2 h4
    have HR' : Hid (ofK K k n s k' n' s' = yk ∧ ofN M k n s k' n' s' = yn ∧ ofS k s k' s' = ys) := HHB.out N4.out h4
    clear HHB HHC h4
    obtain ⟨⟨o0, o1, o2⟩, p0, p1, p2⟩ := cells3 hS.res
    have hB := hS.below
    go_wp2_with fail
    exact bodyPost_ret (v := V yk yn ys) (by simp [results, Tryz.results31, go_sem, o0, o1, o2]) rfl ⟨by rw [HR'.out.1, HR'.out.2.1, HR'.out.2.2], hB.trans (below3 (by omega))⟩
  · have b5 : (yk == 4) = false := beq_eq_false_iff_ne.2 h4
    have HR' : Hid (ofK K k n s k' n' s' = K xn yn ∧ ofN M k n s k' n' s' = M xn yn ∧ ofS k s k' s' = nul) := HHC.out N4.out h4
    clear HHB HHC h4
    go_wp2_with fail
    refine (HF.out xn yn _ hx hy).mono ?_
    rintro e w1 ⟨rfl, q1⟩
    replace hS := hS.next q1
    obtain ⟨⟨o0, o1, o2⟩, p0, p1, p2⟩ := cells3 hS.res
    have hB := hS.below
    go_wp2_with fail
    exact bodyPost_ret (v := V (K xn yn) (M xn yn) nul) (by simp [results, Tryz.results31, go_sem, o0, o1, o2]) rfl ⟨by rw [HR'.out.1, HR'.out.2.1, HR'.out.2.2], hB.trans (below3 (by omega))⟩
set_option maxRecDepth 100000 in
set_option maxHeartbeats 8000000 in
theorem ofMul (K M : Int → Int → Int) (hF : Works 44 K M) (k n : Int) (s : ByteArray) (k' n' : Int) (s' : ByteArray) (w : World) (hv : isVal k n s = true) (hv' : isVal k' n' s' = true) (hb : B64 n) (hb' : B64 n') (hE : Env w) :
    Calls Tryz.prog 31 #[V k n s, V k' n' s', .func (.func 44) #[] #[]] w fun e w' => e = .returned (V (ofK K k n s k' n' s') (ofN M k n s k' n' s') (ofS k s k' s')) ∧ Below w.heap.size w w' := by
  have hS := MS.start w k n s k' n' s'
  have hx := nbN_bd (k := k) (s := s) hb
  have hy := nbN_bd (k := k') (s := s') hb'
  have HV : Hid (isVal k n s = true) := hv
  have HV' : Hid (isVal k' n' s' = true) := hv'
  have HA := @of_a K M k n s k' n' s'
  have HBB := @of_b K M k n s k' n' s'
  have HC := @of_c K M k n s k' n' s'
  obtain ⟨xk, hxk⟩ : ∃ xk, nbK k s = xk := ⟨_, rfl⟩
  obtain ⟨xn, hxn⟩ : ∃ xn, nbN k n s = xn := ⟨_, rfl⟩
  obtain ⟨xs, hxs⟩ : ∃ xs, nbS k s = xs := ⟨_, rfl⟩
  obtain ⟨yk, hyk⟩ : ∃ yk, nbK k' s' = yk := ⟨_, rfl⟩
  obtain ⟨yn, hyn⟩ : ∃ yn, nbN k' n' s' = yn := ⟨_, rfl⟩
  obtain ⟨ys, hys⟩ : ∃ ys, nbS k' s' = ys := ⟨_, rfl⟩
  rw [hxk, hxn, hxs] at HA
  rw [hxk, hyk, hyn, hys] at HBB
  rw [hxk, hyk, hxn, hyn] at HC
  rw [hxn] at hx
  rw [hyn] at hy
  have HX : Hid (nbK k s = xk ∧ nbN k n s = xn ∧ nbS k s = xs) := ⟨hxk, hxn, hxs⟩
  have HY : Hid (nbK k' s' = yk ∧ nbN k' n' s' = yn ∧ nbS k' s' = ys) := ⟨hyk, hyn, hys⟩
  have HHA : Hid (xk = 4 → ofK K k n s k' n' s' = xk ∧ ofN M k n s k' n' s' = xn ∧ ofS k s k' s' = xs) := HA
  have HHB : Hid (¬ xk = 4 → yk = 4 → ofK K k n s k' n' s' = yk ∧ ofN M k n s k' n' s' = yn ∧ ofS k s k' s' = ys) := HBB
  have HHC : Hid (¬ xk = 4 → ¬ yk = 4 → ofK K k n s k' n' s' = K xn yn ∧ ofN M k n s k' n' s' = M xn yn ∧ ofS k s k' s' = nul) := HC
  clear hv hv' HA HBB HC hxk hxn hxs hyk hyn hys
  have HF : Hid (Works 44 K M) := hF
  clear hF
  go_enter Tryz.func31, Tryz.ntmps31
  go_upto_region 1 with fail
  go_cut [7] (fun s7 wx => ∃ b7, s7 = ptr b7 ∧ wx.heap[b7]? = some (O3 xk xn xs) ∧ MS w k n s k' n' s' wx)
  case first =>
    obtain ⟨⟨o0, o1, o2⟩, p0, p1, p2⟩ := cells3 hS.a
    go_wp2_with fail
    refine (pnumber_any k n s _ HV.out (hS.env hE)).mono ?_
    rintro e w1 ⟨rfl, q1⟩
    rw [HX.out.1, HX.out.2.1, HX.out.2.2]
    replace hS := hS.next q1
    go_wp2_with fail
    go_meet
    case rel => exact ⟨_, rfl, hat _ _ _ rfl, hS.alloc _⟩
  case rest =>
  clear hS HX
  obtain ⟨b7, rfl, h7, hS⟩ := hcut
  by_cases h4 : xk = 4
  · have b4 : (xk == 4) = true := beq_iff_eq.2 h4
    have HR := HHA.out h4
    have HR' : Hid (ofK K k n s k' n' s' = xk ∧ ofN M k n s k' n' s' = xn ∧ ofS k s k' s' = xs) := HR
    clear HR HHA HHB HHC h4
    obtain ⟨⟨o0, o1, o2⟩, p0, p1, p2⟩ := cells3 hS.res
    obtain ⟨⟨e0, e1, e2⟩, f0, f1, f2⟩ := cells3 h7
    have hB := hS.below
    go_wp2_with fail
    exact bodyPost_ret (v := V xk xn xs) (by simp [results, Tryz.results31, go_sem, o0, o1, o2]) rfl ⟨by rw [HR'.out.1, HR'.out.2.1, HR'.out.2.2], hB.trans (below3 (by omega))⟩
  have b4 : (xk == 4) = false := beq_eq_false_iff_ne.2 h4
  have N4 : Hid (¬ xk = 4) := h4
  clear h4 HHA
  go_upto_region 2 with fail
  go_cut [13] (fun s13 wx => s13 = .bool false ∧ wx = wc)
  case first =>
    obtain ⟨⟨e0, e1, e2⟩, f0, f1, f2⟩ := cells3 h7
    go_wp2_with fail
    go_meet
    case rel => exact ⟨rfl, rfl⟩
  case rest =>
  obtain ⟨rfl, rfl⟩ := hcut
  go_upto_region 4 with fail
  go_cut [8] (fun s8 wx => ∃ b8, s8 = ptr b8 ∧ wx.heap[b8]? = some (O3 yk yn ys) ∧ wx.heap[b7]? = some (O3 xk xn xs) ∧ MS w k n s k' n' s' wx)
  case first =>
    obtain ⟨⟨o0, o1, o2⟩, p0, p1, p2⟩ := cells3 hS.b
    go_wp2_with fail
    refine (pnumber_any k' n' s' _ HV'.out (hS.env hE)).mono ?_
    rintro e w1 ⟨rfl, q1⟩
    rw [HY.out.1, HY.out.2.1, HY.out.2.2]
    replace hS := hS.next q1
    replace h7 := bk h7 q1
    go_wp2_with fail
    go_meet
    case rel => exact ⟨_, rfl, hat _ _ _ rfl, bkA h7 _, hS.alloc _⟩
  case rest =>
  clear hS HY h7
  obtain ⟨b8, rfl, h8, h7, hS⟩ := hcut
  obtain ⟨⟨e0, e1, e2⟩, f0, f1, f2⟩ := cells3 h8
  obtain ⟨⟨g0, g1, g2⟩, i0, i1, i2⟩ := cells3 h7
  by_cases h4 : yk = 4
  · have b5 : (yk == 4) = true := beq_iff_eq.2 h4
    have HR' : Hid (ofK K k n s k' n' s' = yk ∧ ofN M k n s k' n' s' = yn ∧ ofS k s k' s' = ys) := HHB.out N4.out h4
    clear HHB HHC h4
    obtain ⟨⟨o0, o1, o2⟩, p0, p1, p2⟩ := cells3 hS.res
    have hB := hS.below
    go_wp2_with fail
    exact bodyPost_ret (v := V yk yn ys) (by simp [results, Tryz.results31, go_sem, o0, o1, o2]) rfl ⟨by rw [HR'.out.1, HR'.out.2.1, HR'.out.2.2], hB.trans (below3 (by omega))⟩
  · have b5 : (yk == 4) = false := beq_eq_false_iff_ne.2 h4
    have HR' : Hid (ofK K k n s k' n' s' = K xn yn ∧ ofN M k n s k' n' s' = M xn yn ∧ ofS k s k' s' = nul) := HHC.out N4.out h4
    clear HHB HHC h4
    go_wp2_with fail
    refine (HF.out xn yn _ hx hy).mono ?_
    rintro e w1 ⟨rfl, q1⟩
    replace hS := hS.next q1
    obtain ⟨⟨o0, o1, o2⟩, p0, p1, p2⟩ := cells3 hS.res
    have hB := hS.below
    go_wp2_with fail
    exact bodyPost_ret (v := V (K xn yn) (M xn yn) nul) (by simp [results, Tryz.results31, go_sem, o0, o1, o2]) rfl ⟨by rw [HR'.out.1, HR'.out.2.1, HR'.out.2.2], hB.trans (below3 (by omega))⟩
set_option maxRecDepth 100000 in
set_option maxHeartbeats 8000000 in
theorem ofDiv (K M : Int → Int → Int) (hF : Works 45 K M) (k n : Int) (s : ByteArray) (k' n' : Int) (s' : ByteArray) (w : World) (hv : isVal k n s = true) (hv' : isVal k' n' s' = true) (hb : B64 n) (hb' : B64 n') (hE : Env w) :
    Calls Tryz.prog 31 #[V k n s, V k' n' s', .func (.func 45) #[] #[]] w fun e w' => e = .returned (V (ofK K k n s k' n' s') (ofN M k n s k' n' s') (ofS k s k' s')) ∧ Below w.heap.size w w' := by
  have hS := MS.start w k n s k' n' s'
  have hx := nbN_bd (k := k) (s := s) hb
  have hy := nbN_bd (k := k') (s := s') hb'
  have HV : Hid (isVal k n s = true) := hv
  have HV' : Hid (isVal k' n' s' = true) := hv'
  have HA := @of_a K M k n s k' n' s'
  have HBB := @of_b K M k n s k' n' s'
  have HC := @of_c K M k n s k' n' s'
  obtain ⟨xk, hxk⟩ : ∃ xk, nbK k s = xk := ⟨_, rfl⟩
  obtain ⟨xn, hxn⟩ : ∃ xn, nbN k n s = xn := ⟨_, rfl⟩
  obtain ⟨xs, hxs⟩ : ∃ xs, nbS k s = xs := ⟨_, rfl⟩
  obtain ⟨yk, hyk⟩ : ∃ yk, nbK k' s' = yk := ⟨_, rfl⟩
  obtain ⟨yn, hyn⟩ : ∃ yn, nbN k' n' s' = yn := ⟨_, rfl⟩
  obtain ⟨ys, hys⟩ : ∃ ys, nbS k' s' = ys := ⟨_, rfl⟩
  rw [hxk, hxn, hxs] at HA
  rw [hxk, hyk, hyn, hys] at HBB
  rw [hxk, hyk, hxn, hyn] at HC
  rw [hxn] at hx
  rw [hyn] at hy
  have HX : Hid (nbK k s = xk ∧ nbN k n s = xn ∧ nbS k s = xs) := ⟨hxk, hxn, hxs⟩
  have HY : Hid (nbK k' s' = yk ∧ nbN k' n' s' = yn ∧ nbS k' s' = ys) := ⟨hyk, hyn, hys⟩
  have HHA : Hid (xk = 4 → ofK K k n s k' n' s' = xk ∧ ofN M k n s k' n' s' = xn ∧ ofS k s k' s' = xs) := HA
  have HHB : Hid (¬ xk = 4 → yk = 4 → ofK K k n s k' n' s' = yk ∧ ofN M k n s k' n' s' = yn ∧ ofS k s k' s' = ys) := HBB
  have HHC : Hid (¬ xk = 4 → ¬ yk = 4 → ofK K k n s k' n' s' = K xn yn ∧ ofN M k n s k' n' s' = M xn yn ∧ ofS k s k' s' = nul) := HC
  clear hv hv' HA HBB HC hxk hxn hxs hyk hyn hys
  have HF : Hid (Works 45 K M) := hF
  clear hF
  go_enter Tryz.func31, Tryz.ntmps31
  go_upto_region 1 with fail
  go_cut [7] (fun s7 wx => ∃ b7, s7 = ptr b7 ∧ wx.heap[b7]? = some (O3 xk xn xs) ∧ MS w k n s k' n' s' wx)
  case first =>
    obtain ⟨⟨o0, o1, o2⟩, p0, p1, p2⟩ := cells3 hS.a
    go_wp2_with fail
    refine (pnumber_any k n s _ HV.out (hS.env hE)).mono ?_
    rintro e w1 ⟨rfl, q1⟩
    rw [HX.out.1, HX.out.2.1, HX.out.2.2]
    replace hS := hS.next q1
    go_wp2_with fail
    go_meet
    case rel => exact ⟨_, rfl, hat _ _ _ rfl, hS.alloc _⟩
  case rest =>
  clear hS HX
  obtain ⟨b7, rfl, h7, hS⟩ := hcut
  by_cases h4 : xk = 4
  · have b4 : (xk == 4) = true := beq_iff_eq.2 h4
    have HR := HHA.out h4
    have HR' : Hid (ofK K k n s k' n' s' = xk ∧ ofN M k n s k' n' s' = xn ∧ ofS k s k' s' = xs) := HR
    clear HR HHA HHB HHC h4
    obtain ⟨⟨o0, o1, o2⟩, p0, p1, p2⟩ := cells3 hS.res
    obtain ⟨⟨e0, e1, e2⟩, f0, f1, f2⟩ := cells3 h7
    have hB := hS.below
    go_wp2_with fail
    exact bodyPost_ret (v := V xk xn xs) (by simp [results, Tryz.results31, go_sem, o0, o1, o2]) rfl ⟨by rw [HR'.out.1, HR'.out.2.1, HR'.out.2.2], hB.trans (below3 (by omega))⟩
  have b4 : (xk == 4) = false := beq_eq_false_iff_ne.2 h4
  have N4 : Hid (¬ xk = 4) := h4
  clear h4 HHA
  go_upto_region 2 with fail
  go_cut [13] (fun s13 wx => s13 = .bool false ∧ wx = wc)
  case first =>
    obtain ⟨⟨e0, e1, e2⟩, f0, f1, f2⟩ := cells3 h7
    go_wp2_with fail
    go_meet
    case rel => exact ⟨rfl, rfl⟩
  case rest =>
  obtain ⟨rfl, rfl⟩ := hcut
  go_upto_region 4 with fail
  go_cut [8] (fun s8 wx => ∃ b8, s8 = ptr b8 ∧ wx.heap[b8]? = some (O3 yk yn ys) ∧ wx.heap[b7]? = some (O3 xk xn xs) ∧ MS w k n s k' n' s' wx)
  case first =>
    obtain ⟨⟨o0, o1, o2⟩, p0, p1, p2⟩ := cells3 hS.b
    go_wp2_with fail
    refine (pnumber_any k' n' s' _ HV'.out (hS.env hE)).mono ?_
    rintro e w1 ⟨rfl, q1⟩
    rw [HY.out.1, HY.out.2.1, HY.out.2.2]
    replace hS := hS.next q1
    replace h7 := bk h7 q1
    go_wp2_with fail
    go_meet
    case rel => exact ⟨_, rfl, hat _ _ _ rfl, bkA h7 _, hS.alloc _⟩
  case rest =>
  clear hS HY h7
  obtain ⟨b8, rfl, h8, h7, hS⟩ := hcut
  obtain ⟨⟨e0, e1, e2⟩, f0, f1, f2⟩ := cells3 h8
  obtain ⟨⟨g0, g1, g2⟩, i0, i1, i2⟩ := cells3 h7
  by_cases h4 : yk = 4
  · have b5 : (yk == 4) = true := beq_iff_eq.2 h4
    have HR' : Hid (ofK K k n s k' n' s' = yk ∧ ofN M k n s k' n' s' = yn ∧ ofS k s k' s' = ys) := HHB.out N4.out h4
    clear HHB HHC h4
    obtain ⟨⟨o0, o1, o2⟩, p0, p1, p2⟩ := cells3 hS.res
    have hB := hS.below
    go_wp2_with fail
    exact bodyPost_ret (v := V yk yn ys) (by simp [results, Tryz.results31, go_sem, o0, o1, o2]) rfl ⟨by rw [HR'.out.1, HR'.out.2.1, HR'.out.2.2], hB.trans (below3 (by omega))⟩
  · have b5 : (yk == 4) = false := beq_eq_false_iff_ne.2 h4
    have HR' : Hid (ofK K k n s k' n' s' = K xn yn ∧ ofN M k n s k' n' s' = M xn yn ∧ ofS k s k' s' = nul) := HHC.out N4.out h4
    clear HHB HHC h4
    go_wp2_with fail
    refine (HF.out xn yn _ hx hy).mono ?_
    rintro e w1 ⟨rfl, q1⟩
    replace hS := hS.next q1
    obtain ⟨⟨o0, o1, o2⟩, p0, p1, p2⟩ := cells3 hS.res
    have hB := hS.below
    go_wp2_with fail
    exact bodyPost_ret (v := V (K xn yn) (M xn yn) nul) (by simp [results, Tryz.results31, go_sem, o0, o1, o2]) rfl ⟨by rw [HR'.out.1, HR'.out.2.1, HR'.out.2.2], hB.trans (below3 (by omega))⟩
set_option maxRecDepth 100000 in
set_option maxHeartbeats 8000000 in
theorem ofMod (K M : Int → Int → Int) (hF : Works 48 K M) (k n : Int) (s : ByteArray) (k' n' : Int) (s' : ByteArray) (w : World) (hv : isVal k n s = true) (hv' : isVal k' n' s' = true) (hb : B64 n) (hb' : B64 n') (hE : Env w) :
    Calls Tryz.prog 31 #[V k n s, V k' n' s', .func (.func 48) #[] #[]] w fun e w' => e = .returned (V (ofK K k n s k' n' s') (ofN M k n s k' n' s') (ofS k s k' s')) ∧ Below w.heap.size w w' := by
  have hS := MS.start w k n s k' n' s'
  have hx := nbN_bd (k := k) (s := s) hb
  have hy := nbN_bd (k := k') (s := s') hb'
  have HV : Hid (isVal k n s = true) := hv
  have HV' : Hid (isVal k' n' s' = true) := hv'
  have HA := @of_a K M k n s k' n' s'
  have HBB := @of_b K M k n s k' n' s'
  have HC := @of_c K M k n s k' n' s'
  obtain ⟨xk, hxk⟩ : ∃ xk, nbK k s = xk := ⟨_, rfl⟩
  obtain ⟨xn, hxn⟩ : ∃ xn, nbN k n s = xn := ⟨_, rfl⟩
  obtain ⟨xs, hxs⟩ : ∃ xs, nbS k s = xs := ⟨_, rfl⟩
  obtain ⟨yk, hyk⟩ : ∃ yk, nbK k' s' = yk := ⟨_, rfl⟩
  obtain ⟨yn, hyn⟩ : ∃ yn, nbN k' n' s' = yn := ⟨_, rfl⟩
  obtain ⟨ys, hys⟩ : ∃ ys, nbS k' s' = ys := ⟨_, rfl⟩
  rw [hxk, hxn, hxs] at HA
  rw [hxk, hyk, hyn, hys] at HBB
  rw [hxk, hyk, hxn, hyn] at HC
  rw [hxn] at hx
  rw [hyn] at hy
  have HX : Hid (nbK k s = xk ∧ nbN k n s = xn ∧ nbS k s = xs) := ⟨hxk, hxn, hxs⟩
  have HY : Hid (nbK k' s' = yk ∧ nbN k' n' s' = yn ∧ nbS k' s' = ys) := ⟨hyk, hyn, hys⟩
  have HHA : Hid (xk = 4 → ofK K k n s k' n' s' = xk ∧ ofN M k n s k' n' s' = xn ∧ ofS k s k' s' = xs) := HA
  have HHB : Hid (¬ xk = 4 → yk = 4 → ofK K k n s k' n' s' = yk ∧ ofN M k n s k' n' s' = yn ∧ ofS k s k' s' = ys) := HBB
  have HHC : Hid (¬ xk = 4 → ¬ yk = 4 → ofK K k n s k' n' s' = K xn yn ∧ ofN M k n s k' n' s' = M xn yn ∧ ofS k s k' s' = nul) := HC
  clear hv hv' HA HBB HC hxk hxn hxs hyk hyn hys
  have HF : Hid (Works 48 K M) := hF
  clear hF
  go_enter Tryz.func31, Tryz.ntmps31
  go_upto_region 1 with fail
  go_cut [7] (fun s7 wx => ∃ b7, s7 = ptr b7 ∧ wx.heap[b7]? = some (O3 xk xn xs) ∧ MS w k n s k' n' s' wx)
  case first =>
    obtain ⟨⟨o0, o1, o2⟩, p0, p1, p2⟩ := cells3 hS.a
    go_wp2_with fail
    refine (pnumber_any k n s _ HV.out (hS.env hE)).mono ?_
    rintro e w1 ⟨rfl, q1⟩
    rw [HX.out.1, HX.out.2.1, HX.out.2.2]
    replace hS := hS.next q1
    go_wp2_with fail
    go_meet
    case rel => exact ⟨_, rfl, hat _ _ _ rfl, hS.alloc _⟩
  case rest =>
  clear hS HX
  obtain ⟨b7, rfl, h7, hS⟩ := hcut
  by_cases h4 : xk = 4
  · have b4 : (xk == 4) = true := beq_iff_eq.2 h4
    have HR := HHA.out h4
    have HR' : Hid (ofK K k n s k' n' s' = xk ∧ ofN M k n s k' n' s' = xn ∧ ofS k s k' s' = xs) := HR
    clear HR HHA HHB HHC h4
    obtain ⟨⟨o0, o1, o2⟩, p0, p1, p2⟩ := cells3 hS.res
    obtain ⟨⟨e0, e1, e2⟩, f0, f1, f2⟩ := cells3 h7
    have hB := hS.below
    go_wp2_with fail
    exact bodyPost_ret (v := V xk xn xs) (by simp [results, Tryz.results31, go_sem, o0, o1, o2]) rfl ⟨by rw [HR'.out.1, HR'.out.2.1, HR'.out.2.2], hB.trans (below3 (by omega))⟩
  have b4 : (xk == 4) = false := beq_eq_false_iff_ne.2 h4
  have N4 : Hid (¬ xk = 4) := h4
  clear h4 HHA
  go_upto_region 2 with fail
  go_cut [13] (fun s13 wx => s13 = .bool false ∧ wx = wc)
  case first =>
    obtain ⟨⟨e0, e1, e2⟩, f0, f1, f2⟩ := cells3 h7
    go_wp2_with fail
    go_meet
    case rel => exact ⟨rfl, rfl⟩
  case rest =>
  obtain ⟨rfl, rfl⟩ := hcut
  go_upto_region 4 with fail
  go_cut [8] (fun s8 wx => ∃ b8, s8 = ptr b8 ∧ wx.heap[b8]? = some (O3 yk yn ys) ∧ wx.heap[b7]? = some (O3 xk xn xs) ∧ MS w k n s k' n' s' wx)
  case first =>
    obtain ⟨⟨o0, o1, o2⟩, p0, p1, p2⟩ := cells3 hS.b
    go_wp2_with fail
    refine (pnumber_any k' n' s' _ HV'.out (hS.env hE)).mono ?_
    rintro e w1 ⟨rfl, q1⟩
    rw [HY.out.1, HY.out.2.1, HY.out.2.2]
    replace hS := hS.next q1
    replace h7 := bk h7 q1
    go_wp2_with fail
    go_meet
    case rel => exact ⟨_, rfl, hat _ _ _ rfl, bkA h7 _, hS.alloc _⟩
  case rest =>
  clear hS HY h7
  obtain ⟨b8, rfl, h8, h7, hS⟩ := hcut
  obtain ⟨⟨e0, e1, e2⟩, f0, f1, f2⟩ := cells3 h8
  obtain ⟨⟨g0, g1, g2⟩, i0, i1, i2⟩ := cells3 h7
  by_cases h4 : yk = 4
  · have b5 : (yk == 4) = true := beq_iff_eq.2 h4
    have HR' : Hid (ofK K k n s k' n' s' = yk ∧ ofN M k n s k' n' s' = yn ∧ ofS k s k' s' = ys) := HHB.out N4.out h4
    clear HHB HHC h4
    obtain ⟨⟨o0, o1, o2⟩, p0, p1, p2⟩ := cells3 hS.res
    have hB := hS.below
    go_wp2_with fail
    exact bodyPost_ret (v := V yk yn ys) (by simp [results, Tryz.results31, go_sem, o0, o1, o2]) rfl ⟨by rw [HR'.out.1, HR'.out.2.1, HR'.out.2.2], hB.trans (below3 (by omega))⟩
  · have b5 : (yk == 4) = false := beq_eq_false_iff_ne.2 h4
    have HR' : Hid (ofK K k n s k' n' s' = K xn yn ∧ ofN M k n s k' n' s' = M xn yn ∧ ofS k s k' s' = nul) := HHC.out N4.out h4
    clear HHB HHC h4
    go_wp2_with fail
    refine (HF.out xn yn _ hx hy).mono ?_
    rintro e w1 ⟨rfl, q1⟩
    replace hS := hS.next q1
    obtain ⟨⟨o0, o1, o2⟩, p0, p1, p2⟩ := cells3 hS.res
    have hB := hS.below
    go_wp2_with fail
    exact bodyPost_ret (v := V (K xn yn) (M xn yn) nul) (by simp [results, Tryz.results31, go_sem, o0, o1, o2]) rfl ⟨by rw [HR'.out.1, HR'.out.2.1, HR'.out.2.2], hB.trans (below3 (by omega))⟩
end Go.Proofs.YtgoadofnfaidcaaGreatDoor
