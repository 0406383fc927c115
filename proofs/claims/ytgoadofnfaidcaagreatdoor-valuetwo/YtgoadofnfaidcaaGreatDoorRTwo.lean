/- The reference's Two at an operator that reckons, and the program's Neg. Conditions: as each theorem says. -/
import Derived.Test.YtgoadofnfaidcaaGreatDoorOfN
import Derived.Test.YtgoadofnfaidcaaGreatDoorRShow
namespace Go.Proofs.YtgoadofnfaidcaaGreatDoor
open Go.RowKit
/-- What the reference reckons of two numbers. -/
def Recks (op : Int) (K M : Int → Int → Int) : Prop := ∀ (x y : Int) (w : World), B64 x → B64 y → Calls Tryz.prog 38 #[.int .i64 op, .int .i64 x, .int .i64 y] w fun e w' => e = .returned (V (K x y) (M x y) nul) ∧ Below w.heap.size w w'
theorem recks_9 : Recks 9 (fun x y => fK (x - y)) (fun x y => fN (x - y)) := fun x y w hx hy => reckon_9 x y w hx.1 hx.2 hy.1 hy.2
theorem works_sub : Works 32 (fun x y => fK (x - y)) (fun x y => fN (x - y)) := fun x y w hx hy => psub_any x y w hx.1 hx.2 hy.1 hy.2
set_option maxRecDepth 100000 in
set_option maxHeartbeats 8000000 in
theorem rtwo_num (op : Int) (h8 : 8 ≤ op) (h11 : op ≤ 11) (K M : Int → Int → Int) (hF : Recks op K M) (k n : Int) (s : ByteArray) (k' n' : Int) (s' : ByteArray) (w : World) (hv : isVal k n s = true) (hv' : isVal k' n' s' = true) (hb : B64 n) (hb' : B64 n') :
    Calls Tryz.prog 15 #[.int .i64 op, V k n s, V k' n' s'] w fun e w' => e = .returned (V (ofK K k n s k' n' s') (ofN M k n s k' n' s') (ofS k s k' s')) ∧ Below w.heap.size w w' := by
  have hS := MS.start w k n s k' n' s'
  have hx := nbN_bd (k := k) (s := s) hb
  have hy := nbN_bd (k := k') (s := s') hb'
  have HV : Hid (isVal k n s = true) := hv
  have HV' : Hid (isVal k' n' s' = true) := hv'
  have HA := @of_a K M k n s k' n' s'
  have HBB := @of_b K M k n s k' n' s'
  have HC := @of_c K M k n s k' n' s'
  obtain ⟨xk, hxk⟩ : ∃ xk, nbK k s = xk := ⟨_, rfl⟩
  obtain ⟨xn, hxn⟩ : ∃ xn, nbN k n s = xn := ⟨_, rfl⟩
  obtain ⟨xs, hxs⟩ : ∃ xs, nbS k s = xs := ⟨_, rfl⟩
  obtain ⟨yk, hyk⟩ : ∃ yk, nbK k' s' = yk := ⟨_, rfl⟩
  obtain ⟨yn, hyn⟩ : ∃ yn, nbN k' n' s' = yn := ⟨_, rfl⟩
  obtain ⟨ys, hys⟩ : ∃ ys, nbS k' s' = ys := ⟨_, rfl⟩
  rw [hxk, hxn, hxs] at HA
  rw [hxk, hyk, hyn, hys] at HBB
  rw [hxk, hyk, hxn, hyn] at HC
  rw [hxn] at hx
  rw [hyn] at hy
  have HX : Hid (nbK k s = xk ∧ nbN k n s = xn ∧ nbS k s = xs) := ⟨hxk, hxn, hxs⟩
  have HY : Hid (nbK k' s' = yk ∧ nbN k' n' s' = yn ∧ nbS k' s' = ys) := ⟨hyk, hyn, hys⟩
  have HHA : Hid (xk = 4 → ofK K k n s k' n' s' = xk ∧ ofN M k n s k' n' s' = xn ∧ ofS k s k' s' = xs) := HA
  have HHB : Hid (¬ xk = 4 → yk = 4 → ofK K k n s k' n' s' = yk ∧ ofN M k n s k' n' s' = yn ∧ ofS k s k' s' = ys) := HBB
  have HHC : Hid (¬ xk = 4 → ¬ yk = 4 → ofK K k n s k' n' s' = K xn yn ∧ ofN M k n s k' n' s' = M xn yn ∧ ofS k s k' s' = nul) := HC
  clear hv hv' HA HBB HC hxk hxn hxs hyk hyn hys
  have HF : Hid (Recks op K M) := hF
  clear hF
  go_enter Tryz.func15, Tryz.ntmps15
  go_upto_region 4 with fail
  go_cut [] (fun wx => MS w xk xn xs k' n' s' wx)
  case first =>
    obtain ⟨⟨o0, o1, o2⟩, p0, p1, p2⟩ := cells3 hS.a
    go_wp2_with fail
    refine (rnumber_any k n s _ HV.out).mono ?_
    rintro e w1 ⟨rfl, q1⟩
    rw [HX.out.1, HX.out.2.1, HX.out.2.2]
    replace hS := hS.next q1
    clear o0 o1 o2 p0 p1 p2
    obtain ⟨⟨o0, o1, o2⟩, p0, p1, p2⟩ := cells3 hS.a
    go_wp2_with fail
    go_meet
    case rel => exact hS.setA xk xn xs
  case rest =>
  clear hS HX
  have hS := hcut
  clear hcut
  have ⟨⟨o0, o1, o2⟩, p0, p1, p2⟩ := cells3 hS.b
  go_wp2_with fail
  refine (rnumber_any k' n' s' _ HV'.out).mono ?_
  rintro e w1 ⟨rfl, q1⟩
  rw [HY.out.1, HY.out.2.1, HY.out.2.2]
  clear o0 o1 o2 p0 p1 p2
  replace hS := hS.next q1
  have hSB := hS.setB yk yn ys
  have ⟨⟨o0, o1, o2⟩, p0, p1, p2⟩ := cells3 hS.b
  have ⟨⟨a0, a1, a2⟩, c0, c1, c2⟩ := cells3 hS.a
  have ⟨⟨r0, r1, r2⟩, t0, t1, t2⟩ := cells3 hS.res
  have hB := hSB.below
  by_cases h4 : xk = 4
  · have b4 : (xk == 4) = true := beq_iff_eq.2 h4
    have HR' : Hid (ofK K k n s k' n' s' = xk ∧ ofN M k n s k' n' s' = xn ∧ ofS k s k' s' = xs) := HHA.out h4
    clear HHA HHB HHC h4
    go_wp2_with fail
    exact bodyPost_ret (v := V xk xn xs) (by simp [results, Tryz.results15, go_sem, r0, r1, r2]) rfl ⟨by rw [HR'.out.1, HR'.out.2.1, HR'.out.2.2], hB.trans (below3 (by omega))⟩
  have b4 : (xk == 4) = false := beq_eq_false_iff_ne.2 h4
  have N4 : Hid (¬ xk = 4) := h4
  clear h4 HHA
  by_cases h5 : yk = 4
  · have b5 : (yk == 4) = true := beq_iff_eq.2 h5
    have HR' : Hid (ofK K k n s k' n' s' = yk ∧ ofN M k n s k' n' s' = yn ∧ ofS k s k' s' = ys) := HHB.out N4.out h5
    clear HHB HHC h5
    go_wp2_with fail
    exact bodyPost_ret (v := V yk yn ys) (by simp [results, Tryz.results15, go_sem, r0, r1, r2]) rfl ⟨by rw [HR'.out.1, HR'.out.2.1, HR'.out.2.2], hB.trans (below3 (by omega))⟩
  · have b5 : (yk == 4) = false := beq_eq_false_iff_ne.2 h5
    have HR' : Hid (ofK K k n s k' n' s' = K xn yn ∧ ofN M k n s k' n' s' = M xn yn ∧ ofS k s k' s' = nul) := HHC.out N4.out h5
    clear HHB HHC h5
    go_wp2_with fail
    refine (HF.out xn yn _ hx hy).mono ?_
    rintro e w2 ⟨rfl, q2⟩
    replace hSB := hSB.next q2
    obtain ⟨⟨u0, u1, u2⟩, v0, v1, v2⟩ := cells3 hSB.res
    have hB2 := hSB.below
    go_wp2_with fail
    exact bodyPost_ret (v := V (K xn yn) (M xn yn) nul) (by simp [results, Tryz.results15, go_sem, u0, u1, u2]) rfl ⟨by rw [HR'.out.1, HR'.out.2.1, HR'.out.2.2], hB2.trans (below3 (by omega))⟩
end Go.Proofs.YtgoadofnfaidcaaGreatDoor
