/- What works on the Numbers of two values, by the program and by the reference. Conditions: as each theorem says. -/
import Derived.Test.YtgoadofnfaidcaaGreatDoorReck
import Derived.Test.YtgoadofnfaidcaaGreatDoorBackMath
namespace Go.Proofs.YtgoadofnfaidcaaGreatDoor
open Go.RowKit
def ofK (K : Int → Int → Int) (k n : Int) (s : ByteArray) (k' n' : Int) (s' : ByteArray) : Int := if nbK k s = 4 then 4 else if nbK k' s' = 4 then 4 else K (nbN k n s) (nbN k' n' s')
def ofN (M : Int → Int → Int) (k n : Int) (s : ByteArray) (k' n' : Int) (s' : ByteArray) : Int := if nbK k s = 4 then nbN k n s else if nbK k' s' = 4 then nbN k' n' s' else M (nbN k n s) (nbN k' n' s')
def ofS (k : Int) (s : ByteArray) (k' : Int) (s' : ByteArray) : ByteArray := if nbK k s = 4 then nbS k s else if nbK k' s' = 4 then nbS k' s' else nul
theorem of_a {K M : Int → Int → Int} {k n : Int} {s : ByteArray} {k' n' : Int} {s' : ByteArray} (h : nbK k s = 4) : ofK K k n s k' n' s' = nbK k s ∧ ofN M k n s k' n' s' = nbN k n s ∧ ofS k s k' s' = nbS k s := by
  unfold ofK ofN ofS; rw [if_pos h, if_pos h, if_pos h]; exact ⟨h.symm, rfl, rfl⟩
theorem of_b {K M : Int → Int → Int} {k n : Int} {s : ByteArray} {k' n' : Int} {s' : ByteArray} (h : ¬ nbK k s = 4) (h' : nbK k' s' = 4) : ofK K k n s k' n' s' = nbK k' s' ∧ ofN M k n s k' n' s' = nbN k' n' s' ∧ ofS k s k' s' = nbS k' s' := by
  unfold ofK ofN ofS; rw [if_neg h, if_neg h, if_neg h, if_pos h', if_pos h', if_pos h']; exact ⟨h'.symm, rfl, rfl⟩
theorem of_c {K M : Int → Int → Int} {k n : Int} {s : ByteArray} {k' n' : Int} {s' : ByteArray} (h : ¬ nbK k s = 4) (h' : ¬ nbK k' s' = 4) : ofK K k n s k' n' s' = K (nbN k n s) (nbN k' n' s') ∧ ofN M k n s k' n' s' = M (nbN k n s) (nbN k' n' s') ∧ ofS k s k' s' = nul := by
  unfold ofK ofN ofS; rw [if_neg h, if_neg h, if_neg h, if_neg h', if_neg h', if_neg h']; exact ⟨rfl, rfl, rfl⟩
abbrev B64 (n : Int) : Prop := -9223372036854775808 ≤ n ∧ n ≤ 9223372036854775807
theorem nbN_bd {k n : Int} {s : ByteArray} (h : B64 n) : B64 (nbN k n s) := by
  unfold nbN
  split
  · exact ⟨by omega, by omega⟩
  · split
    · unfold raN
      split
      · exact (rd_all s).2.1
      · exact ⟨by omega, by omega⟩
    · exact h
/-- Two values, each in a block of its own, and the answer's. -/
structure MS (w : World) (k n : Int) (s : ByteArray) (k' n' : Int) (s' : ByteArray) (wx : World) : Prop where
  a : wx.heap[w.heap.size]? = some (O3 k n s)
  b : wx.heap[w.heap.size + 1]? = some (O3 k' n' s')
  res : wx.heap[w.heap.size + 2]? = some (O3 0 0 nul)
  below : Below w.heap.size w wx
theorem MS.start (w : World) (k n : Int) (s : ByteArray) (k' n' : Int) (s' : ByteArray) : MS w k n s k' n' s' (((w.alloc (O3 k n s)).alloc (O3 k' n' s')).alloc (O3 0 0 nul)) :=
  ⟨by rw [Below.heap_alloc _ _ _ (by simp; omega), Below.heap_alloc _ _ _ (by simp), hat _ _ _ rfl], by rw [Below.heap_alloc _ _ _ (by simp), hat _ _ _ (by simp)], hat _ _ _ (by simp), (((Below.refl _ _).alloc (Nat.le_refl _) _).alloc (by simp) _).alloc (by simp; omega) _⟩
section
variable {w wx : World} {k n : Int} {s : ByteArray} {k' n' : Int} {s' : ByteArray}
theorem MS.lt (h : MS w k n s k' n' s' wx) : w.heap.size + 2 < wx.heap.size := lt_of_blk h.res
theorem MS.next {wy : World} (h : MS w k n s k' n' s' wx) (hb : Below wx.heap.size wx wy) : MS w k n s k' n' s' wy := ⟨bk h.a hb, bk h.b hb, bk h.res hb, bnext h.below hb h.below.size⟩
theorem MS.alloc (h : MS w k n s k' n' s' wx) (o : Obj) : MS w k n s k' n' s' (wx.alloc o) := h.next ((Below.refl _ _).alloc (Nat.le_refl _) _)
theorem MS.env (h : MS w k n s k' n' s' wx) (hE : Env w) : Env wx := hE.below h.below hE.size
theorem MS.setA (h : MS w k n s k' n' s' wx) (u v : Int) (t : ByteArray) : MS w u v t k' n' s' (((wx.setCell ⟨w.heap.size, 0, none⟩ (.int .i64 u)).setCell ⟨w.heap.size, 1, none⟩ (.int .i64 v)).setCell ⟨w.heap.size, 2, none⟩ (.string t)) :=
  ⟨set3 h.a, by rw [Below.heap_setCell _ _ _ _ (by simp), Below.heap_setCell _ _ _ _ (by simp), Below.heap_setCell _ _ _ _ (by simp)]; exact h.b, by rw [Below.heap_setCell _ _ _ _ (by simp), Below.heap_setCell _ _ _ _ (by simp), Below.heap_setCell _ _ _ _ (by simp)]; exact h.res, h.below.trans (below3 (Nat.le_refl _))⟩
theorem MS.setB (h : MS w k n s k' n' s' wx) (u v : Int) (t : ByteArray) : MS w k n s u v t (((wx.setCell ⟨w.heap.size + 1, 0, none⟩ (.int .i64 u)).setCell ⟨w.heap.size + 1, 1, none⟩ (.int .i64 v)).setCell ⟨w.heap.size + 1, 2, none⟩ (.string t)) :=
  ⟨by rw [Below.heap_setCell _ _ _ _ (by simp), Below.heap_setCell _ _ _ _ (by simp), Below.heap_setCell _ _ _ _ (by simp)]; exact h.a, set3 h.b, by rw [Below.heap_setCell _ _ _ _ (by simp), Below.heap_setCell _ _ _ _ (by simp), Below.heap_setCell _ _ _ _ (by simp)]; exact h.res, h.below.trans (below3 (by omega))⟩
end
/-- What a working gives of two numbers. -/
def Works (F : Nat) (K M : Int → Int → Int) : Prop := ∀ (x y : Int) (w : World), B64 x → B64 y → Calls Tryz.prog F #[.int .i64 x, .int .i64 y] w fun e w' => e = .returned (V (K x y) (M x y) nul) ∧ Below w.heap.size w w'
set_option maxRecDepth 100000 in
set_option maxHeartbeats 8000000 in
theorem ofSub (K M : Int → Int → Int) (hF : Works 32 K M) (k n : Int) (s : ByteArray) (k' n' : Int) (s' : ByteArray) (w : World) (hv : isVal k n s = true) (hv' : isVal k' n' s' = true) (hb : B64 n) (hb' : B64 n') (hE : Env w) :
    Calls Tryz.prog 31 #[V k n s, V k' n' s', .func (.func 32) #[] #[]] w fun e w' => e = .returned (V (ofK K k n s k' n' s') (ofN M k n s k' n' s') (ofS k s k' s')) ∧ Below w.heap.size w w' := by
  have hS := MS.start w k n s k' n' s'
  have hx := nbN_bd (k := k) (s := s) hb
  have hy := nbN_bd (k := k') (s := s') hb'
  have HV : Hid (isVal k n s = true) := hv
  have HV' : Hid (isVal k' n' s' = true) := hv'
  have HA := @of_a K M k n s k' n' s'
  have HBB := @of_b K M k n s k' n' s'
  have HC := @of_c K M k n s k' n' s'
  obtain ⟨xk, hxk⟩ : ∃ xk, nbK k s = xk := ⟨_, rfl⟩
  obtain ⟨xn, hxn⟩ : ∃ xn, nbN k n s = xn := ⟨_, rfl⟩
  obtain ⟨xs, hxs⟩ : ∃ xs, nbS k s = xs := ⟨_, rfl⟩
  obtain ⟨yk, hyk⟩ : ∃ yk, nbK k' s' = yk := ⟨_, rfl⟩
  obtain ⟨yn, hyn⟩ : ∃ yn, nbN k' n' s' = yn := ⟨_, rfl⟩
  obtain ⟨ys, hys⟩ : ∃ ys, nbS k' s' = ys := ⟨_, rfl⟩
  rw [hxk, hxn, hxs] at HA
  rw [hxk, hyk, hyn, hys] at HBB
  rw [hxk, hyk, hxn, hyn] at HC
  rw [hxn] at hx
  rw [hyn] at hy
  have HX : Hid (nbK k s = xk ∧ nbN k n s = xn ∧ nbS k s = xs) := ⟨hxk, hxn, hxs⟩
  have HY : Hid (nbK k' s' = yk ∧ nbN k' n' s' = yn ∧ nbS k' s' = ys) := ⟨hyk, hyn, hys⟩
  have HHA : Hid (xk = 4 → ofK K k n s k' n' s' = xk ∧ ofN M k n s k' n' s' = xn ∧ ofS k s k' s' = xs) := HA
  have HHB : Hid (¬ xk = 4 → yk = 4 → ofK K k n s k' n' s' = yk ∧ ofN M k n s k' n' s' = yn ∧ ofS k s k' s' = ys) := HBB
  have HHC : Hid (¬ xk = 4 → ¬ yk = 4 → ofK K k n s k' n' s' = K xn yn ∧ ofN M k n s k' n' s' = M xn yn ∧ ofS k s k' s' = nul) := HC
  clear hv hv' HA HBB HC hxk hxn hxs hyk hyn hys
  have HF : Hid (Works 32 K M) := hF
  clear hF
  go_enter Tryz.func31, Tryz.ntmps31
  go_upto_region 1 with fail
  go_cut [7] (fun s7 wx => ∃ b7, s7 = ptr b7 ∧ wx.heap[b7]? = some (O3 xk xn xs) ∧ MS w k n s k' n' s' wx)
  case first =>
    obtain ⟨⟨o0, o1, o2⟩, p0, p1, p2⟩ := cells3 hS.a
    go_wp2_with fail
    refine (pnumber_any k n s _ HV.out (hS.env hE)).mono ?_
    rintro e w1 ⟨rfl, q1⟩
    rw [HX.out.1, HX.out.2.1, HX.out.2.2]
    replace hS := hS.next q1
    go_wp2_with fail
    go_meet
    case rel => exact ⟨_, rfl, hat _ _ _ rfl, hS.alloc _⟩
  case rest =>
  clear hS HX
  obtain ⟨b7, rfl, h7, hS⟩ := hcut
  by_cases h4 : xk = 4
  · have b4 : (xk == 4) = true := beq_iff_eq.2 h4
    have HR := HHA.out h4
    have HR' : Hid (ofK K k n s k' n' s' = xk ∧ ofN M k n s k' n' s' = xn ∧ ofS k s k' s' = xs) := HR
    clear HR HHA HHB HHC h4
    obtain ⟨⟨o0, o1, o2⟩, p0, p1, p2⟩ := cells3 hS.res
    obtain ⟨⟨e0, e1, e2⟩, f0, f1, f2⟩ := cells3 h7
    have hB := hS.below
    go_wp2_with fail
    exact bodyPost_ret (v := V xk xn xs) (by simp [results, Tryz.results31, go_sem, o0, o1, o2]) rfl ⟨by rw [HR'.out.1, HR'.out.2.1, HR'.out.2.2], hB.trans (below3 (by omega))⟩
  have b4 : (xk == 4) = false := beq_eq_false_iff_ne.2 h4
  have N4 : Hid (¬ xk = 4) := h4
  clear h4 HHA
  go_upto_region 2 with fail
  go_cut [13] (fun s13 wx => s13 = .bool false ∧ wx = wc)
  case first =>
    obtain ⟨⟨e0, e1, e2⟩, f0, f1, f2⟩ := cells3 h7
    go_wp2_with fail
    go_meet
    case rel => exact ⟨rfl, rfl⟩
  case rest =>
  obtain ⟨rfl, rfl⟩ := hcut
  go_upto_region 4 with fail
  go_cut [8] (fun s8 wx => ∃ b8, s8 = ptr b8 ∧ wx.heap[b8]? = some (O3 yk yn ys) ∧ wx.heap[b7]? = some (O3 xk xn xs) ∧ MS w k n s k' n' s' wx)
  case first =>
    obtain ⟨⟨o0, o1, o2⟩, p0, p1, p2⟩ := cells3 hS.b
    go_wp2_with fail
    refine (pnumber_any k' n' s' _ HV'.out (hS.env hE)).mono ?_
    rintro e w1 ⟨rfl, q1⟩
    rw [HY.out.1, HY.out.2.1, HY.out.2.2]
    replace hS := hS.next q1
    replace h7 := bk h7 q1
    go_wp2_with fail
    go_meet
    case rel => exact ⟨_, rfl, hat _ _ _ rfl, bkA h7 _, hS.alloc _⟩
  case rest =>
  clear hS HY h7
  obtain ⟨b8, rfl, h8, h7, hS⟩ := hcut
  obtain ⟨⟨e0, e1, e2⟩, f0, f1, f2⟩ := cells3 h8
  obtain ⟨⟨g0, g1, g2⟩, i0, i1, i2⟩ := cells3 h7
  by_cases h4 : yk = 4
  · have b5 : (yk == 4) = true := beq_iff_eq.2 h4
    have HR' : Hid (ofK K k n s k' n' s' = yk ∧ ofN M k n s k' n' s' = yn ∧ ofS k s k' s' = ys) := HHB.out N4.out h4
    clear HHB HHC h4
    obtain ⟨⟨o0, o1, o2⟩, p0, p1, p2⟩ := cells3 hS.res
    have hB := hS.below
    go_wp2_with fail
    exact bodyPost_ret (v := V yk yn ys) (by simp [results, Tryz.results31, go_sem, o0, o1, o2]) rfl ⟨by rw [HR'.out.1, HR'.out.2.1, HR'.out.2.2], hB.trans (below3 (by omega))⟩
  · have b5 : (yk == 4) = false := beq_eq_false_iff_ne.2 h4
    have HR' : Hid (ofK K k n s k' n' s' = K xn yn ∧ ofN M k n s k' n' s' = M xn yn ∧ ofS k s k' s' = nul) := HHC.out N4.out h4
    clear HHB HHC h4
    go_wp2_with fail
    refine (HF.out xn yn _ hx hy).mono ?_
    rintro e w1 ⟨rfl, q1⟩
    replace hS := hS.next q1
    obtain ⟨⟨o0, o1, o2⟩, p0, p1, p2⟩ := cells3 hS.res
    have hB := hS.below
    go_wp2_with fail
    exact bodyPost_ret (v := V (K xn yn) (M xn yn) nul) (by simp [results, Tryz.results31, go_sem, o0, o1, o2]) rfl ⟨by rw [HR'.out.1, HR'.out.2.1, HR'.out.2.2], hB.trans (below3 (by omega))⟩
end Go.Proofs.YtgoadofnfaidcaaGreatDoor
