/- The law ValueMakes: what it returns, whatever the value's fields are. Conditions: the package variables hold what the program's text lays. -/
import Derived.Test.YtgoadofnfaidcaaGreatDoorNegV
import Derived.Test.YtgoadofnfaidcaaGreatDoorAs
namespace Go.Proofs.YtgoadofnfaidcaaGreatDoor
open Go.RowKit
structure OS (w : World) (k n : Int) (s : ByteArray) (wx : World) : Prop where
  own : wx.heap[w.heap.size]? = some (O3 k n s)
  below : Below w.heap.size w wx
section
variable {w wx : World} {k n : Int} {s : ByteArray}
theorem OS.start (w : World) (k n : Int) (s : ByteArray) : OS w k n s (w.alloc (O3 k n s)) := ⟨hat _ _ _ rfl, (Below.refl _ _).alloc (Nat.le_refl _) _⟩
theorem OS.next {wy : World} (h : OS w k n s wx) (hb : Below wx.heap.size wx wy) : OS w k n s wy := ⟨bk h.own hb, bnext h.below hb h.below.size⟩
theorem OS.alloc (h : OS w k n s wx) (o : Obj) : OS w k n s (wx.alloc o) := h.next ((Below.refl _ _).alloc (Nat.le_refl _) _)
theorem OS.env (h : OS w k n s wx) (hE : Env w) : Env wx := hE.below h.below hE.size
theorem OS.err (h : OS w k n s wx) (hT : ErrTy w) : ErrTy wx := hT.below h.below hT.1
end
theorem keep3 {w : World} {b b0 : Nat} {o : Obj} {u0 u1 u2 : Value} (h : w.heap[b]? = some o) (hlt : b < b0) : (((w.setCell ⟨b0, 0, none⟩ u0).setCell ⟨b0, 1, none⟩ u1).setCell ⟨b0, 2, none⟩ u2).heap[b]? = some o := by
  rw [(below3 (B := b0) (Nat.le_refl _)).block _ hlt]; exact h
theorem OS.set {w wx : World} {k n : Int} {s : ByteArray} {b0 : Nat} {u0 u1 u2 : Value} (h : OS w k n s wx) (hlt : w.heap.size < b0) : OS w k n s (((wx.setCell ⟨b0, 0, none⟩ u0).setCell ⟨b0, 1, none⟩ u1).setCell ⟨b0, 2, none⟩ u2) :=
  ⟨keep3 h.own hlt, h.below.trans (below3 (by omega))⟩
theorem two_below {a b c : World} (h : Below a.heap.size a b) (h2 : Below b.heap.size b c) : Below a.heap.size a c := bnext h h2 h.size
theorem al_below (a : World) (o : Obj) : Below a.heap.size a (a.alloc o) := (Below.refl _ _).alloc (Nat.le_refl _) _
set_option maxRecDepth 100000 in
set_option maxHeartbeats 4000000 in
theorem makes_no (k n : Int) (s : ByteArray) (w : World) (hv : isVal k n s = false) (hT : ErrTy w) :
    Calls Tryz.prog 3 #[V k n s] w fun e w' => e = .returned (.bool true) ∧ Below w.heap.size w w' := by
  have HV : Hid (isVal k n s = false) := hv
  clear hv
  have hS := OS.start w k n s
  go_enter Tryz.func3, Tryz.ntmps3
  go_wp2_with fail
  refine (is_any k n s _).mono ?_
  rintro e w1 ⟨rfl, q1⟩
  rw [HV.out]
  replace hS := hS.next q1
  have ⟨⟨o0, o1, o2⟩, p0, p1, p2⟩ := cells3 hS.own
  go_wp2_with fail
  refine (check_no k n s _ HV.out).mono ?_
  rintro e w2 ⟨rfl, q2⟩
  replace hS := hS.next q2
  go_wp2_with fail
  refine (same_errno 1 1 _ (hS.err hT)).mono ?_
  rintro e w3 ⟨rfl, q3⟩
  have hB := (hS.next q3).below
  go_wp2_with fail
  go_ret
  exact ⟨rfl, hB⟩
set_option maxRecDepth 100000 in
set_option maxHeartbeats 8000000 in
theorem makes_yes (k n : Int) (s : ByteArray) (w : World) (hv : isVal k n s = true) (hb : B64 n) (hE : Env w) :
    Calls Tryz.prog 3 #[V k n s] w fun e w' => e = .returned (.bool true) ∧ Below w.heap.size w w' := by
  have HV : Hid (isVal k n s = true) := hv
  clear hv
  have hS := OS.start w k n s
  obtain ⟨ak, hak⟩ : ∃ x, nbK k s = x := ⟨_, rfl⟩
  obtain ⟨an, han⟩ : ∃ x, nbN k n s = x := ⟨_, rfl⟩
  obtain ⟨az, haz⟩ : ∃ x, nbS k s = x := ⟨_, rfl⟩
  obtain ⟨tk, htk⟩ : ∃ x, tbK k s = x := ⟨_, rfl⟩
  obtain ⟨tn, htn⟩ : ∃ x, tbN k n s = x := ⟨_, rfl⟩
  obtain ⟨ts, hts⟩ : ∃ x, tbS k s = x := ⟨_, rfl⟩
  obtain ⟨mk, hmk⟩ : ∃ x, ofK (fun x y => fK (x - y)) 1 0 nul k n s = x := ⟨_, rfl⟩
  obtain ⟨mn, hmn⟩ : ∃ x, ofN (fun x y => fN (x - y)) 1 0 nul k n s = x := ⟨_, rfl⟩
  obtain ⟨ms, hms⟩ : ∃ x, ofS 1 nul k s = x := ⟨_, rfl⟩
  have HA : Hid (nbK k s = ak ∧ nbN k n s = an ∧ nbS k s = az) := ⟨hak, han, haz⟩
  have HTr : Hid (tbK k s = tk ∧ tbN k n s = tn ∧ tbS k s = ts) := ⟨htk, htn, hts⟩
  have HM : Hid (ofK (fun x y => fK (x - y)) 1 0 nul k n s = mk ∧ ofN (fun x y => fN (x - y)) 1 0 nul k n s = mn ∧ ofS 1 nul k s = ms) := ⟨hmk, hmn, hms⟩
  clear hak han haz htk htn hts hmk hmn hms
  go_enter Tryz.func3, Tryz.ntmps3
  go_upto_region 1 with fail
  go_cut [3] (fun s3 wx => s3 = .bool true ∧ OS w k n s wx)
  case first =>
    go_wp2_with fail
    refine (is_any k n s _).mono ?_
    rintro e w1 ⟨rfl, q1⟩
    rw [HV.out]
    go_wp2_with fail
    go_meet
    case rel => exact ⟨rfl, hS.next q1⟩
  case rest =>
  clear hS
  obtain ⟨rfl, hS⟩ := hcut
  go_upto_region 5 with fail
  go_cut [5] (fun s5 wx => s5 = .nilIface ∧ OS w k n s wx)
  case first =>
    obtain ⟨⟨o0, o1, o2⟩, p0, p1, p2⟩ := cells3 hS.own
    go_wp2_with fail
    refine (check_yes k n s _ HV.out).mono ?_
    rintro e w1 ⟨rfl, q1⟩
    go_wp2_with fail
    go_meet
    case rel => exact ⟨rfl, hS.next q1⟩
  case rest =>
  clear hS
  obtain ⟨rfl, hS⟩ := hcut
  go_upto_region 6 with fail
  go_cut [6] (fun s6 wx => s6 = .bool true ∧ OS w k n s wx)
  case first =>
    go_wp2_with fail
    refine (same_nil 0 _).mono ?_
    rintro e w1 ⟨rfl, q1⟩
    go_wp2_with fail
    go_meet
    case rel => exact ⟨rfl, hS.next q1⟩
  case rest =>
  clear hS
  obtain ⟨rfl, hS⟩ := hcut
  go_upto_region 11 with fail
  go_cut [7] (fun s7 wx => s7 = .string (sh k n s) ∧ OS w k n s wx)
  case first =>
    obtain ⟨⟨o0, o1, o2⟩, p0, p1, p2⟩ := cells3 hS.own
    go_wp2_with fail
    refine (show_any k n s _ (hS.env hE) hb.1 hb.2).mono ?_
    rintro e w1 ⟨rfl, q1⟩
    go_wp2_with fail
    go_meet
    case rel => exact ⟨rfl, hS.next q1⟩
  case rest =>
  clear hS
  obtain ⟨rfl, hS⟩ := hcut
  go_upto_region 12 with fail
  go_cut [8] (fun s8 wx => ∃ b8, s8 = ptr b8 ∧ wx.heap[b8]? = some (O3 ak an az) ∧ OS w k n s wx)
  case first =>
    obtain ⟨⟨o0, o1, o2⟩, p0, p1, p2⟩ := cells3 hS.own
    go_wp2_with fail
    refine (pnumber_any k n s _ HV.out (hS.env hE)).mono ?_
    rintro e w1 ⟨rfl, q1⟩
    rw [HA.out.1, HA.out.2.1, HA.out.2.2]
    replace hS := hS.next q1
    go_wp2_with fail
    go_meet
    case rel => exact ⟨_, rfl, hat _ _ _ rfl, hS.alloc _⟩
  case rest =>
  clear hS
  obtain ⟨b8, rfl, h8, hS⟩ := hcut
  go_upto_region 13 with fail
  go_cut [9] (fun s9 wx => ∃ b9, s9 = ptr b9 ∧ wx.heap[b9]? = some (O3 tk tn ts) ∧ wx.heap[b8]? = some (O3 ak an az) ∧ OS w k n s wx)
  case first =>
    obtain ⟨⟨o0, o1, o2⟩, p0, p1, p2⟩ := cells3 hS.own
    go_wp2_with fail
    refine (ptruth_any k n s _ HV.out (hS.env hE)).mono ?_
    rintro e w1 ⟨rfl, q1⟩
    rw [HTr.out.1, HTr.out.2.1, HTr.out.2.2]
    replace hS := hS.next q1
    replace h8 := bk h8 q1
    go_wp2_with fail
    go_meet
    case rel => exact ⟨_, rfl, hat _ _ _ rfl, bkA h8 _, hS.alloc _⟩
  case rest =>
  clear hS h8
  obtain ⟨b9, rfl, h9, h8, hS⟩ := hcut
  go_upto_region 14 with fail
  go_cut [10] (fun s10 wx => ∃ b10, s10 = ptr b10 ∧ wx.heap[b10]? = some (O3 mk mn ms) ∧ wx.heap[b9]? = some (O3 tk tn ts) ∧ wx.heap[b8]? = some (O3 ak an az) ∧ OS w k n s wx)
  case first =>
    obtain ⟨⟨o0, o1, o2⟩, p0, p1, p2⟩ := cells3 hS.own
    go_wp2_with fail
    refine (neg_any k n s _ HV.out hb (hS.env hE)).mono ?_
    rintro e w1 ⟨rfl, q1⟩
    rw [HM.out.1, HM.out.2.1, HM.out.2.2]
    replace hS := hS.next q1
    replace h8 := bk h8 q1
    replace h9 := bk h9 q1
    go_wp2_with fail
    go_meet
    case rel => exact ⟨_, rfl, hat _ _ _ rfl, bkA h9 _, bkA h8 _, hS.alloc _⟩
  case rest =>
  clear hS h8 h9
  obtain ⟨b10, rfl, h10, h9, h8, hS⟩ := hcut
  go_upto_region 15 with fail
  go_cut [11] (fun s11 wx => s11 = .string (sh k n s) ∧ wx.heap[b10]? = some (O3 mk mn ms) ∧ wx.heap[b9]? = some (O3 tk tn ts) ∧ wx.heap[b8]? = some (O3 ak an az) ∧ OS w k n s wx)
  case first =>
    obtain ⟨⟨o0, o1, o2⟩, p0, p1, p2⟩ := cells3 hS.own
    go_wp2_with fail
    refine (rshow_any k n s _ HV.out hb.1 hb.2).mono ?_
    rintro e w1 ⟨rfl, q1⟩
    go_wp2_with fail
    go_meet
    case rel => exact ⟨rfl, bk h10 q1, bk h9 q1, bk h8 q1, hS.next q1⟩
  case rest =>
  clear hS h8 h9 h10
  obtain ⟨rfl, h10, h9, h8, hS⟩ := hcut
  go_upto_region 16 with fail
  go_cut [12] (fun s12 wx => ∃ b12, s12 = ptr b12 ∧ wx.heap[b12]? = some (O3 ak an az) ∧ wx.heap[b10]? = some (O3 mk mn ms) ∧ wx.heap[b9]? = some (O3 tk tn ts) ∧ wx.heap[b8]? = some (O3 ak an az) ∧ OS w k n s wx)
  case first =>
    obtain ⟨⟨o0, o1, o2⟩, p0, p1, p2⟩ := cells3 hS.own
    go_wp2_with fail
    refine (rnumber_any k n s _ HV.out).mono ?_
    rintro e w1 ⟨rfl, q1⟩
    rw [HA.out.1, HA.out.2.1, HA.out.2.2]
    replace hS := hS.next q1
    replace h8 := bk h8 q1
    replace h9 := bk h9 q1
    replace h10 := bk h10 q1
    go_wp2_with fail
    go_meet
    case rel => exact ⟨_, rfl, hat _ _ _ rfl, bkA h10 _, bkA h9 _, bkA h8 _, hS.alloc _⟩
  case rest =>
  clear hS h8 h9 h10
  obtain ⟨b12, rfl, h12, h10, h9, h8, hS⟩ := hcut
  go_upto_region 17 with fail
  go_cut [13] (fun s13 wx => ∃ b13, s13 = ptr b13 ∧ wx.heap[b13]? = some (O3 tk tn ts) ∧ wx.heap[b12]? = some (O3 ak an az) ∧ wx.heap[b10]? = some (O3 mk mn ms) ∧ wx.heap[b9]? = some (O3 tk tn ts) ∧ wx.heap[b8]? = some (O3 ak an az) ∧ OS w k n s wx)
  case first =>
    obtain ⟨⟨o0, o1, o2⟩, p0, p1, p2⟩ := cells3 hS.own
    go_wp2_with fail
    refine (rtruth_any k n s _ HV.out).mono ?_
    rintro e w1 ⟨rfl, q1⟩
    rw [HTr.out.1, HTr.out.2.1, HTr.out.2.2]
    replace hS := hS.next q1
    replace h8 := bk h8 q1
    replace h9 := bk h9 q1
    replace h10 := bk h10 q1
    replace h12 := bk h12 q1
    go_wp2_with fail
    go_meet
    case rel => exact ⟨_, rfl, hat _ _ _ rfl, bkA h12 _, bkA h10 _, bkA h9 _, bkA h8 _, hS.alloc _⟩
  case rest =>
  clear hS h8 h9 h10 h12
  obtain ⟨b13, rfl, h13, h12, h10, h9, h8, hS⟩ := hcut
  go_upto_region 18 with fail
  go_cut [14] (fun s14 wx => ∃ b14, s14 = ptr b14 ∧ wx.heap[b14]? = some (O3 mk mn ms) ∧ wx.heap[b13]? = some (O3 tk tn ts) ∧ wx.heap[b12]? = some (O3 ak an az) ∧ wx.heap[b10]? = some (O3 mk mn ms) ∧ wx.heap[b9]? = some (O3 tk tn ts) ∧ wx.heap[b8]? = some (O3 ak an az) ∧ OS w k n s wx)
  case first =>
    have HC : Hid (∀ W, Calls Tryz.prog 15 #[.int .i64 9, V 1 0 nul, V k n s] W fun e w' => e = .returned (V mk mn ms) ∧ Below W.heap.size W w') := by
      intro W
      have := rtwo_num 9 (by omega) (by omega) _ _ recks_9 1 0 nul k n s W (val_num 0) HV.out ⟨by omega, by omega⟩ hb
      rw [HM.out.1, HM.out.2.1, HM.out.2.2] at this
      exact this
    have hSd := hS.next (drew_below wc)
    obtain ⟨⟨o0, o1, o2⟩, p0, p1, p2⟩ := cells3 (w := wc) hSd.own
    have l8 := lt_of_blk h8
    have l9 := lt_of_blk h9
    have l10 := lt_of_blk h10
    have l12 := lt_of_blk h12
    have l13 := lt_of_blk h13
    have lS := lt_of_blk hS.own
    have hd := drew_below wc
    obtain ⟨⟨o3, o4, o5⟩, p3, p4, p5⟩ := cells3 (w := wc.drew.alloc (O3 0 0 nul)) (hSd.alloc (O3 0 0 nul)).own
    go_region_with (first | (go_at_call 16; refine (rnum_any _ _).mono ?_; rintro e w1 ⟨rfl, q1⟩; first | (have hS1 := hSd.next q1; have qa := two_below hd q1; obtain ⟨⟨x0, x1, x2⟩, y0, y1, y2⟩ := cells3 hS1.own; obtain ⟨⟨x3, x4, x5⟩, y3, y4, y5⟩ := cells3 (hS1.alloc (O3 0 0 nul)).own) | (have hS1 := (hSd.alloc (O3 0 0 nul)).next q1; have qa := two_below (two_below hd (al_below _ _)) q1; have hblk0 := bk (hat wc.drew (O3 0 0 nul) wc.heap.size rfl) q1; obtain ⟨⟨x0, x1, x2⟩, y0, y1, y2⟩ := cells3 hS1.own)) | (go_at_call 15; refine (HC.out _).mono ?_; rintro e w2 ⟨rfl, q2⟩; first | (have hS2 := hS1.next q2; have qq := two_below qa q2; have hblk := bk hblk0 q2; obtain ⟨⟨z0, z1, z2⟩, v0, v1, v2⟩ := cells3 hblk) | (have hS2 := hS1.next q2; have qq := two_below qa q2) | (have hS2 := (hS1.alloc (O3 0 0 nul)).next q2; have qq := two_below (two_below qa (al_below _ _)) q2; have hblk := bk (hat w1 (O3 0 0 nul) _ rfl) q2; obtain ⟨⟨z0, z1, z2⟩, v0, v1, v2⟩ := cells3 hblk)))
    all_goals
      have ls1 := qa.size
      go_wp2_with fail
      go_meet
      case rel =>
        first
        | exact ⟨_, rfl, hat _ _ _ rfl, bkA (bk h13 qq) _, bkA (bk h12 qq) _, bkA (bk h10 qq) _, bkA (bk h9 qq) _, bkA (bk h8 qq) _, hS2.alloc _⟩
        | exact ⟨_, rfl, set3 hblk, keep3 (bk h13 qq) (by omega), keep3 (bk h12 qq) (by omega), keep3 (bk h10 qq) (by omega), keep3 (bk h9 qq) (by omega), keep3 (bk h8 qq) (by omega), hS2.set (by omega)⟩
  case rest =>
  clear hS h8 h9 h10 h12 h13
  obtain ⟨b14, rfl, h14, h13, h12, h10, h9, h8, hS⟩ := hcut
  obtain ⟨⟨a0, a1, a2⟩, _, _, _⟩ := cells3 h8
  obtain ⟨⟨c0, c1, c2⟩, _, _, _⟩ := cells3 h12
  obtain ⟨⟨d0, d1, d2⟩, _, _, _⟩ := cells3 h9
  obtain ⟨⟨e0, e1, e2⟩, _, _, _⟩ := cells3 h13
  obtain ⟨⟨f0, f1, f2⟩, _, _, _⟩ := cells3 h10
  obtain ⟨⟨g0, g1, g2⟩, _, _, _⟩ := cells3 h14
  have hB := hS.below
  go_wp2_with fail
  go_ret
  exact ⟨by simp, hB⟩
theorem makes_law (k n : Int) (s : ByteArray) (w : World) (hb : B64 n) (hE : Env w) (hT : ErrTy w) :
    Calls Tryz.prog 3 #[V k n s] w fun e w' => e = .returned (.bool true) ∧ Below w.heap.size w w' := by
  cases h : isVal k n s
  · exact makes_no k n s w h hT
  · exact makes_yes k n s w h hb hE
end Go.Proofs.YtgoadofnfaidcaaGreatDoor
