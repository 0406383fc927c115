/- The law AddrNames: what it returns, whatever the text and the ref. Conditions: the text has at most 2^47 bytes; errors.errorType holds what its initialiser lays. -/
import Derived.Test.YtmaiabkggpifgaaDoorArname
import Derived.Test.YtmaiabkggpifgaaDoorAs
namespace Go.Proofs.YtmaiabkggpifgaaDoor.adr
open Go.RowKit
theorem cells_twof {w : World} {b : Nat} {a0 a1 : Value} {t : TypeId} (h : w.heap[b]? = some (.cells #[a0, a1] t (0, 0))) : (w.cell? ⟨b, 0, none⟩ = some a0 ∧ w.cell? ⟨b, 1, none⟩ = some a1) ∧ w.frozen? ⟨b, 0, none⟩ = false ∧ w.frozen? ⟨b, 1, none⟩ = false := by
  simp [World.cell?, World.frozen?, h]
theorem set2 {w : World} {b : Nat} {a0 a1 u0 u1 : Value} {t : TypeId} (h : w.heap[b]? = some (.cells #[a0, a1] t (0, 0))) :
    ((w.setCell ⟨b, 0, none⟩ u0).setCell ⟨b, 1, none⟩ u1).heap[b]? = some (.cells #[u0, u1] t (0, 0)) := by
  rw [block_setCell (block_setCell h)]
  rfl
theorem below2 {w : World} {b B : Nat} (hB : B ≤ b) {u0 u1 : Value} : Below B w ((w.setCell ⟨b, 0, none⟩ u0).setCell ⟨b, 1, none⟩ u1) :=
  ((Below.refl _ _).setCell hB _).setCell hB _
theorem blk_next {wx wy : World} {b : Nat} {o : Obj} (h : wx.heap[b]? = some o) (hb : Below wx.heap.size wx wy) : wy.heap[b]? = some o := by rw [hb.block _ (lt_of_block h)]; exact h
theorem blk_alloc {wx : World} {b : Nat} {o : Obj} (h : wx.heap[b]? = some o) (o' : Obj) : (wx.alloc o').heap[b]? = some o := blk_next h ((Below.refl _ _).alloc (Nat.le_refl _) _)
/-- Is it a cell's name? -/
def clOk (ok fc fr : Bool) : Bool := ok && !fc && !fr
def pick0 (t : Bool) (c : Int) : Int := if t = true then c else 0
set_option maxRecDepth 100000 in
set_option maxHeartbeats 4000000 in
theorem cellOf_any (s : ByteArray) (w : World) (hs : s.size ≤ 140737488355328) (c r : Int) (fc fr ok : Bool) (hD : rdR s = ⟨c, r, fc, fr, ok⟩) :
    Calls Tryd.prog 9 #[.string s] w fun e w' => e = .returned (.tuple #[C (pick0 (clOk ok fc fr) c) (pick0 (clOk ok fc fr) r), ckx (clOk ok fc fr)]) ∧ Below w.heap.size w w' := by
  have HD : Hid (rdR s = ⟨c, r, fc, fr, ok⟩) := hD
  clear hD
  go_enter Tryd.func9, Tryd.ntmps9
  go_upto_region 1 with fail
  go_cut [4, 5] (fun s4 s5 wx => ∃ b x y u v, s4 = ptr b ∧ s5 = .bool ok ∧ wx.heap[b]? = some (.cells #[.int .i64 x, .int .i64 y, .bool u, .bool v] 25 (0, 0)) ∧ wx.heap[w.heap.size]? = some (.cells #[.int .i64 0, .int .i64 0] 23 (0, 0)) ∧ Below w.heap.size w wx ∧ Hid (ok = true → c = x ∧ r = y ∧ fc = u ∧ fr = v))
  case first =>
    go_wp2_with fail
    refine (readRef_any s _ hs).mono ?_
    rintro e w1 ⟨⟨x, y, u, v, rfl, he⟩, b1⟩
    rw [HD.out] at he ⊢
    have HE : Hid (ok = true → c = x ∧ r = y ∧ fc = u ∧ fr = v) := by
      intro q
      have := he q
      simp only [Rd.mk.injEq] at this
      exact ⟨this.1, this.2.1, this.2.2.1, this.2.2.2.1⟩
    clear he
    have hblk : w1.heap[w.heap.size]? = some (.cells #[.int .i64 0, .int .i64 0] 23 (0, 0)) := by rw [b1.block w.heap.size (by simp)]; exact heap_alloc_new w _
    have hB := bnext ((Below.refl w.heap.size w).alloc (Nat.le_refl _) _) b1 (by simp)
    have hsz := hB.size
    go_wp2_with fail
    go_meet
    case rel => exact ⟨_, x, y, u, v, rfl, rfl, heap_at _ _ _ rfl, blk_alloc hblk _, hB.alloc hsz _, HE⟩
  case rest =>
  obtain ⟨b, x, y, u, v, rfl, rfl, hb, hres, hB, HE⟩ := hcut
  obtain ⟨⟨o0, o1, o2, o3⟩, p0, p1, p2, p3⟩ := cells_four hb
  obtain ⟨⟨g0, g1⟩, f0, f1⟩ := cells_twof hres
  cases ok
  · clear HE HD
    go_wp2_with fail
    exact bodyPost_ret (v := .tuple #[C 0 0, .iface 59 (.int .i64 2)]) (by simp [results, Tryd.results9, go_sem, g0, g1]) rfl ⟨rfl, hB.trans (below2 (Nat.le_refl _))⟩
  · obtain ⟨rfl, rfl, rfl, rfl⟩ := HE.out rfl
    clear HE HD
    cases fc
    · cases fr
      · go_wp2_with fail
        exact bodyPost_ret (v := .tuple #[C c r, .nilIface]) (by simp [results, Tryd.results9, go_sem, g0, g1]) rfl ⟨rfl, hB.trans (below2 (Nat.le_refl _))⟩
      · go_wp2_with fail
        exact bodyPost_ret (v := .tuple #[C 0 0, .iface 59 (.int .i64 2)]) (by simp [results, Tryd.results9, go_sem, g0, g1]) rfl ⟨rfl, hB.trans (below2 (Nat.le_refl _))⟩
    · cases fr
      · go_wp2_with fail
        exact bodyPost_ret (v := .tuple #[C 0 0, .iface 59 (.int .i64 2)]) (by simp [results, Tryd.results9, go_sem, g0, g1]) rfl ⟨rfl, hB.trans (below2 (Nat.le_refl _))⟩
      · go_wp2_with fail
        exact bodyPost_ret (v := .tuple #[C 0 0, .iface 59 (.int .i64 2)]) (by simp [results, Tryd.results9, go_sem, g0, g1]) rfl ⟨rfl, hB.trans (below2 (Nat.le_refl _))⟩
theorem same_ckn (t : Bool) (m : Int) (w : World) (hE : ErrTy w) (hm : m = if t = true then 0 else 1) :
    Calls Tryd.prog 8 #[ckc t, .int .i64 m] w fun e w' => e = .returned (.bool true) ∧ Below w.heap.size w w' := by
  subst hm
  cases t
  · exact same_errno 1 1 w hE
  · exact same_nil 0 w
theorem same_ckx (t : Bool) (m : Int) (w : World) (hE : ErrTy w) (hm : m = if t = true then 0 else 2) :
    Calls Tryd.prog 8 #[ckx t, .int .i64 m] w fun e w' => e = .returned (.bool true) ∧ Below w.heap.size w w' := by
  subst hm
  cases t
  · exact same_errno 2 2 w hE
  · exact same_nil 0 w
theorem BS.env {w wx : World} {c r : Int} {fc fr : Bool} (h : BS w c r fc fr wx) (hE : ErrTy w) : ErrTy wx := hE.below h.below hE.1
set_option maxRecDepth 100000 in
set_option maxHeartbeats 8000000 in
theorem addrNames_law (s : ByteArray) (c r : Int) (fc fr : Bool) (w : World) (hs : s.size ≤ 140737488355328) (hE : ErrTy w) :
    Calls Tryd.prog 3 #[.string s, R c r fc fr] w fun e w' => e = .returned (.bool true) ∧ Below w.heap.size w w' := by
  have hS := BS.start w c r fc fr
  obtain ⟨D, hD⟩ : ∃ D, rdR s = D := ⟨_, rfl⟩
  obtain ⟨dc, dr, df, dg, ok⟩ := D
  have HD : Hid (rdR s = ⟨dc, dr, df, dg, ok⟩) := hD
  have HZ : Hid (ok = false → dc = 0 ∧ dr = 0) := by
    intro q
    have := rdR_no (s := s) (by rw [hD]; exact q)
    rw [hD] at this
    simp only [Rd.mk.injEq] at this
    exact ⟨this.1, this.2.1⟩
  clear hD
  go_enter Tryd.func3, Tryd.ntmps3
  go_upto_region 1 with fail
  go_cut [5, 6] (fun s5 s6 wx => ∃ b, s5 = ptr b ∧ s6 = .bool ok ∧ wx.heap[b]? = some (.cells #[.int .i64 dc, .int .i64 dr, .bool df, .bool dg] 25 (0, 0)) ∧ BS w c r fc fr wx)
  case first =>
    go_wp2_with fail
    refine (rref_any s _ hs).mono ?_
    rintro e w1 ⟨rfl, q1⟩
    rw [HD.out]
    replace hS := hS.next q1
    go_wp2_with fail
    go_meet
    case rel => exact ⟨_, rfl, rfl, heap_at _ _ _ rfl, hS.alloc _⟩
  case rest =>
  clear hS
  obtain ⟨b, rfl, rfl, hb, hS⟩ := hcut
  go_upto_region 3 with fail
  go_cut [27] (fun s27 wx => s27 = .bool (!ok) ∧ wx = wc)
  case first =>
    go_wp2_with fail
    go_meet
    case rel => exact ⟨rfl, rfl⟩
  case rest =>
  obtain ⟨rfl, rfl⟩ := hcut
  go_upto_if 27 with fail
  go_cut [7] (fun s7 wx => ∃ m : Int, s7 = .int .i64 m ∧ Hid (m = if ok = true then 0 else 2) ∧ wx = wc)
  case first =>
    cases ok
    · go_wp2_with fail
      go_meet
      case rel => exact ⟨2, rfl, rfl, rfl⟩
    · go_wp2_with fail
      go_meet
      case rel => exact ⟨0, rfl, rfl, rfl⟩
  case rest =>
  obtain ⟨m, rfl, hm, rfl⟩ := hcut
  go_upto_region 5 with fail
  go_cut [8, 9] (fun s8 s9 wx => ∃ b', s8 = ptr b' ∧ s9 = ckx ok ∧ wx.heap[b']? = some (.cells #[.int .i64 dc, .int .i64 dr, .bool df, .bool dg] 25 (0, 0)) ∧ wx.heap[b]? = some (.cells #[.int .i64 dc, .int .i64 dr, .bool df, .bool dg] 25 (0, 0)) ∧ BS w c r fc fr wx)
  case first =>
    go_wp2_with fail
    refine (ref_any s _ hs).mono ?_
    rintro e w1 ⟨rfl, q1⟩
    rw [HD.out]
    replace hS := hS.next q1
    replace hb := blk_next hb q1
    go_wp2_with fail
    go_meet
    case rel => exact ⟨_, rfl, rfl, heap_at _ _ _ rfl, blk_alloc hb _, hS.alloc _⟩
  case rest =>
  clear hS hb
  obtain ⟨b', rfl, rfl, hb', hb, hS⟩ := hcut
  go_upto_region 6 with fail
  go_cut [10] (fun s10 wx => s10 = .bool true ∧ wx.heap[b']? = some (.cells #[.int .i64 dc, .int .i64 dr, .bool df, .bool dg] 25 (0, 0)) ∧ wx.heap[b]? = some (.cells #[.int .i64 dc, .int .i64 dr, .bool df, .bool dg] 25 (0, 0)) ∧ BS w c r fc fr wx)
  case first =>
    go_wp2_with fail
    refine (same_ckx ok m _ (hS.env hE) hm.out).mono ?_
    rintro e w1 ⟨rfl, q1⟩
    go_wp2_with fail
    go_meet
    case rel => exact ⟨rfl, blk_next hb' q1, blk_next hb q1, hS.next q1⟩
  case rest =>
  clear hS hb hb'
  obtain ⟨rfl, hb', hb, hS⟩ := hcut
  go_upto_region 7 with fail
  go_cut [42] (fun s42 wx => s42 = .bool false ∧ wx = wc)
  case first =>
    obtain ⟨⟨o0, o1, o2, o3⟩, p0, p1, p2, p3⟩ := cells_four hb'
    obtain ⟨⟨q0, q1, q2, q3⟩, v0, v1, v2, v3⟩ := cells_four hb
    go_wp2_with fail
    go_meet
    case rel => exact ⟨by simp, rfl⟩
  case rest =>
  obtain ⟨rfl, rfl⟩ := hcut
  clear hb'
  go_upto_region 9 with fail
  go_cut [11] (fun s11 wx => ∃ bc, s11 = ptr bc ∧ w.heap.size < bc ∧ b < bc ∧ wx.heap[bc]? = some (.cells #[.int .i64 dc, .int .i64 dr] 23 (0, 0)) ∧ wx.heap[b]? = some (.cells #[.int .i64 dc, .int .i64 dr, .bool df, .bool dg] 25 (0, 0)) ∧ BS w c r fc fr wx)
  case first =>
    obtain ⟨⟨q0, q1, q2, q3⟩, v0, v1, v2, v3⟩ := cells_four hb
    go_wp2_with fail
    go_meet
    case rel => exact ⟨_, rfl, lt_of_block hS.own, lt_of_block hb, heap_at _ _ _ rfl, blk_alloc hb _, hS.alloc _⟩
  case rest =>
  clear hS hb
  obtain ⟨bc, rfl, hbc1, hbc2, hbc, hb, hS⟩ := hcut
  go_upto_region 10 with fail
  go_cut [53] (fun s53 wx => s53 = .bool (ok && (df || dg)) ∧ wx = wc)
  case first =>
    obtain ⟨⟨q0, q1, q2, q3⟩, v0, v1, v2, v3⟩ := cells_four hb
    cases ok
    · go_wp2_with fail
      go_meet
      case rel => exact ⟨rfl, rfl⟩
    · cases df
      · go_wp2_with fail
        go_meet
        case rel => exact ⟨rfl, rfl⟩
      · go_wp2_with fail
        go_meet
        case rel => exact ⟨rfl, rfl⟩
  case rest =>
  obtain ⟨rfl, rfl⟩ := hcut
  clear hb
  obtain ⟨z, hz⟩ : ∃ z, (ok && (df || dg)) = z := ⟨_, rfl⟩
  have HZ2 : Hid ((ok && (df || dg)) = z) := hz
  rw [hz]
  clear hz
  go_upto_if 53 with fail
  go_cut [7] (fun s7 wx => ∃ m : Int, s7 = .int .i64 m ∧ Hid (m = if clOk ok df dg = true then 0 else 2) ∧ wx.heap[bc]? = some (.cells #[.int .i64 (pick0 (clOk ok df dg) dc), .int .i64 (pick0 (clOk ok df dg) dr)] 23 (0, 0)) ∧ BS w c r fc fr wx)
  case first =>
    cases z
    · have hv : Hid ((m = if clOk ok df dg = true then 0 else 2) ∧ pick0 (clOk ok df dg) dc = dc ∧ pick0 (clOk ok df dg) dr = dr) := by
        have hz := HZ2.out
        have hmm := hm.out
        unfold Hid
        cases ok
        · obtain ⟨e1, e2⟩ := HZ.out rfl
          subst e1 e2
          exact ⟨hmm, rfl, rfl⟩
        · cases df <;> cases dg <;> first | exact ⟨hmm, rfl, rfl⟩ | cases hz
      clear HZ2
      go_wp2_with fail
      go_meet
      case rel => exact ⟨m, rfl, hv.out.1, by rw [hv.out.2.1, hv.out.2.2]; exact hbc, hS⟩
    · have hv : Hid (clOk ok df dg = false) := by
        have hz := HZ2.out
        unfold Hid
        cases ok <;> cases df <;> cases dg <;> first | rfl | cases hz
      clear HZ2
      obtain ⟨⟨g0, g1⟩, f0, f1⟩ := cells_twof hbc
      go_wp2_with fail
      go_meet
      case rel =>
        refine ⟨2, rfl, by rw [hv.out]; rfl, by rw [hv.out]; exact set2 hbc, ⟨?_, hS.below.trans (below2 (by omega))⟩⟩
        rw [(below2 (B := bc) (Nat.le_refl bc)).block _ (by omega)]
        exact hS.own
  case rest =>
  clear hS hbc hm HZ HZ2
  obtain ⟨m, rfl, hm, hbc, hS⟩ := hcut
  obtain ⟨k, hk⟩ : ∃ k, clOk ok df dg = k := ⟨_, rfl⟩
  have HK : Hid (clOk ok df dg = k) := hk
  rw [hk] at hm hbc
  obtain ⟨x, hx⟩ : ∃ x, pick0 k dc = x := ⟨_, rfl⟩
  obtain ⟨y, hy⟩ : ∃ y, pick0 k dr = y := ⟨_, rfl⟩
  have HX : Hid (pick0 k dc = x) := hx
  have HY : Hid (pick0 k dr = y) := hy
  rw [hx, hy] at hbc
  clear hk hx hy
  go_upto_region 13 with fail
  go_cut [12, 9] (fun s12 s9 wx => ∃ b', s12 = ptr b' ∧ s9 = ckx k ∧ wx.heap[b']? = some (.cells #[.int .i64 x, .int .i64 y] 23 (0, 0)) ∧ wx.heap[bc]? = some (.cells #[.int .i64 x, .int .i64 y] 23 (0, 0)) ∧ BS w c r fc fr wx)
  case first =>
    go_wp2_with fail
    refine (cellOf_any s _ hs _ _ _ _ _ HD.out).mono ?_
    rintro e w1 ⟨rfl, q1⟩
    rw [HK.out, HX.out, HY.out]
    replace hS := hS.next q1
    replace hbc := blk_next hbc q1
    go_wp2_with fail
    go_meet
    case rel => exact ⟨_, rfl, rfl, heap_at _ _ _ rfl, blk_alloc hbc _, hS.alloc _⟩
  case rest =>
  clear hS hbc HX HY HK HD
  obtain ⟨b2, rfl, rfl, hb2, hbc, hS⟩ := hcut
  go_upto_region 14 with fail
  go_cut [10] (fun s10 wx => s10 = .bool true ∧ wx.heap[b2]? = some (.cells #[.int .i64 x, .int .i64 y] 23 (0, 0)) ∧ wx.heap[bc]? = some (.cells #[.int .i64 x, .int .i64 y] 23 (0, 0)) ∧ BS w c r fc fr wx)
  case first =>
    go_wp2_with fail
    refine (same_ckx k m _ (hS.env hE) hm.out).mono ?_
    rintro e w1 ⟨rfl, q1⟩
    go_wp2_with fail
    go_meet
    case rel => exact ⟨rfl, blk_next hb2 q1, blk_next hbc q1, hS.next q1⟩
  case rest =>
  clear hS hbc hb2 hm
  obtain ⟨rfl, hb2, hbc, hS⟩ := hcut
  go_upto_region 15 with fail
  go_cut [69] (fun s69 wx => s69 = .bool false ∧ wx = wc)
  case first =>
    obtain ⟨⟨g0, g1⟩, f0, f1⟩ := cells_twof hb2
    obtain ⟨⟨g2, g3⟩, f2, f3⟩ := cells_twof hbc
    go_wp2_with fail
    go_meet
    case rel => exact ⟨by simp, rfl⟩
  case rest =>
  obtain ⟨rfl, rfl⟩ := hcut
  clear hb2 hbc
  obtain ⟨t, ht⟩ : ∃ t, isC c r = t := ⟨_, rfl⟩
  have HT : Hid (isC c r = t) := ht
  clear ht
  go_upto_region 20 with fail
  go_cut [15] (fun s15 wx => s15 = .bool t ∧ BS w c r fc fr wx)
  case first =>
    obtain ⟨⟨o0, o1, o2, o3⟩, p0, p1, p2, p3⟩ := cells_four hS.own
    go_wp2_with fail
    refine (in_any _ _ _).mono ?_
    rintro e w1 ⟨rfl, q1⟩
    rw [HT.out]
    go_wp2_with fail
    go_meet
    case rel => exact ⟨rfl, hS.next q1⟩
  case rest =>
  clear hS
  obtain ⟨rfl, hS⟩ := hcut
  obtain ⟨n1, hn1⟩ : ∃ n1, nm c r fc fr = n1 := ⟨_, rfl⟩
  obtain ⟨n2, hn2⟩ : ∃ n2, nm c r false false = n2 := ⟨_, rfl⟩
  have HN1 : Hid (nm c r fc fr = n1) := hn1
  have HN2 : Hid (nm c r false false = n2) := hn2
  clear hn1 hn2
  go_upto_region 21 with fail
  go_cut [73] (fun s73 wx => s73 = .bool t ∧ wx = wc)
  case first =>
    go_wp2_with fail
    go_meet
    case rel => exact ⟨rfl, rfl⟩
  case rest =>
  obtain ⟨rfl, rfl⟩ := hcut
  go_upto_if 73 with fail
  go_cut [7, 13, 14] (fun s7 s13 s14 wx => ∃ m : Int, s7 = .int .i64 m ∧ Hid (m = if t = true then 0 else 1) ∧ s13 = .string n1 ∧ s14 = .string n2 ∧ BS w c r fc fr wx)
  case first =>
    cases t
    · have e1 : Hid (n1 = nul ∧ n2 = nul) := by
        unfold Hid
        rw [← HN1.out, ← HN2.out]
        unfold nm
        rw [HT.out]
        exact ⟨rfl, rfl⟩
      clear HN1 HN2
      go_wp2_with fail
      go_meet
      case rel => exact ⟨1, rfl, rfl, by rw [e1.out.1], by rw [e1.out.2], hS⟩
    · have ⟨⟨o0, o1, o2, o3⟩, p0, p1, p2, p3⟩ := cells_four hS.own
      go_wp2_with fail
      refine (rrefName_any _ _ _ _ HT.out _).mono ?_
      rintro e w1 ⟨rfl, q1⟩
      rw [HN1.out]
      replace hS := hS.next q1
      clear o0 o1 o2 o3 p0 p1 p2 p3
      have ⟨⟨o0, o1, o2, o3⟩, p0, p1, p2, p3⟩ := cells_four hS.own
      go_wp2_with fail
      refine (rrefName_any _ _ _ _ HT.out _).mono ?_
      rintro e w2 ⟨rfl, q2⟩
      rw [HN2.out]
      replace hS := hS.next q2
      go_wp2_with fail
      go_meet
      case rel => exact ⟨0, rfl, rfl, rfl, rfl, hS⟩
  case rest =>
  clear hS
  obtain ⟨m, rfl, hm, rfl, rfl, hS⟩ := hcut
  go_upto_region 25 with fail
  go_cut [16, 9] (fun s16 s9 wx => s16 = .string n1 ∧ s9 = ckc t ∧ BS w c r fc fr wx)
  case first =>
    obtain ⟨⟨o0, o1, o2, o3⟩, p0, p1, p2, p3⟩ := cells_four hS.own
    go_wp2_with fail
    refine (refName_any _ _ _ _ _).mono ?_
    rintro e w1 ⟨rfl, q1⟩
    rw [HN1.out, HT.out]
    go_wp2_with fail
    go_meet
    case rel => exact ⟨rfl, rfl, hS.next q1⟩
  case rest =>
  clear hS
  obtain ⟨rfl, rfl, hS⟩ := hcut
  go_upto_region 26 with fail
  go_cut [17] (fun s17 wx => s17 = .bool true ∧ BS w c r fc fr wx)
  case first =>
    go_wp2_with fail
    refine (same_ckn t m _ (hS.env hE) hm.out).mono ?_
    rintro e w1 ⟨rfl, q1⟩
    go_wp2_with fail
    go_meet
    case rel => exact ⟨rfl, hS.next q1⟩
  case rest =>
  clear hS
  obtain ⟨rfl, hS⟩ := hcut
  go_upto_region 27 with fail
  go_cut [18, 9] (fun s18 s9 wx => s18 = .string n2 ∧ s9 = ckc t ∧ BS w c r fc fr wx)
  case first =>
    obtain ⟨⟨o0, o1, o2, o3⟩, p0, p1, p2, p3⟩ := cells_four hS.own
    go_wp2_with fail
    refine (name_any _ _ _).mono ?_
    rintro e w1 ⟨rfl, q1⟩
    rw [HN2.out, HT.out]
    go_wp2_with fail
    go_meet
    case rel => exact ⟨rfl, rfl, hS.next q1⟩
  case rest =>
  clear hS
  obtain ⟨rfl, rfl, hS⟩ := hcut
  go_upto_region 28 with fail
  go_cut [19] (fun s19 wx => s19 = .bool true ∧ BS w c r fc fr wx)
  case first =>
    go_wp2_with fail
    refine (same_ckn t m _ (hS.env hE) hm.out).mono ?_
    rintro e w1 ⟨rfl, q1⟩
    go_wp2_with fail
    go_meet
    case rel => exact ⟨rfl, hS.next q1⟩
  case rest =>
  clear hS
  obtain ⟨rfl, hS⟩ := hcut
  go_upto_region 29 with fail
  go_cut [9] (fun s9 wx => s9 = ckc t ∧ BS w c r fc fr wx)
  case first =>
    obtain ⟨⟨o0, o1, o2, o3⟩, p0, p1, p2, p3⟩ := cells_four hS.own
    go_wp2_with fail
    refine (check_any _ _ _).mono ?_
    rintro e w1 ⟨rfl, q1⟩
    rw [HT.out]
    go_wp2_with fail
    go_meet
    case rel => exact ⟨rfl, hS.next q1⟩
  case rest =>
  clear hS
  obtain ⟨rfl, hS⟩ := hcut
  go_wp2_with fail
  refine (same_ckn t m _ (hS.env hE) hm.out).mono ?_
  rintro e w1 ⟨rfl, q1⟩
  have hB := (hS.next q1).below
  go_wp2_with fail
  go_ret
  exact ⟨by simp, hB⟩
end Go.Proofs.YtmaiabkggpifgaaDoor.adr
