/- The law AddrShifts: what it returns, whatever the ref, the steps, the cell and the box. Conditions: errors.errorType holds what its initialiser lays. -/
import Derived.Test.YtmaiabkggpifgaaDoorAsame
import Derived.Test.YtmaiabkggpifgaaDoorAs
namespace Go.Proofs.YtmaiabkggpifgaaDoor.adr
open Go.RowKit
/-- What the law has at hand. -/
structure LS (w : World) (c r : Int) (fc fr : Bool) (d s : Int) (x0 x1 x2 x3 : Int) (wx : World) : Prop where
  ref : wx.heap[w.heap.size]? = some (.cells #[.int .i64 c, .int .i64 r, .bool fc, .bool fr] 25 (0, 0))
  cell : wx.heap[w.heap.size + 1]? = some (.cells #[.int .i64 d, .int .i64 s] 23 (0, 0))
  box : wx.heap[w.heap.size + 2]? = some (.cells #[.int .i64 x0, .int .i64 x1, .int .i64 x2, .int .i64 x3] 43 (0, 0))
  below : Below w.heap.size w wx
section
variable {w wx : World} {c r : Int} {fc fr : Bool} {d s x0 x1 x2 x3 : Int}
theorem LS.start (w : World) (c r : Int) (fc fr : Bool) (d s x0 x1 x2 x3 : Int) : LS w c r fc fr d s x0 x1 x2 x3 (((w.alloc (.cells #[.int .i64 c, .int .i64 r, .bool fc, .bool fr] 25)).alloc (.cells #[.int .i64 d, .int .i64 s] 23)).alloc (.cells #[.int .i64 x0, .int .i64 x1, .int .i64 x2, .int .i64 x3] 43)) :=
  ⟨by rw [Below.heap_alloc _ _ _ (by simp; omega), Below.heap_alloc _ _ _ (by simp), heap_at _ _ _ rfl], by rw [Below.heap_alloc _ _ _ (by simp), heap_at _ _ _ (by simp)], heap_at _ _ _ (by simp), (((Below.refl _ _).alloc (Nat.le_refl _) _).alloc (by simp) _).alloc (by simp; omega) _⟩
theorem LS.lt (h : LS w c r fc fr d s x0 x1 x2 x3 wx) : w.heap.size + 2 < wx.heap.size := lt_of_block h.box
theorem LS.next {wy : World} (h : LS w c r fc fr d s x0 x1 x2 x3 wx) (hb : Below wx.heap.size wx wy) : LS w c r fc fr d s x0 x1 x2 x3 wy := by
  have hl := h.lt
  refine ⟨?_, ?_, ?_, bnext h.below hb h.below.size⟩
  · rw [hb.block _ (by omega)]; exact h.ref
  · rw [hb.block _ (by omega)]; exact h.cell
  · rw [hb.block _ (by omega)]; exact h.box
theorem LS.alloc (h : LS w c r fc fr d s x0 x1 x2 x3 wx) (o : Obj) : LS w c r fc fr d s x0 x1 x2 x3 (wx.alloc o) := h.next ((Below.refl _ _).alloc (Nat.le_refl _) _)
theorem LS.env (h : LS w c r fc fr d s x0 x1 x2 x3 wx) (hE : ErrTy w) : ErrTy wx := hE.below h.below hE.1
end
theorem block_next {wx wy : World} {b : Nat} {o : Obj} (h : wx.heap[b]? = some o) (hb : Below wx.heap.size wx wy) : wy.heap[b]? = some o := by rw [hb.block _ (lt_of_block h)]; exact h
theorem block_alloc {wx : World} {b : Nat} {o : Obj} (h : wx.heap[b]? = some o) (o' : Obj) : (wx.alloc o').heap[b]? = some o := block_next h ((Below.refl _ _).alloc (Nat.le_refl _) _)
/-- An error and its number. -/
theorem same_ck (t : Bool) (m : Int) (w : World) (hE : ErrTy w) (hm : m = if t = true then 0 else 1) :
    Calls Tryd.prog 8 #[ckc t, .int .i64 m] w fun e w' => e = .returned (.bool true) ∧ Below w.heap.size w w' := by
  subst hm
  cases t
  · exact same_errno 1 1 w hE
  · exact same_nil 0 w
set_option maxRecDepth 100000 in
set_option maxHeartbeats 8000000 in
theorem addrShifts_law (c r cols rows : Int) (fc fr : Bool) (d s x0 x1 x2 x3 : Int) (w : World) (hE : ErrTy w) (k0 : -9223372036854775808 ≤ cols) (k1 : cols ≤ 9223372036854775807) (l0 : -9223372036854775808 ≤ rows) (l1 : rows ≤ 9223372036854775807) :
    Calls Tryd.prog 4 #[R c r fc fr, .int .i64 cols, .int .i64 rows, C d s, X x0 x1 x2 x3] w fun e w' => e = .returned (.bool true) ∧ Below w.heap.size w w' := by
  have hS := LS.start w c r fc fr d s x0 x1 x2 x3
  obtain ⟨S, hSh⟩ : ∃ S, shR c r fc fr cols rows = S := ⟨_, rfl⟩
  have HSh : Hid (shR c r fc fr cols rows = S) := hSh
  clear hSh
  obtain ⟨sc, sr, sfc, sfr, sok⟩ := S
  go_enter Tryd.func4, Tryd.ntmps4
  go_upto_region 1 with fail
  go_cut [11, 12] (fun s11 s12 wx => ∃ b, s11 = ptr b ∧ s12 = .bool sok ∧ wx.heap[b]? = some (.cells #[.int .i64 sc, .int .i64 sr, .bool sfc, .bool sfr] 25 (0, 0)) ∧ LS w c r fc fr d s x0 x1 x2 x3 wx)
  case first =>
    obtain ⟨⟨o0, o1, o2, o3⟩, p0, p1, p2, p3⟩ := cells_four hS.ref
    go_wp2_with fail
    refine (rshift_any _ _ _ _ _ _ _ k0 k1 l0 l1).mono ?_
    rintro e w1 ⟨rfl, q1⟩
    rw [HSh.out]
    replace hS := hS.next q1
    go_wp2_with fail
    go_meet
    case rel => exact ⟨_, rfl, rfl, heap_at _ _ _ rfl, hS.alloc _⟩
  case rest =>
  clear hS
  obtain ⟨b, rfl, rfl, hb, hS⟩ := hcut
  go_upto_region 2 with fail
  go_cut [13, 14] (fun s13 s14 wx => ∃ b', s13 = ptr b' ∧ s14 = .bool sok ∧ wx.heap[b']? = some (.cells #[.int .i64 sc, .int .i64 sr, .bool sfc, .bool sfr] 25 (0, 0)) ∧ wx.heap[b]? = some (.cells #[.int .i64 sc, .int .i64 sr, .bool sfc, .bool sfr] 25 (0, 0)) ∧ LS w c r fc fr d s x0 x1 x2 x3 wx)
  case first =>
    obtain ⟨⟨o0, o1, o2, o3⟩, p0, p1, p2, p3⟩ := cells_four hS.ref
    go_wp2_with fail
    refine (shift_any _ _ _ _ _ _ _ k0 k1 l0 l1).mono ?_
    rintro e w1 ⟨rfl, q1⟩
    rw [HSh.out]
    replace hS := hS.next q1
    replace hb := block_next hb q1
    go_wp2_with fail
    go_meet
    case rel => exact ⟨_, rfl, rfl, heap_at _ _ _ rfl, block_alloc hb _, hS.alloc _⟩
  case rest =>
  clear hS hb HSh
  obtain ⟨b', rfl, rfl, hb', hb, hS⟩ := hcut
  go_upto_region 3 with fail
  go_cut [48] (fun s48 wx => s48 = .bool false ∧ wx = wc)
  case first =>
    obtain ⟨⟨o0, o1, o2, o3⟩, p0, p1, p2, p3⟩ := cells_four hb'
    obtain ⟨⟨q0, q1, q2, q3⟩, v0, v1, v2, v3⟩ := cells_four hb
    go_wp2_with fail
    go_meet
    case rel => exact ⟨by simp, rfl⟩
  case rest =>
  obtain ⟨rfl, rfl⟩ := hcut
  clear hb hb'
  go_upto_region 5 with fail
  go_cut [15] (fun s15 wx => s15 = .bool (isC c r) ∧ LS w c r fc fr d s x0 x1 x2 x3 wx)
  case first =>
    obtain ⟨⟨o0, o1, o2, o3⟩, p0, p1, p2, p3⟩ := cells_four hS.ref
    go_wp2_with fail
    refine (in_any _ _ _).mono ?_
    rintro e w1 ⟨rfl, q1⟩
    go_wp2_with fail
    go_meet
    case rel => exact ⟨rfl, hS.next q1⟩
  case rest =>
  clear hS
  obtain ⟨rfl, hS⟩ := hcut
  go_upto_region 6 with fail
  go_cut [16] (fun s16 wx => s16 = .bool (isC d s) ∧ LS w c r fc fr d s x0 x1 x2 x3 wx)
  case first =>
    obtain ⟨g0, g1⟩ := cells_two hS.cell
    go_wp2_with fail
    refine (in_any _ _ _).mono ?_
    rintro e w1 ⟨rfl, q1⟩
    go_wp2_with fail
    go_meet
    case rel => exact ⟨rfl, hS.next q1⟩
  case rest =>
  clear hS
  obtain ⟨rfl, hS⟩ := hcut
  go_upto_region 8 with fail
  go_cut [18] (fun s18 wx => ∃ b, s18 = ptr b ∧ wx.heap[b]? = some (.cells #[.int .i64 0, .int .i64 0, .int .i64 0, .int .i64 0] 43 (0, 0)) ∧ w.heap.size + 2 < b ∧ LS w c r fc fr d s x0 x1 x2 x3 wx)
  case first =>
    go_wp2_with fail
    go_meet
    case rel => exact ⟨_, rfl, heap_at _ _ _ rfl, hS.lt, hS.alloc _⟩
  case rest =>
  clear hS
  obtain ⟨b, rfl, hb, hlb, hS⟩ := hcut
  obtain ⟨z, hz⟩ : ∃ z, (isC c r && isC d s) = z := ⟨_, rfl⟩
  have HZ : Hid ((isC c r && isC d s) = z) := hz
  go_upto_region 9 with fail
  go_cut [15, 58] (fun s15 s58 wx => s58 = .bool z ∧ wx = wc ∧ s15 = s15)
  case first =>
    cases h1 : isC c r
    · rw [h1] at hz
      have HQ : Hid (z = false) := hz.symm
      clear hz
      go_wp2_with fail
      go_meet
      case rel => exact ⟨by rw [HQ.out], rfl, trivial⟩
    · rw [h1, Bool.true_and] at hz
      have HQ : Hid (isC d s = z) := hz
      clear hz
      go_wp2_with fail
      go_meet
      case rel => exact ⟨by rw [HQ.out], rfl, trivial⟩
  case rest =>
  obtain ⟨rfl, rfl, _⟩ := hcut
  clear hz
  go_upto_if 58 with fail
  go_cut [17] (fun s17 wx => ∃ m : Int, s17 = .int .i64 m ∧ Hid (m = if z = true then 0 else 1) ∧ wx.heap[b]? = some (.cells (match bxV z c r d s with | .agg a => a | _ => #[]) 43 (0, 0)) ∧ LS w c r fc fr d s x0 x1 x2 x3 wx)
  case first =>
    cases z
    · go_wp2_with fail
      go_meet
      case rel => exact ⟨1, rfl, rfl, hb, hS⟩
    · obtain ⟨⟨o0, o1, o2, o3⟩, p0, p1, p2, p3⟩ := cells_four hS.ref
      obtain ⟨g0, g1⟩ := cells_two hS.cell
      go_wp2_with fail
      refine (corners_any _ _ _ _ _).mono ?_
      rintro e w1 ⟨rfl, q1⟩
      replace hb := block_next hb q1
      replace hS := hS.next q1
      obtain ⟨⟨u0, u1, u2, u3⟩, v0, v1, v2, v3⟩ := cells_four hb
      go_wp2_with fail
      go_meet
      case rel =>
        refine ⟨0, rfl, rfl, set4 hb, ⟨?_, ?_, ?_, hS.below.trans (below4 (by omega))⟩⟩
        · rw [(below4 (B := b) (Nat.le_refl b)).block _ (by omega)]; exact hS.ref
        · rw [(below4 (B := b) (Nat.le_refl b)).block _ (by omega)]; exact hS.cell
        · rw [(below4 (B := b) (Nat.le_refl b)).block _ (by omega)]; exact hS.box
  case rest =>
  clear hS hb
  obtain ⟨m, rfl, hm, hb, hS⟩ := hcut
  have hE' := hS.env hE
  obtain ⟨y0, y1, y2, y3, hbx⟩ : ∃ y0 y1 y2 y3 : Int, bxV z c r d s = X y0 y1 y2 y3 := by
    cases z
    · exact ⟨0, 0, 0, 0, rfl⟩
    · exact ⟨_, _, _, _, rfl⟩
  have HBx : Hid (bxV z c r d s = X y0 y1 y2 y3) := hbx
  rw [hbx] at hb
  clear hbx hE'
  go_upto_region 12 with fail
  go_cut [19, 20] (fun s19 s20 wx => ∃ b', s19 = ptr b' ∧ s20 = ckc z ∧ wx.heap[b']? = some (.cells #[.int .i64 y0, .int .i64 y1, .int .i64 y2, .int .i64 y3] 43 (0, 0)) ∧ wx.heap[b]? = some (.cells #[.int .i64 y0, .int .i64 y1, .int .i64 y2, .int .i64 y3] 43 (0, 0)) ∧ LS w c r fc fr d s x0 x1 x2 x3 wx)
  case first =>
    obtain ⟨⟨o0, o1, o2, o3⟩, p0, p1, p2, p3⟩ := cells_four hS.ref
    obtain ⟨g0, g1⟩ := cells_two hS.cell
    go_wp2_with fail
    refine (box_any _ _ _ _ _).mono ?_
    rintro e w1 ⟨rfl, q1⟩
    rw [HZ.out, HBx.out]
    replace hS := hS.next q1
    replace hb := block_next hb q1
    go_wp2_with fail
    go_meet
    case rel => exact ⟨_, rfl, rfl, heap_at _ _ _ rfl, block_alloc hb _, hS.alloc _⟩
  case rest =>
  clear hS hb HBx HZ
  obtain ⟨b', rfl, rfl, hb', hb, hS⟩ := hcut
  go_upto_region 13 with fail
  go_cut [21] (fun s21 wx => s21 = .bool true ∧ wx.heap[b']? = some (.cells #[.int .i64 y0, .int .i64 y1, .int .i64 y2, .int .i64 y3] 43 (0, 0)) ∧ wx.heap[b]? = some (.cells #[.int .i64 y0, .int .i64 y1, .int .i64 y2, .int .i64 y3] 43 (0, 0)) ∧ LS w c r fc fr d s x0 x1 x2 x3 wx)
  case first =>
    go_wp2_with fail
    refine (same_ck z m _ (hS.env hE) hm.out).mono ?_
    rintro e w1 ⟨rfl, q1⟩
    go_wp2_with fail
    go_meet
    case rel => exact ⟨rfl, block_next hb' q1, block_next hb q1, hS.next q1⟩
  case rest =>
  clear hS hb hb' hm
  obtain ⟨rfl, hb', hb, hS⟩ := hcut
  go_upto_region 14 with fail
  go_cut [79] (fun s79 wx => s79 = .bool false ∧ wx = wc)
  case first =>
    obtain ⟨⟨o0, o1, o2, o3⟩, p0, p1, p2, p3⟩ := cells_four hb'
    obtain ⟨⟨q0, q1, q2, q3⟩, v0, v1, v2, v3⟩ := cells_four hb
    go_wp2_with fail
    go_meet
    case rel => exact ⟨by simp, rfl⟩
  case rest =>
  obtain ⟨rfl, rfl⟩ := hcut
  clear hb hb'
  obtain ⟨y, hy⟩ : ∃ y, bxB x0 x1 x2 x3 = y := ⟨_, rfl⟩
  have HY : Hid (bxB x0 x1 x2 x3 = y) := hy
  clear hy
  go_upto_region 18 with fail
  go_cut [12] (fun s12 wx => s12 = .bool y ∧ LS w c r fc fr d s x0 x1 x2 x3 wx)
  case first =>
    obtain ⟨⟨o0, o1, o2, o3⟩, p0, p1, p2, p3⟩ := cells_four hS.box
    go_wp2_with fail
    refine (boxed_any _ _ _ _ _).mono ?_
    rintro e w1 ⟨rfl, q1⟩
    rw [HY.out]
    go_wp2_with fail
    go_meet
    case rel => exact ⟨rfl, hS.next q1⟩
  case rest =>
  clear hS
  obtain ⟨rfl, hS⟩ := hcut
  go_upto_region 19 with fail
  go_cut [82] (fun s82 wx => s82 = .bool y ∧ wx = wc)
  case first =>
    go_wp2_with fail
    go_meet
    case rel => exact ⟨rfl, rfl⟩
  case rest =>
  obtain ⟨rfl, rfl⟩ := hcut
  obtain ⟨n, L, hL, hn, hcase0⟩ : ∃ (n : Nat) (L : List Value), Pairs L n ∧ n ≤ 2600 ∧ ((y = false ∧ n = 0 ∧ L = []) ∨ (y = true ∧ ∃ wd ht : Nat, (1 ≤ x0 ∧ 1 ≤ x1 ∧ x0 + wd ≤ 27 ∧ x1 + ht ≤ 100) ∧ (1 ≤ wd ∧ 1 ≤ ht) ∧ x2 = x0 + wd - 1 ∧ x3 = x1 + ht - 1 ∧ n = ht * wd ∧ L = boxL x0 x1 wd ht)) := by
    cases y
    · exact ⟨0, [], pairs_nil, by omega, Or.inl ⟨rfl, rfl, rfl⟩⟩
    · have hq := HY.out
      unfold bxB at hq
      simp only [Bool.and_eq_true, decide_eq_true_eq] at hq
      obtain ⟨⟨⟨a1, a2⟩, a3⟩, a4⟩ := hq
      obtain ⟨⟨i1, i2⟩, i3, i4⟩ := isC_iff.1 a1
      obtain ⟨⟨j1, j2⟩, j3, j4⟩ := isC_iff.1 a2
      have hm : (x3 - x1 + 1).toNat * (x2 - x0 + 1).toNat ≤ 99 * 26 := Nat.mul_le_mul (by omega) (by omega)
      exact ⟨_, _, pairs_box x0 x1 (x2 - x0 + 1).toNat (x3 - x1 + 1).toNat, by omega, Or.inr ⟨rfl, (x2 - x0 + 1).toNat, (x3 - x1 + 1).toNat, by omega, by omega, by omega, by omega, rfl, rfl⟩⟩
  have HCase : Hid ((y = false ∧ n = 0 ∧ L = []) ∨ (y = true ∧ ∃ wd ht : Nat, (1 ≤ x0 ∧ 1 ≤ x1 ∧ x0 + wd ≤ 27 ∧ x1 + ht ≤ 100) ∧ (1 ≤ wd ∧ 1 ≤ ht) ∧ x2 = x0 + wd - 1 ∧ x3 = x1 + ht - 1 ∧ n = ht * wd ∧ L = boxL x0 x1 wd ht)) := hcase0
  have HL : Hid (Pairs L n) := hL
  clear hcase0 hL
  go_upto_if 82 with fail
  go_cut [17, 22] (fun s17 s22 wx => ∃ m : Int, s17 = .int .i64 m ∧ Hid (m = if y = true then 0 else 1) ∧ wx.ownsRow w.heap.size 23 2 s22 n L ∧ LS w c r fc fr d s x0 x1 x2 x3 wx)
  case first =>
    rcases HCase.out with ⟨rfl, rfl, rfl⟩ | ⟨rfl, wd, ht, ⟨i1, i2, i3, i4⟩, ⟨i5, i6⟩, rfl, rfl, rfl, rfl⟩
    · go_wp2_with fail
      go_meet
      case rel => exact ⟨1, rfl, rfl, World.ownsRow_nil _ _ _ _, hS⟩
    · obtain ⟨⟨o0, o1, o2, o3⟩, p0, p1, p2, p3⟩ := cells_four hS.box
      go_wp2_with fail
      refine (rcells_any _ _ wd ht _ i1 i2 i3 i4).mono ?_
      rintro e w1 ⟨⟨v, rfl, hown⟩, q1⟩
      go_wp2_with fail
      go_meet
      case rel => exact ⟨0, rfl, rfl, own_mono hown (by have := hS.lt; omega), hS.next q1⟩
  case rest =>
  clear hS
  obtain ⟨m, rfl, hm, hown, hS⟩ := hcut
  go_upto_region 22 with fail
  go_cut [23, 20] (fun s23 s20 wx => s20 = ckc y ∧ wx.ownsRow w.heap.size 23 2 s23 n L ∧ wx.ownsRow w.heap.size 23 2 u22 n L ∧ LS w c r fc fr d s x0 x1 x2 x3 wx)
  case first =>
    obtain ⟨⟨o0, o1, o2, o3⟩, p0, p1, p2, p3⟩ := cells_four hS.box
    rcases HCase.out with ⟨rfl, rfl, rfl⟩ | ⟨rfl, wd, ht, ⟨i1, i2, i3, i4⟩, ⟨i5, i6⟩, rfl, rfl, rfl, rfl⟩
    · go_wp2_with fail
      refine (pcells_no _ _ _ _ _ HY.out).mono ?_
      rintro e w1 ⟨rfl, q1⟩
      go_wp2_with fail
      go_meet
      case rel => exact ⟨rfl, World.ownsRow_nil _ _ _ _, own_block hown q1, hS.next q1⟩
    · go_wp2_with fail
      refine (pcells_yes _ _ wd ht _ i1 i2 i3 i4 i5 i6).mono ?_
      rintro e w1 ⟨⟨v, rfl, hown'⟩, q1⟩
      go_wp2_with fail
      go_meet
      case rel => exact ⟨rfl, own_mono hown' (by have := hS.lt; omega), own_block hown q1, hS.next q1⟩
  case rest =>
  clear hS hown
  obtain ⟨rfl, hown', hown, hS⟩ := hcut
  go_upto_region 23 with fail
  go_cut [21] (fun s21 wx => s21 = .bool true ∧ wx.ownsRow w.heap.size 23 2 u23 n L ∧ wx.ownsRow w.heap.size 23 2 u22 n L ∧ LS w c r fc fr d s x0 x1 x2 x3 wx)
  case first =>
    go_wp2_with fail
    refine (same_ck y m _ (hS.env hE) hm.out).mono ?_
    rintro e w1 ⟨rfl, q1⟩
    go_wp2_with fail
    go_meet
    case rel => exact ⟨rfl, own_block hown' q1, own_block hown q1, hS.next q1⟩
  case rest =>
  clear hS hown hown'
  obtain ⟨rfl, hown', hown, hS⟩ := hcut
  go_upto_region 24 with fail
  go_cut [24] (fun s24 wx => s24 = .bool true ∧ LS w c r fc fr d s x0 x1 x2 x3 wx)
  case first =>
    go_wp2_with fail
    refine (sameCells_any _ _ n _ _ L _ hown' hown hn HL.out.2).mono ?_
    rintro e w1 ⟨rfl, q1⟩
    go_wp2_with fail
    go_meet
    case rel => exact ⟨rfl, hS.next q1⟩
  case rest =>
  clear hS hown hown'
  obtain ⟨rfl, hS⟩ := hcut
  obtain ⟨t, ht⟩ : ∃ t, ahB c r d s = t := ⟨_, rfl⟩
  have HT : Hid (ahB c r d s = t) := ht
  clear ht
  go_upto_region 25 with fail
  go_cut [25] (fun s25 wx => s25 = .bool t ∧ LS w c r fc fr d s x0 x1 x2 x3 wx)
  case first =>
    obtain ⟨⟨o0, o1, o2, o3⟩, p0, p1, p2, p3⟩ := cells_four hS.ref
    obtain ⟨g0, g1⟩ := cells_two hS.cell
    go_wp2_with fail
    refine (less_any _ _ _ _ _).mono ?_
    rintro e w1 ⟨rfl, q1⟩
    rw [HT.out]
    go_wp2_with fail
    go_meet
    case rel => exact ⟨rfl, hS.next q1⟩
  case rest =>
  clear hS
  obtain ⟨rfl, hS⟩ := hcut
  obtain ⟨⟨o0, o1, o2, o3⟩, p0, p1, p2, p3⟩ := cells_four hS.ref
  obtain ⟨g0, g1⟩ := cells_two hS.cell
  go_wp2_with fail
  refine (ahead_any _ _ _ _ _).mono ?_
  rintro e w1 ⟨rfl, q1⟩
  rw [HT.out]
  have hB := (hS.next q1).below
  go_wp2_with fail
  go_ret
  exact ⟨by simp, hB⟩
end Go.Proofs.YtmaiabkggpifgaaDoor.adr
