/- The law AddrBack: what it returns, for every ref and every step. Conditions: the steps are ints. -/
import Derived.Test.YtmaiabkggpifgaaDoorAmath
namespace Go.Proofs.YtmaiabkggpifgaaDoor.adr
open Go.RowKit
/-- The ref's own block stands. -/
structure BS (w : World) (c r : Int) (fc fr : Bool) (wx : World) : Prop where
  own : wx.heap[w.heap.size]? = some (.cells #[.int .i64 c, .int .i64 r, .bool fc, .bool fr] 25 (0, 0))
  below : Below w.heap.size w wx
section
variable {w wx : World} {c r : Int} {fc fr : Bool}
theorem BS.start (w : World) (c r : Int) (fc fr : Bool) : BS w c r fc fr (w.alloc (.cells #[.int .i64 c, .int .i64 r, .bool fc, .bool fr] 25)) := ⟨heap_at _ _ _ rfl, (Below.refl _ _).alloc (Nat.le_refl _) _⟩
theorem BS.next {wy : World} (h : BS w c r fc fr wx) (hb : Below wx.heap.size wx wy) : BS w c r fc fr wy :=
  ⟨by rw [hb.block _ (lt_of_block h.own)]; exact h.own, bnext h.below hb h.below.size⟩
theorem BS.alloc (h : BS w c r fc fr wx) (o : Obj) : BS w c r fc fr (wx.alloc o) := h.next ((Below.refl _ _).alloc (Nat.le_refl _) _)
end
set_option maxRecDepth 100000 in
set_option maxHeartbeats 4000000 in
theorem addrBack_law (c r cols rows : Int) (fc fr : Bool) (w : World) (k0 : -9223372036854775808 ≤ cols) (k1 : cols ≤ 9223372036854775807) (l0 : -9223372036854775808 ≤ rows) (l1 : rows ≤ 9223372036854775807) :
    Calls Tryd.prog 5 #[R c r fc fr, .int .i64 cols, .int .i64 rows] w fun e w' => e = .returned (.bool true) ∧ Below w.heap.size w w' := by
  have hS := BS.start w c r fc fr
  go_enter Tryd.func5, Tryd.ntmps5
  go_upto_region 1 with fail
  go_cut [7, 8] (fun s7 s8 wx => s7 = .string ⟨#[66, 49, 50]⟩ ∧ s8 = .nilIface ∧ BS w c r fc fr wx)
  case first =>
    go_wp2_with fail
    refine (name_any _ _ _).mono ?_
    rintro e w1 ⟨rfl, b1⟩
    rw [nm_fact, show ckc (isC 2 12) = .nilIface from rfl]
    go_wp2_with fail
    go_meet
    case rel => exact ⟨rfl, rfl, hS.next b1⟩
  case rest =>
  clear hS
  obtain ⟨rfl, rfl, hS⟩ := hcut
  go_upto_region 4 with fail
  go_cut [9, 10] (fun s9 s10 wx => s9 = .string (nm c r fc fr) ∧ s10 = ckc (isC c r) ∧ BS w c r fc fr wx)
  case first =>
    obtain ⟨⟨o0, o1, o2, o3⟩, p0, p1, p2, p3⟩ := cells_four hS.own
    go_wp2_with fail
    refine (refName_any _ _ _ _ _).mono ?_
    rintro e w1 ⟨rfl, b1⟩
    go_wp2_with fail
    go_meet
    case rel => exact ⟨rfl, rfl, hS.next b1⟩
  case rest =>
  clear hS
  obtain ⟨rfl, rfl, hS⟩ := hcut
  cases hq : isC c r
  · rw [show ckc false = .iface 59 (.int .i64 1) from rfl]
    have hB := hS.below
    clear hq
    go_wp2_with fail
    go_ret
    exact ⟨rfl, hB⟩
  rw [show ckc true = .nilIface from rfl]
  have HRd : Hid (rdR (nm c r fc fr) = ⟨c, r, fc, fr, true⟩) := rd_nm fc fr hq
  have HQ : Hid (isC c r = true) := hq
  have hsz := nm_size (c := c) (r := r) fc fr
  clear hq
  generalize nm c r fc fr = t at *
  go_upto_region 7 with fail
  go_cut [11, 12] (fun s11 s12 wx => ∃ b, s11 = ptr b ∧ s12 = .nilIface ∧ wx.heap[b]? = some (.cells #[.int .i64 c, .int .i64 r, .bool fc, .bool fr] 25 (0, 0)) ∧ BS w c r fc fr wx)
  case first =>
    go_wp2_with fail
    refine (ref_any _ _ hsz).mono ?_
    rintro e w1 ⟨rfl, b1⟩
    rw [HRd.out]
    simp only [show ckx true = .nilIface from rfl]
    replace hS := hS.next b1
    go_wp2_with fail
    go_meet
    case rel => exact ⟨_, rfl, rfl, heap_at _ _ _ rfl, hS.alloc _⟩
  case rest =>
  clear hS HRd
  obtain ⟨b, rfl, rfl, hb, hS⟩ := hcut
  go_upto_region 8 with fail
  go_cut [46] (fun s46 wx => s46 = .bool false ∧ wx = wc)
  case first =>
    obtain ⟨⟨o0, o1, o2, o3⟩, p0, p1, p2, p3⟩ := cells_four hS.own
    obtain ⟨⟨q0, q1, q2, q3⟩, v0, v1, v2, v3⟩ := cells_four hb
    go_wp2_with fail
    go_meet
    case rel => exact ⟨by simp, rfl⟩
  case rest =>
  obtain ⟨rfl, rfl⟩ := hcut
  clear hb
  obtain ⟨S, hSh⟩ : ∃ S, shR c r fc fr cols rows = S := ⟨_, rfl⟩
  have HSh : Hid (shR c r fc fr cols rows = S) := hSh
  clear hSh
  go_upto_region 10 with fail
  go_cut [13, 14] (fun s13 s14 wx => ∃ b, s13 = ptr b ∧ s14 = .bool S.ok ∧ wx.heap[b]? = some (.cells #[.int .i64 S.c, .int .i64 S.r, .bool S.fc, .bool S.fr] 25 (0, 0)) ∧ BS w c r fc fr wx)
  case first =>
    obtain ⟨⟨o0, o1, o2, o3⟩, p0, p1, p2, p3⟩ := cells_four hS.own
    go_wp2_with fail
    refine (shift_any _ _ _ _ _ _ _ k0 k1 l0 l1).mono ?_
    rintro e w1 ⟨rfl, b1⟩
    rw [HSh.out]
    replace hS := hS.next b1
    go_wp2_with fail
    go_meet
    case rel => exact ⟨_, rfl, rfl, heap_at _ _ _ rfl, hS.alloc _⟩
  case rest =>
  clear hS
  obtain ⟨b, rfl, rfl, hb, hS⟩ := hcut
  have hB := hS.below
  cases hok : S.ok
  · clear hok
    go_wp2_with fail
    go_ret
    exact ⟨rfl, hB⟩
  have HOk : Hid (S.ok = true) := hok
  clear hok
  by_cases a1 : cols < -99
  · go_wp2_with fail
    go_ret
    exact ⟨rfl, hB⟩
  by_cases a2 : 99 < cols
  · go_wp2_with fail
    go_ret
    exact ⟨rfl, hB⟩
  by_cases a3 : rows < -99
  · go_wp2_with fail
    go_ret
    exact ⟨rfl, hB⟩
  by_cases a4 : 99 < rows
  · go_wp2_with fail
    go_ret
    exact ⟨rfl, hB⟩
  have HBk : Hid (shR S.c S.r S.fc S.fr (-cols) (-rows) = ⟨c, r, fc, fr, true⟩) := sh_back (by rw [HSh.out]; exact HOk.out) (by omega) (by omega) (by omega) (by omega) S HSh.out
  clear HSh HOk
  obtain ⟨sc, sr, sfc, sfr, sok⟩ := S
  obtain ⟨⟨q0, q1, q2, q3⟩, v0, v1, v2, v3⟩ := cells_four hb
  simp only at q0 q1 q2 q3 HBk
  go_wp2_with fail
  refine (shift_any _ _ _ _ _ _ _ (by omega) (by omega) (by omega) (by omega)).mono ?_
  rintro e w1 ⟨rfl, b1⟩
  rw [HBk.out]
  replace hS := hS.next b1
  have hB1 := hS.below
  have hw1 := hS.alloc (.cells #[.int .i64 c, .int .i64 r, .bool fc, .bool fr] 25)
  obtain ⟨⟨o0, o1, o2, o3⟩, p0, p1, p2, p3⟩ := cells_four hw1.own
  go_wp2_with fail
  go_ret
  exact ⟨by simp, hw1.below⟩
end Go.Proofs.YtmaiabkggpifgaaDoor.adr
