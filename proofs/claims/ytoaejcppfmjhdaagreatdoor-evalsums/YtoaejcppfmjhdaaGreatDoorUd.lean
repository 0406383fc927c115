/- Package addr: Box; package eval: an argument that is a box. Conditions: as each theorem says. -/
import Derived.Test.YtoaejcppfmjhdaaGreatDoorArow
import Derived.Test.YtoaejcppfmjhdaaGreatDoorEt
import Derived.OwnWalk
namespace Go.Proofs.YtoaejcppfmjhdaaGreatDoor.adr
open Go.RowKit
abbrev X (a b c d : Int) : Value := .agg #[.int .i64 a, .int .i64 b, .int .i64 c, .int .i64 d]
theorem lt_of_block {w : World} {b : Nat} {o : Obj} (h : w.heap[b]? = some o) : b < w.heap.size := (Array.getElem?_eq_some_iff.1 h).1
/-- What Box has at hand. -/
structure TS (w : World) (ac ar bc br : Int) (wx : World) : Prop where
  a : wx.heap[w.heap.size]? = some (.cells #[.int .i64 ac, .int .i64 ar] 23 (0, 0))
  b : wx.heap[w.heap.size + 1]? = some (.cells #[.int .i64 bc, .int .i64 br] 23 (0, 0))
  res : wx.heap[w.heap.size + 2]? = some (.cells #[.int .i64 0, .int .i64 0, .int .i64 0, .int .i64 0] 90 (0, 0))
  below : Below w.heap.size w wx
theorem TS.start (w : World) (ac ar bc br : Int) : TS w ac ar bc br (((w.alloc (.cells #[.int .i64 ac, .int .i64 ar] 23)).alloc (.cells #[.int .i64 bc, .int .i64 br] 23)).alloc (.cells #[.int .i64 0, .int .i64 0, .int .i64 0, .int .i64 0] 90)) :=
  ⟨by rw [Below.heap_alloc _ _ _ (by simp; omega), Below.heap_alloc _ _ _ (by simp), heap_at _ _ _ rfl], by rw [Below.heap_alloc _ _ _ (by simp), heap_at _ _ _ (by simp)], heap_at _ _ _ (by simp), (((Below.refl _ _).alloc (Nat.le_refl _) _).alloc (by simp) _).alloc (by simp; omega) _⟩
theorem TS.next {w wx wy : World} {ac ar bc br : Int} (h : TS w ac ar bc br wx) (hb : Below wx.heap.size wx wy) : TS w ac ar bc br wy := by
  have hl := lt_of_block h.res
  refine ⟨?_, ?_, ?_, bnext h.below hb h.below.size⟩
  · rw [hb.block _ (by omega)]; exact h.a
  · rw [hb.block _ (by omega)]; exact h.b
  · rw [hb.block _ (by omega)]; exact h.res
theorem cells_two {w : World} {b : Nat} {a0 a1 : Value} {t : TypeId} (h : w.heap[b]? = some (.cells #[a0, a1] t (0, 0))) : w.cell? ⟨b, 0, none⟩ = some a0 ∧ w.cell? ⟨b, 1, none⟩ = some a1 := by
  simp [World.cell?, h]
/-- What Box answers. -/
def bxV (t : Bool) (ac ar bc br : Int) : Value := if t = true then X (min ac bc) (min ar br) (max ac bc) (max ar br) else X 0 0 0 0
set_option maxRecDepth 100000 in
set_option maxHeartbeats 4000000 in
theorem box_any (ac ar bc br : Int) (w : World) :
    Calls Tryz.prog 287 #[C ac ar, C bc br] w fun e w' => e = .returned (.tuple #[bxV (isC ac ar && isC bc br) ac ar bc br, ckc (isC ac ar && isC bc br)]) ∧ Below w.heap.size w w' := by
  have hS := TS.start w ac ar bc br
  obtain ⟨x, hx⟩ : ∃ x, isC ac ar = x := ⟨_, rfl⟩
  obtain ⟨y, hy⟩ : ∃ y, isC bc br = y := ⟨_, rfl⟩
  have HX : Hid (isC ac ar = x) := hx
  have HY : Hid (isC bc br = y) := hy
  rw [hx, hy]
  clear hx hy
  go_enter Tryz.func287, Tryz.ntmps287
  go_wp2_with fail
  refine (isCell_any _ _ _).mono ?_
  rintro e w1 ⟨rfl, b1⟩
  rw [HX.out]
  replace hS := hS.next b1
  have ⟨f0, f1⟩ := cells_two hS.a
  have ⟨g0, g1⟩ := cells_two hS.b
  have ⟨⟨o0, o1, o2, o3⟩, p0, p1, p2, p3⟩ := cells_four hS.res
  cases x
  · have hB := hS.below
    go_wp2_with fail
    exact bodyPost_ret (v := .tuple #[X 0 0 0 0, .iface 62 (.int .i64 1)]) (by simp [results, Tryz.results287, go_sem, o0, o1, o2, o3]) rfl ⟨rfl, hB.trans (below4 (by omega))⟩
  go_wp2_with fail
  refine (isCell_any _ _ _).mono ?_
  rintro e w2 ⟨rfl, b2⟩
  rw [HY.out]
  clear f0 f1 g0 g1 o0 o1 o2 o3 p0 p1 p2 p3
  replace hS := hS.next b2
  have ⟨f0, f1⟩ := cells_two hS.a
  have ⟨g0, g1⟩ := cells_two hS.b
  have ⟨⟨o0, o1, o2, o3⟩, p0, p1, p2, p3⟩ := cells_four hS.res
  have hB := hS.below
  cases y
  · go_wp2_with fail
    exact bodyPost_ret (v := .tuple #[X 0 0 0 0, .iface 62 (.int .i64 1)]) (by simp [results, Tryz.results287, go_sem, o0, o1, o2, o3]) rfl ⟨rfl, hB.trans (below4 (by omega))⟩
  go_wp2_with fail
  exact bodyPost_ret (v := .tuple #[X (min ac bc) (min ar br) (max ac bc) (max ar br), .nilIface]) (by simp [results, Tryz.results287, go_sem, o0, o1, o2, o3]) rfl ⟨rfl, hB.trans (below4 (by omega))⟩
end Go.Proofs.YtoaejcppfmjhdaaGreatDoor.adr
namespace Go.Proofs.YtoaejcppfmjhdaaGreatDoor.ev
open Go.RowKit
open fm (N12 ink)
theorem cells5v {w : World} {b : Nat} {a0 a1 a2 a3 a4 : Value} {t : TypeId} (h : w.heap[b]? = some (.cells #[a0, a1, a2, a3, a4] t (0, 0))) : w.cell? ⟨b, 0, none⟩ = some a0 ∧ w.cell? ⟨b, 1, none⟩ = some a1 ∧ w.cell? ⟨b, 2, none⟩ = some a2 ∧ w.cell? ⟨b, 3, none⟩ = some a3 ∧ w.cell? ⟨b, 4, none⟩ = some a4 := by
  simp [World.cell?, h]
theorem fin5 {w : World} {b : Nat} {a0 a1 a2 a3 a4 u0 u1 u2 u3 u4 : Value} {t : TypeId} (h : w.heap[b]? = some (.cells #[a0, a1, a2, a3, a4] t (0, 0))) {Q : World → Prop}
    (hq : ∀ w2, w2.heap[b]? = some (.cells #[u0, u1, u2, u3, u4] t (0, 0)) → (∀ B, B ≤ b → Below B w w2) → (∀ i, i ≠ b → w2.heap[i]? = w.heap[i]?) → Q w2) : Q (((((w.setCell ⟨b, 0, none⟩ u0).setCell ⟨b, 1, none⟩ u1).setCell ⟨b, 2, none⟩ u2).setCell ⟨b, 3, none⟩ u3).setCell ⟨b, 4, none⟩ u4) := by
  have h0 : (w.setCell ⟨b, 0, none⟩ u0).heap[b]? = some (.cells #[u0, a1, a2, a3, a4] t (0, 0)) := by rw [fm.blk_set h]; rfl
  have h1 : ((w.setCell ⟨b, 0, none⟩ u0).setCell ⟨b, 1, none⟩ u1).heap[b]? = some (.cells #[u0, u1, a2, a3, a4] t (0, 0)) := by rw [fm.blk_set h0]; rfl
  have h2 : (((w.setCell ⟨b, 0, none⟩ u0).setCell ⟨b, 1, none⟩ u1).setCell ⟨b, 2, none⟩ u2).heap[b]? = some (.cells #[u0, u1, u2, a3, a4] t (0, 0)) := by rw [fm.blk_set h1]; rfl
  have h3 : ((((w.setCell ⟨b, 0, none⟩ u0).setCell ⟨b, 1, none⟩ u1).setCell ⟨b, 2, none⟩ u2).setCell ⟨b, 3, none⟩ u3).heap[b]? = some (.cells #[u0, u1, u2, u3, a4] t (0, 0)) := by rw [fm.blk_set h2]; rfl
  have h4 : (((((w.setCell ⟨b, 0, none⟩ u0).setCell ⟨b, 1, none⟩ u1).setCell ⟨b, 2, none⟩ u2).setCell ⟨b, 3, none⟩ u3).setCell ⟨b, 4, none⟩ u4).heap[b]? = some (.cells #[u0, u1, u2, u3, u4] t (0, 0)) := by rw [fm.blk_set h3]; rfl
  exact hq _ h4 (fun B hB => (((((Below.refl _ _).setCell hB _).setCell hB _).setCell hB _).setCell hB _).setCell hB _) (fun i hi => by rw [blk_else hi, blk_else hi, blk_else hi, blk_else hi, blk_else hi])
set_option maxRecDepth 100000 in
set_option maxHeartbeats 1600000 in
theorem grid_any {w0 : World} {P : Nat → Prop} {p : Option Addr} {q c : Nat} {us : List Value} {ts : List fm.T} (hk : fm.Kids w0 P p q c us) (hl : us.length = ts.length) (hs : ∀ (i : Nat) u t', us[i]? = some u → ts[i]? = some t' → fm.Nd w0 P u t') (mb : Option Nat) (i : Nat) (hi : i < q)
    (r t : fm.Rf) (p1 : Option Addr) (m1 q1 : Nat) (hu0 : us[i]? = some (fm.NV 6 0 nul r t (.slice p1 m1 q1))) (hr : adr.isC r.c r.r = true) (ht : adr.isC t.c t.r = true) (w : World) (hb : Below w0.heap.size w0 w) :
    Calls Tryz.prog 266 #[.agg #[.map mb, .slice p q c], .int .i64 i] w fun e w' => e = .returned (.tuple #[.agg #[.map mb, .int .i64 (min r.c t.c), .int .i64 (min r.r t.r), .int .i64 (max r.c t.c), .int .i64 (max r.r t.r)], .bool true]) ∧ Below w.heap.size w w' := by
  obtain ⟨g, o, u, t1, rfl, hg, hu, ht1, hcc⟩ := fm.kid_at hk hl hs i hi
  rw [hu0] at hu
  obtain rfl := Option.some.inj hu
  have HBX : Hid (∀ wx, Calls Tryz.prog 287 #[.agg #[.int .i64 r.c, .int .i64 r.r], .agg #[.int .i64 t.c, .int .i64 t.r]] wx fun e w' => e = .returned (.tuple #[.agg #[.int .i64 (min r.c t.c), .int .i64 (min r.r t.r), .int .i64 (max r.c t.c), .int .i64 (max r.r t.r)], .nilIface]) ∧ Below wx.heap.size wx w') := fun wx => by
    have := adr.box_any r.c r.r t.c t.r wx
    rw [hr, ht] at this
    exact this
  have hgw : g < w.heap.size := Nat.lt_of_lt_of_le hg hb.size
  have hbW : Below w.heap.size w ((w.alloc (.cells #[.map mb, .slice (some ⟨g, o, none⟩) q c] 123)).alloc (.cells #[.map none, .int .i64 0, .int .i64 0, .int .i64 0, .int .i64 0] 185)) := ((Below.refl _ _).alloc (Nat.le_refl _) _).alloc (by simp) _
  obtain ⟨hA, hR⟩ := two_new w (.cells #[.map mb, .slice (some ⟨g, o, none⟩) q c] 123) (.cells #[.map none, .int .i64 0, .int .i64 0, .int .i64 0, .int .i64 0] 185)
  have e1 : ∀ jj x, (fm.NV 6 0 nul r t (.slice p1 m1 q1)).cells.toList[jj]? = some x → ((w.alloc (.cells #[.map mb, .slice (some ⟨g, o, none⟩) q c] 123)).alloc (.cells #[.map none, .int .i64 0, .int .i64 0, .int .i64 0, .int .i64 0] 185)).cell? ⟨g, o + i * 12 + jj, none⟩ = some x := fun jj x hx => by rw [hbW.cell (p := ⟨g, _, none⟩) hgw, hb.cell (p := ⟨g, _, none⟩) hg]; exact hcc jj x hx
  have m0 : ((w.alloc (.cells #[.map mb, .slice (some ⟨g, o, none⟩) q c] 123)).alloc (.cells #[.map none, .int .i64 0, .int .i64 0, .int .i64 0, .int .i64 0] 185)).cell? ⟨w.heap.size, 0, none⟩ = some (.map mb) := by rw [World.cell?]; simp [hA]
  have m2 : ((w.alloc (.cells #[.map mb, .slice (some ⟨g, o, none⟩) q c] 123)).alloc (.cells #[.map none, .int .i64 0, .int .i64 0, .int .i64 0, .int .i64 0] 185)).cell? ⟨w.heap.size, 1, none⟩ = some (.slice (some ⟨g, o, none⟩) q c) := by rw [World.cell?]; simp [hA]
  have x0 := e1 0 _ rfl
  have x1 := e1 1 _ rfl
  have x2 := e1 2 _ rfl
  have x3 := e1 3 _ rfl
  have x4 := e1 4 _ rfl
  have x5 := e1 5 _ rfl
  have x6 := e1 6 _ rfl
  have x7 := e1 7 _ rfl
  have x8 := e1 8 _ rfl
  have x9 := e1 9 _ rfl
  have x10 := e1 10 _ rfl
  have x11 := e1 11 _ rfl
  simp only [Nat.add_zero] at x0
  have hlt' : (i : Int) < (q : Int) := by omega
  have hj' : (0 : Int) ≤ (i : Int) := by omega
  have HST : Hid (∀ wx, Below ((w.alloc (.cells #[.map mb, .slice (some ⟨g, o, none⟩) q c] 123)).alloc (.cells #[.map none, .int .i64 0, .int .i64 0, .int .i64 0, .int .i64 0] 185)).heap.size ((w.alloc (.cells #[.map mb, .slice (some ⟨g, o, none⟩) q c] 123)).alloc (.cells #[.map none, .int .i64 0, .int .i64 0, .int .i64 0, .int .i64 0] 185)) wx → wx.heap[w.heap.size]? = some (.cells #[.map mb, .slice (some ⟨g, o, none⟩) q c] 123 (0, 0)) ∧ wx.heap[w.heap.size + 1]? = some (.cells #[.map none, .int .i64 0, .int .i64 0, .int .i64 0, .int .i64 0] 185 (0, 0)) ∧ Below w.heap.size w wx) := fun wx h => ⟨(h.block _ (fm.lt_blk hA)).trans hA, (h.block _ (fm.lt_blk hR)).trans hR, bnext hbW h hbW.size⟩
  clear hA hR hbW e1 hcc hk hl hs hb ht1 hu hu0 hr ht
  go_enter Tryz.func266, Tryz.ntmps266
  go_wp2_with fail
  refine (HBX.out _).mono ?_
  clear x0 x1 x2 x3 x4 x5 x6 x7 x8 x9 x10 x11 m0 m2
  rintro e w1 ⟨rfl, hb1⟩
  obtain ⟨V1, hV⟩ : ∃ V1, V1 = w1.alloc (.cells #[.int .i64 (min r.c t.c), .int .i64 (min r.r t.r), .int .i64 (max r.c t.c), .int .i64 (max r.r t.r)] 90) := ⟨_, rfl⟩
  have hbv : Below w1.heap.size w1 V1 := by rw [hV]; exact (Below.refl _ _).alloc (Nat.le_refl _) _
  have hb3 : Below ((w.alloc (.cells #[.map mb, .slice (some ⟨g, o, none⟩) q c] 123)).alloc (.cells #[.map none, .int .i64 0, .int .i64 0, .int .i64 0, .int .i64 0] 185)).heap.size ((w.alloc (.cells #[.map mb, .slice (some ⟨g, o, none⟩) q c] 123)).alloc (.cells #[.map none, .int .i64 0, .int .i64 0, .int .i64 0, .int .i64 0] 185)) w1 := bnext ((Below.refl _ _).alloc (Nat.le_refl _) _) hb1 (by simp)
  obtain ⟨hc1, hr1, hbl⟩ := HST.out V1 (bnext hb3 hbv hb3.size)
  have hv1 : V1.heap[w1.heap.size]? = some (.cells #[.int .i64 (min r.c t.c), .int .i64 (min r.r t.r), .int .i64 (max r.c t.c), .int .i64 (max r.r t.r)] 90 (0, 0)) := by rw [hV]; exact heap_alloc_new _ _
  have m0 : V1.cell? ⟨w.heap.size, 0, none⟩ = some (.map mb) := by simp [World.cell?, hc1]
  obtain ⟨⟨y0, y1, y2, y3⟩, -⟩ := adr.cells_four hv1
  obtain ⟨c0, c1, c2, c3, c4⟩ := cells5v hr1
  have f0 : ∀ o, V1.frozen? ⟨w.heap.size + 1, o, none⟩ = false := frz hr1
  have HQ1 : Hid (V1.heap[w.heap.size + 1]? = some (.cells #[.map none, .int .i64 0, .int .i64 0, .int .i64 0, .int .i64 0] 185 (0, 0))) := hr1
  have HB : Hid (Below w.heap.size w V1) := hbl
  have HVV : Hid (w1.alloc (.cells #[.int .i64 (min r.c t.c), .int .i64 (min r.r t.r), .int .i64 (max r.c t.c), .int .i64 (max r.r t.r)] 90) = V1) := hV.symm
  rw [hV] at m0 y0 y1 y2 y3 c0 c1 c2 c3 c4 f0
  clear hb1 hbv hb3 hc1 hr1 hbl hv1 hV HST HBX
  go_wp2_with fail
  go_region
  all_goals
    go_wp2_with fail
    rw [HVV.out] at *
    refine fin5 (w := World.drew V1) (t := 185) HQ1.out (Q := bodyPost _ _ _ _ _) ?_
    clear c0 c1 c2 c3 c4 f0
    intro w4 hq4 hk4 he4
    obtain ⟨d0, d1, d2, d3, d4⟩ := cells5v hq4
    exact bodyPost_ret (v := .tuple #[.agg #[.map mb, .int .i64 (min r.c t.c), .int .i64 (min r.r t.r), .int .i64 (max r.c t.c), .int .i64 (max r.r t.r)], .bool true]) (by simp [results, Tryz.results266, go_sem, d0, d1, d2, d3, d4]) rfl ⟨rfl, HB.out.drew.trans (hk4 _ (by omega))⟩
end Go.Proofs.YtoaejcppfmjhdaaGreatDoor.ev
