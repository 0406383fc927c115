/- Package value: two texts, one behind the other. Conditions: as each theorem says. -/
import Derived.Test.YtoaejcppfmjhdaaGreatDoorEl
import Derived.Test.YtoaejcppfmjhdaaGreatDoorEi
import Derived.Test.YtoaejcppfmjhdaaGreatDoorEk
import Derived.Test.YtoaejcppfmjhdaaGreatDoorMp
namespace Go.Proofs.YtoaejcppfmjhdaaGreatDoor.ev
open Go.RowKit
theorem vtext (s : ByteArray) (w : World) : Calls Tryz.prog 109 #[.string s] w fun e w' => e = .returned (VV 2 0 s) ∧ Below w.heap.size w w' := by
  go_enter Tryz.func109, Tryz.ntmps109
  go_wp2_with fail
  exact bodyPost_ret (v := VV 2 0 s) (by simp [results, Tryz.results109, go_sem]) rfl ⟨rfl, (Below.refl _ _).alloc (Nat.le_refl _) _⟩
/-- Two texts, each in a block of its own, and the answer's. -/
structure M3 (w : World) (s t : ByteArray) (wx : World) : Prop where
  a : wx.heap[w.heap.size]? = some (.cells #[.int .i64 2, .int .i64 0, .string s] 31 (0, 0))
  b : wx.heap[w.heap.size + 1]? = some (.cells #[.int .i64 2, .int .i64 0, .string t] 31 (0, 0))
  res : wx.heap[w.heap.size + 1 + 1]? = some (.cells #[.int .i64 0, .int .i64 0, .string nul] 31 (0, 0))
  below : Below w.heap.size w wx
theorem M3.next {w : World} {s t : ByteArray} {wx wy : World} (h : M3 w s t wx) (hb : Below wx.heap.size wx wy) : M3 w s t wy :=
  ⟨(hb.block _ (fm.lt_blk h.a)).trans h.a, (hb.block _ (fm.lt_blk h.b)).trans h.b, (hb.block _ (fm.lt_blk h.res)).trans h.res, bnext h.below hb h.below.size⟩
theorem M3.start (w : World) (s t : ByteArray) : M3 w s t (((w.alloc (.cells #[.int .i64 2, .int .i64 0, .string s] 31)).alloc (.cells #[.int .i64 2, .int .i64 0, .string t] 31)).alloc (.cells #[.int .i64 0, .int .i64 0, .string nul] 31)) := by
  obtain ⟨h1, h2⟩ := two_new w (.cells #[.int .i64 2, .int .i64 0, .string s] 31) (.cells #[.int .i64 2, .int .i64 0, .string t] 31)
  have hb : Below ((w.alloc (.cells #[.int .i64 2, .int .i64 0, .string s] 31)).alloc (.cells #[.int .i64 2, .int .i64 0, .string t] 31)).heap.size ((w.alloc (.cells #[.int .i64 2, .int .i64 0, .string s] 31)).alloc (.cells #[.int .i64 2, .int .i64 0, .string t] 31)) (((w.alloc (.cells #[.int .i64 2, .int .i64 0, .string s] 31)).alloc (.cells #[.int .i64 2, .int .i64 0, .string t] 31)).alloc (.cells #[.int .i64 0, .int .i64 0, .string nul] 31)) := (Below.refl _ _).alloc (Nat.le_refl _) _
  refine ⟨(hb.block _ (fm.lt_blk h1)).trans h1, (hb.block _ (fm.lt_blk h2)).trans h2, ?_, (((Below.refl _ _).alloc (Nat.le_refl _) _).alloc (by simp) _).alloc (by simp; omega) _⟩
  rw [show w.heap.size + 1 + 1 = ((w.alloc (.cells #[.int .i64 2, .int .i64 0, .string s] 31)).alloc (.cells #[.int .i64 2, .int .i64 0, .string t] 31)).heap.size by simp]
  exact heap_alloc_new _ _
abbrev M3O (w : World) (s t : ByteArray) (wx : World) : Prop :=
  wx.cell? ⟨w.heap.size, 0, none⟩ = some (.int .i64 2) ∧ wx.cell? ⟨w.heap.size, 1, none⟩ = some (.int .i64 0) ∧ wx.cell? ⟨w.heap.size, 2, none⟩ = some (.string s) ∧ wx.cell? ⟨w.heap.size + 1, 0, none⟩ = some (.int .i64 2) ∧ wx.cell? ⟨w.heap.size + 1, 1, none⟩ = some (.int .i64 0) ∧ wx.cell? ⟨w.heap.size + 1, 2, none⟩ = some (.string t) ∧ M3 w s t wx
theorem M3.opened {w : World} {s t : ByteArray} {wx : World} (h : M3 w s t wx) : M3O w s t wx := by
  obtain ⟨a0, a1, a2⟩ := cells3v h.a
  obtain ⟨b0, b1, b2⟩ := cells3v h.b
  exact ⟨a0, a1, a2, b0, b1, b2, h⟩
theorem m3o {w : World} {s t : ByteArray} {wx : World} (h : M3O w s t wx) : M3 w s t wx := h.2.2.2.2.2.2
set_option maxRecDepth 100000 in
set_option maxHeartbeats 8000000 in
theorem catT (s t : ByteArray) (w : World) (hl : s.size + t.size ≤ 200) :
    Calls Tryz.prog 80 #[VV 2 0 s, VV 2 0 t] w fun e w' => e = .returned (VV 2 0 (s ++ t)) ∧ Below w.heap.size w w' := by
  have hS := M3.start w s t
  have HL : Hid (s.size + t.size ≤ 200) := hl
  have hz : ¬ 9223372036854775807 < s.size + t.size := by omega
  have H1 : Hid (∀ wx, Calls Tryz.prog 107 #[VV 2 0 s, VV 2 0 t] wx fun e w' => e = .returned (.tuple #[VV 0 0 nul, .bool false]) ∧ Below wx.heap.size wx w') := fun wx => firstBadT s t wx
  clear hl
  go_enter Tryz.func80, Tryz.ntmps80
  go_upto_region 4 with (go_at_call 107; refine (H1.out _).mono ?_; rintro e w1 ⟨rfl, h1⟩)
  replace hS := (hS.next h1).next ((Below.refl _ _).alloc (Nat.le_refl _) (.cells #[.int .i64 0, .int .i64 0, .string nul] 31))
  clear h1
  go_cut [7] (fun s7 wx => s7 = .string (s ++ t) ∧ M3 w s t wx)
  case first =>
    have h0d := (hS.next (Below.refl _ _).drew).opened
    have ⟨q0, q1, q2, q3, q4, q5, q6⟩ := hS.opened
    go_region_held3 (fun wx => M3O w s t wx) (first | exact h0d | exact ((m3o (by assumption)).next (by assumption)).opened) (first | (go_at_call 108; refine (vshow _ _ _).mono ?_; rintro e wa ⟨rfl, ha⟩))
    all_goals
      go_wp2_with fail
      go_meet
      case rel => exact ⟨rfl, m3o (by assumption)⟩
  case rest =>
  clear hS hz
  obtain ⟨rfl, hS⟩ := hcut
  obtain ⟨y, hy⟩ : ∃ y, s ++ t = y := ⟨_, rfl⟩
  have hsz : y.size = s.size + t.size := by rw [← hy, ByteArray.size_append]
  rw [hy]
  have hl2 : (y.size : Int) ≤ 200 := by have := HL.out; omega
  have HT : Hid (∀ wx, Calls Tryz.prog 109 #[.string y] wx fun e w' => e = .returned (VV 2 0 y) ∧ Below wx.heap.size wx w') := fun wx => vtext y wx
  have HS : Hid (M3 w s t wc) := hS
  have HY : Hid (s ++ t = y) := hy
  clear HL hsz hy hS
  go_wp2_with fail
  refine (HT.out _).mono ?_
  rintro e w1 ⟨rfl, q1⟩
  have hR := (HS.out.next q1).res
  have HB : Hid (Below w.heap.size w w1) := (HS.out.next q1).below
  obtain ⟨c0, c1, c2⟩ := cells3v hR
  have f0 : ∀ o, w1.frozen? ⟨w.heap.size + 1 + 1, o, none⟩ = false := fun o => by simp [World.frozen?, hR]
  have HQ1 : Hid (w1.heap[w.heap.size + 1 + 1]? = some (.cells #[.int .i64 0, .int .i64 0, .string nul] 31 (0, 0))) := hR
  clear hR q1 HS HT
  go_wp2_with fail
  refine fin3 HQ1.out (Q := bodyPost _ _ _ _ _) ?_
  clear c0 c1 c2 f0
  intro w2 hq2 hk2
  obtain ⟨d0, d1, d2⟩ := cells3v hq2
  exact bodyPost_ret (v := VV 2 0 y) (by simp [results, Tryz.results80, go_sem, d0, d1, d2]) rfl ⟨by rw [HY.out], HB.out.trans (hk2 _ (by omega))⟩
set_option maxRecDepth 100000 in
set_option maxHeartbeats 8000000 in
theorem twoT (s t : ByteArray) (w : World) (hl : s.size + t.size ≤ 200) :
    Calls Tryz.prog 49 #[.int .i64 7, VV 2 0 s, VV 2 0 t] w fun e w' => e = .returned (VV 2 0 (s ++ t)) ∧ Below w.heap.size w w' := by
  obtain ⟨y, hy⟩ : ∃ y, s ++ t = y := ⟨_, rfl⟩
  have HC : Hid (∀ wx, Calls Tryz.prog 80 #[VV 2 0 s, VV 2 0 t] wx fun e w' => e = .returned (VV 2 0 y) ∧ Below wx.heap.size wx w') := fun wx => by rw [← hy]; exact catT s t wx hl
  rw [hy]
  have hS := M3.start w s t
  obtain ⟨a0, a1, a2, b0, b1, b2, -⟩ := hS.opened
  have HS : Hid (M3 w s t (((w.alloc (.cells #[.int .i64 2, .int .i64 0, .string s] 31)).alloc (.cells #[.int .i64 2, .int .i64 0, .string t] 31)).alloc (.cells #[.int .i64 0, .int .i64 0, .string nul] 31))) := hS
  clear hS hl hy
  go_enter Tryz.func49, Tryz.ntmps49
  go_wp2_with fail
  refine (HC.out _).mono ?_
  clear a0 a1 a2 b0 b1 b2
  rintro e w1 ⟨rfl, q1⟩
  have hR := (HS.out.next q1).res
  have HB : Hid (Below w.heap.size w w1) := (HS.out.next q1).below
  obtain ⟨c0, c1, c2⟩ := cells3v hR
  have f0 : ∀ o, w1.frozen? ⟨w.heap.size + 1 + 1, o, none⟩ = false := fun o => by simp [World.frozen?, hR]
  have HQ1 : Hid (w1.heap[w.heap.size + 1 + 1]? = some (.cells #[.int .i64 0, .int .i64 0, .string nul] 31 (0, 0))) := hR
  clear hR q1 HS HC
  go_wp2_with fail
  refine fin3 HQ1.out (Q := bodyPost _ _ _ _ _) ?_
  clear c0 c1 c2 f0
  intro w2 hq2 hk2
  obtain ⟨d0, d1, d2⟩ := cells3v hq2
  exact bodyPost_ret (v := VV 2 0 y) (by simp [results, Tryz.results49, go_sem, d0, d1, d2]) rfl ⟨rfl, HB.out.trans (hk2 _ (by omega))⟩
end Go.Proofs.YtoaejcppfmjhdaaGreatDoor.ev
/- Package eval: a node is worked out. Conditions: as each theorem says. -/
namespace Go.Proofs.YtoaejcppfmjhdaaGreatDoor.ev
open Go.RowKit
theorem frz {w : World} {b : Nat} {cs : Array Value} {t : TypeId} (h : w.heap[b]? = some (.cells cs t (0, 0))) (o : Nat) : w.frozen? ⟨b, o, none⟩ = false := by simp [World.frozen?, h]
set_option maxRecDepth 100000 in
set_option maxHeartbeats 1600000 in
theorem wo_num (mb : Option Nat) (n : Int) (p : Option Addr) (q c : Nat) (w : World)  :
    Calls Tryz.prog 29 #[.map mb, fm.NV 1 n nul .z .z (.slice p q c)] w fun e w' => e = .returned (VV 1 n nul) ∧ Below w.heap.size w w' := by
  obtain ⟨hA, hR⟩ := two_new w (.cells (fm.N12 1 n nul .z .z (.slice p q c)) 28) (.cells #[.int .i64 0, .int .i64 0, .string nul] 31)
  have hbW : Below w.heap.size w ((w.alloc (.cells (fm.N12 1 n nul .z .z (.slice p q c)) 28)).alloc (.cells #[.int .i64 0, .int .i64 0, .string nul] 31)) := ((Below.refl _ _).alloc (Nat.le_refl _) _).alloc (by simp) _
  obtain ⟨⟨a0, a1, a2, a3, a4, a5, a6, a7, a8, a9, a10, a11⟩, -⟩ := fm.cells12 hA
  have HR : Hid (∀ wx, Below ((w.alloc (.cells (fm.N12 1 n nul .z .z (.slice p q c)) 28)).alloc (.cells #[.int .i64 0, .int .i64 0, .string nul] 31)).heap.size ((w.alloc (.cells (fm.N12 1 n nul .z .z (.slice p q c)) 28)).alloc (.cells #[.int .i64 0, .int .i64 0, .string nul] 31)) wx → wx.heap[w.heap.size + 1]? = some (.cells #[.int .i64 0, .int .i64 0, .string nul] 31 (0, 0)) ∧ Below w.heap.size w wx) := fun wx h => ⟨(h.block _ (fm.lt_blk hR)).trans hR, bnext hbW h hbW.size⟩
  have HC : Hid (∀ wx, Calls Tryz.prog 44 #[.int .i64 n] wx fun e w' => e = .returned (VV 1 n nul) ∧ Below wx.heap.size wx w') := fun wx => number_any n wx
  clear hA hR hbW
  go_enter Tryz.func29, Tryz.ntmps29
  go_wp2_with fail
  refine (HC.out _).mono ?_
  clear a0 a1 a2 a3 a4 a5 a6 a7 a8 a9 a10 a11
  rintro e w1 ⟨rfl, hb1⟩
  obtain ⟨hq1, hb2⟩ := HR.out w1 hb1
  have HB : Hid (Below w.heap.size w w1) := hb2
  obtain ⟨c0, c1, c2⟩ := cells3v hq1
  have f0 : ∀ o, w1.frozen? ⟨w.heap.size + 1, o, none⟩ = false := fun o => by simp [World.frozen?, hq1]
  have HQ1 : Hid (w1.heap[w.heap.size + 1]? = some (.cells #[.int .i64 0, .int .i64 0, .string nul] 31 (0, 0))) := hq1
  clear hq1 hb1 hb2 HR
  go_wp2_with fail
  refine fin3 HQ1.out (Q := bodyPost _ _ _ _ _) ?_
  clear c0 c1 c2 f0
  intro w2 hq2 hk2
  obtain ⟨d0, d1, d2⟩ := cells3v hq2
  exact bodyPost_ret (v := VV 1 n nul) (by simp [results, Tryz.results29, go_sem, d0, d1, d2]) rfl ⟨rfl, HB.out.trans (hk2 _ (by omega))⟩
set_option maxRecDepth 100000 in
set_option maxHeartbeats 1600000 in
theorem wo_text (mb : Option Nat) (s : ByteArray) (p : Option Addr) (q c : Nat) (w : World)  :
    Calls Tryz.prog 29 #[.map mb, fm.NV 2 0 s .z .z (.slice p q c)] w fun e w' => e = .returned (VV 2 0 s) ∧ Below w.heap.size w w' := by
  obtain ⟨hA, hR⟩ := two_new w (.cells (fm.N12 2 0 s .z .z (.slice p q c)) 28) (.cells #[.int .i64 0, .int .i64 0, .string nul] 31)
  have hbW : Below w.heap.size w ((w.alloc (.cells (fm.N12 2 0 s .z .z (.slice p q c)) 28)).alloc (.cells #[.int .i64 0, .int .i64 0, .string nul] 31)) := ((Below.refl _ _).alloc (Nat.le_refl _) _).alloc (by simp) _
  obtain ⟨⟨a0, a1, a2, a3, a4, a5, a6, a7, a8, a9, a10, a11⟩, -⟩ := fm.cells12 hA
  have HR : Hid (∀ wx, Below ((w.alloc (.cells (fm.N12 2 0 s .z .z (.slice p q c)) 28)).alloc (.cells #[.int .i64 0, .int .i64 0, .string nul] 31)).heap.size ((w.alloc (.cells (fm.N12 2 0 s .z .z (.slice p q c)) 28)).alloc (.cells #[.int .i64 0, .int .i64 0, .string nul] 31)) wx → wx.heap[w.heap.size + 1]? = some (.cells #[.int .i64 0, .int .i64 0, .string nul] 31 (0, 0)) ∧ Below w.heap.size w wx) := fun wx h => ⟨(h.block _ (fm.lt_blk hR)).trans hR, bnext hbW h hbW.size⟩
  have HC : Hid (∀ wx, Calls Tryz.prog 45 #[.string s] wx fun e w' => e = .returned (VV 2 0 s) ∧ Below wx.heap.size wx w') := fun wx => text_any s wx
  clear hA hR hbW
  go_enter Tryz.func29, Tryz.ntmps29
  go_wp2_with fail
  refine (HC.out _).mono ?_
  clear a0 a1 a2 a3 a4 a5 a6 a7 a8 a9 a10 a11
  rintro e w1 ⟨rfl, hb1⟩
  obtain ⟨hq1, hb2⟩ := HR.out w1 hb1
  have HB : Hid (Below w.heap.size w w1) := hb2
  obtain ⟨c0, c1, c2⟩ := cells3v hq1
  have f0 : ∀ o, w1.frozen? ⟨w.heap.size + 1, o, none⟩ = false := fun o => by simp [World.frozen?, hq1]
  have HQ1 : Hid (w1.heap[w.heap.size + 1]? = some (.cells #[.int .i64 0, .int .i64 0, .string nul] 31 (0, 0))) := hq1
  clear hq1 hb1 hb2 HR
  go_wp2_with fail
  refine fin3 HQ1.out (Q := bodyPost _ _ _ _ _) ?_
  clear c0 c1 c2 f0
  intro w2 hq2 hk2
  obtain ⟨d0, d1, d2⟩ := cells3v hq2
  exact bodyPost_ret (v := VV 2 0 s) (by simp [results, Tryz.results29, go_sem, d0, d1, d2]) rfl ⟨rfl, HB.out.trans (hk2 _ (by omega))⟩
set_option maxRecDepth 100000 in
set_option maxHeartbeats 1600000 in
theorem wo_call (mb : Option Nat) (nm : ByteArray) (p : Option Addr) (q c : Nat) (k m : Int) (z : ByteArray) (w : World) (HX : Hid (∀ wx, Below w.heap.size w wx → Calls Tryz.prog 50 #[.map mb, fm.NV 9 0 nm .z .z (.slice p q c)] wx fun e w' => e = .returned (VV k m z) ∧ Below wx.heap.size wx w')) :
    Calls Tryz.prog 29 #[.map mb, fm.NV 9 0 nm .z .z (.slice p q c)] w fun e w' => e = .returned (VV k m z) ∧ Below w.heap.size w w' := by
  obtain ⟨hA, hR⟩ := two_new w (.cells (fm.N12 9 0 nm .z .z (.slice p q c)) 28) (.cells #[.int .i64 0, .int .i64 0, .string nul] 31)
  have hbW : Below w.heap.size w ((w.alloc (.cells (fm.N12 9 0 nm .z .z (.slice p q c)) 28)).alloc (.cells #[.int .i64 0, .int .i64 0, .string nul] 31)) := ((Below.refl _ _).alloc (Nat.le_refl _) _).alloc (by simp) _
  obtain ⟨⟨a0, a1, a2, a3, a4, a5, a6, a7, a8, a9, a10, a11⟩, -⟩ := fm.cells12 hA
  have HR : Hid (∀ wx, Below ((w.alloc (.cells (fm.N12 9 0 nm .z .z (.slice p q c)) 28)).alloc (.cells #[.int .i64 0, .int .i64 0, .string nul] 31)).heap.size ((w.alloc (.cells (fm.N12 9 0 nm .z .z (.slice p q c)) 28)).alloc (.cells #[.int .i64 0, .int .i64 0, .string nul] 31)) wx → wx.heap[w.heap.size + 1]? = some (.cells #[.int .i64 0, .int .i64 0, .string nul] 31 (0, 0)) ∧ Below w.heap.size w wx) := fun wx h => ⟨(h.block _ (fm.lt_blk hR)).trans hR, bnext hbW h hbW.size⟩
  have HC : Hid (∀ wx, wx = (w.alloc (.cells (fm.N12 9 0 nm .z .z (.slice p q c)) 28)).alloc (.cells #[.int .i64 0, .int .i64 0, .string nul] 31) → Calls Tryz.prog 50 #[.map mb, fm.NV 9 0 nm .z .z (.slice p q c)] wx fun e w' => e = .returned (VV k m z) ∧ Below wx.heap.size wx w') := fun wx h => HX.out wx (by rw [h]; exact hbW)
  clear HX
  clear hA hR hbW
  go_enter Tryz.func29, Tryz.ntmps29
  go_wp2_with fail
  refine (HC.out _ rfl).mono ?_
  clear a0 a1 a2 a3 a4 a5 a6 a7 a8 a9 a10 a11
  rintro e w1 ⟨rfl, hb1⟩
  obtain ⟨hq1, hb2⟩ := HR.out w1 hb1
  have HB : Hid (Below w.heap.size w w1) := hb2
  obtain ⟨c0, c1, c2⟩ := cells3v hq1
  have f0 : ∀ o, w1.frozen? ⟨w.heap.size + 1, o, none⟩ = false := fun o => by simp [World.frozen?, hq1]
  have HQ1 : Hid (w1.heap[w.heap.size + 1]? = some (.cells #[.int .i64 0, .int .i64 0, .string nul] 31 (0, 0))) := hq1
  clear hq1 hb1 hb2 HR
  go_wp2_with fail
  refine fin3 HQ1.out (Q := bodyPost _ _ _ _ _) ?_
  clear c0 c1 c2 f0
  intro w2 hq2 hk2
  obtain ⟨d0, d1, d2⟩ := cells3v hq2
  exact bodyPost_ret (v := VV k m z) (by simp [results, Tryz.results29, go_sem, d0, d1, d2]) rfl ⟨rfl, HB.out.trans (hk2 _ (by omega))⟩
set_option maxRecDepth 100000 in
set_option maxHeartbeats 1600000 in
theorem wo_ref (mb : Option Nat) (r : fm.Rf) (p : Option Addr) (q c : Nat) (k m : Int) (z : ByteArray) (w : World) (HL : Hid (∀ wx, Below w.heap.size w wx → (Instr.lookup 68 (.map mb) (.agg #[.int .i64 r.c, .int .i64 r.r]) false).run Tryz.prog wx = .ok (VV k m z) wx)) :
    Calls Tryz.prog 29 #[.map mb, fm.NV 5 0 nul r .z (.slice p q c)] w fun e w' => e = .returned (VV k m z) ∧ Below w.heap.size w w' := by
  obtain ⟨hA, hR⟩ := two_new w (.cells (fm.N12 5 0 nul r .z (.slice p q c)) 28) (.cells #[.int .i64 0, .int .i64 0, .string nul] 31)
  have hbW : Below w.heap.size w ((w.alloc (.cells (fm.N12 5 0 nul r .z (.slice p q c)) 28)).alloc (.cells #[.int .i64 0, .int .i64 0, .string nul] 31)) := ((Below.refl _ _).alloc (Nat.le_refl _) _).alloc (by simp) _
  obtain ⟨⟨a0, a1, a2, a3, a4, a5, a6, a7, a8, a9, a10, a11⟩, -⟩ := fm.cells12 hA
  have HR : Hid (∀ wx, Below ((w.alloc (.cells (fm.N12 5 0 nul r .z (.slice p q c)) 28)).alloc (.cells #[.int .i64 0, .int .i64 0, .string nul] 31)).heap.size ((w.alloc (.cells (fm.N12 5 0 nul r .z (.slice p q c)) 28)).alloc (.cells #[.int .i64 0, .int .i64 0, .string nul] 31)) wx → wx.heap[w.heap.size + 1]? = some (.cells #[.int .i64 0, .int .i64 0, .string nul] 31 (0, 0)) ∧ Below w.heap.size w wx) := fun wx h => ⟨(h.block _ (fm.lt_blk hR)).trans hR, bnext hbW h hbW.size⟩
  have hl := HL.out _ hbW
  clear hA hbW HL HR
  obtain ⟨c0, c1, c2⟩ := cells3v hR
  have f0 : ∀ o, ((w.alloc (.cells (fm.N12 5 0 nul r .z (.slice p q c)) 28)).alloc (.cells #[.int .i64 0, .int .i64 0, .string nul] 31)).frozen? ⟨w.heap.size + 1, o, none⟩ = false := frz hR
  go_enter Tryz.func29, Tryz.ntmps29
  go_wp2_with fail
  exact bodyPost_ret (v := VV k m z) (by simp [results, Tryz.results29, go_sem]) rfl ⟨rfl, by (repeat (first | exact Below.refl _ _ | assumption | (refine Below.setCell ?_ (by first | omega | (simp <;> omega)) _) | (refine Below.alloc ?_ (by first | omega | (simp <;> omega)) _)))⟩
end Go.Proofs.YtoaejcppfmjhdaaGreatDoor.ev
/- Package eval: a node of two is worked out. Conditions: as each theorem says. -/
namespace Go.Proofs.YtoaejcppfmjhdaaGreatDoor.ev
open Go.RowKit
/-- A node of two, its block, its two children, the answer's block. -/
structure KT (w : World) (g o q c : Nat) (u0 u1 : Value) (wx : World) : Prop where
  node : wx.heap[w.heap.size]? = some (.cells (fm.N12 8 7 nul .z .z (.slice (some ⟨g, o, none⟩) q c)) 28 (0, 0))
  k0 : ∀ jj x, u0.cells.toList[jj]? = some x → wx.cell? ⟨g, o + jj, none⟩ = some x
  k1 : ∀ jj x, u1.cells.toList[jj]? = some x → wx.cell? ⟨g, o + 12 + jj, none⟩ = some x
  res : ∃ x0 x1 x2, wx.heap[w.heap.size + 1]? = some (.cells #[x0, x1, x2] 31 (0, 0))
  below : Below w.heap.size w wx
section
variable {w : World} {g o q c : Nat} {u0 u1 : Value} {wx : World}
theorem KT.next (h : KT w g o q c u0 u1 wx) (hg : g < w.heap.size) {wy : World} (hb : Below wx.heap.size wx wy) : KT w g o q c u0 u1 wy :=
  ⟨(hb.block _ (fm.lt_blk h.node)).trans h.node, fun jj x hx => by rw [hb.cell (p := ⟨g, _, none⟩) (Nat.lt_of_lt_of_le hg h.below.size)]; exact h.k0 jj x hx, fun jj x hx => by rw [hb.cell (p := ⟨g, _, none⟩) (Nat.lt_of_lt_of_le hg h.below.size)]; exact h.k1 jj x hx,
   by obtain ⟨x0, x1, x2, h1⟩ := h.res; exact ⟨x0, x1, x2, (hb.block _ (fm.lt_blk h1)).trans h1⟩, bnext h.below hb h.below.size⟩
theorem KT.set3 (h : KT w g o q c u0 u1 wx) (hg : g < w.heap.size) (v0 v1 v2 : Value) : KT w g o q c u0 u1 (((wx.setCell ⟨w.heap.size + 1, 0, none⟩ v0).setCell ⟨w.heap.size + 1, 1, none⟩ v1).setCell ⟨w.heap.size + 1, 2, none⟩ v2) :=
  ⟨by rw [blk_else (by omega), blk_else (by omega), blk_else (by omega)]; exact h.node,
   fun jj x hx => by rw [World.cell?_of_block (a := ⟨g, _, none⟩) (w := wx) (show _ = wx.heap[g]? from by rw [blk_else (i := g) (by omega), blk_else (i := g) (by omega), blk_else (i := g) (by omega)])]; exact h.k0 jj x hx,
   fun jj x hx => by rw [World.cell?_of_block (a := ⟨g, _, none⟩) (w := wx) (show _ = wx.heap[g]? from by rw [blk_else (i := g) (by omega), blk_else (i := g) (by omega), blk_else (i := g) (by omega)])]; exact h.k1 jj x hx,
   by obtain ⟨x0, x1, x2, h1⟩ := h.res; exact ⟨_, _, _, fm.blk_set (fm.blk_set (fm.blk_set h1))⟩,
   ((h.below.setCell (by simp) _).setCell (by simp) _).setCell (by simp) _⟩
/-- The same, opened. -/
abbrev KTO (w : World) (g o q c : Nat) (k0 n0 : Int) (s0 : ByteArray) (ra0 rb0 : fm.Rf) (p0 : Option Addr) (m0 q0 : Nat) (k1 n1 : Int) (s1 : ByteArray) (ra1 rb1 : fm.Rf) (p1 : Option Addr) (m1 q1 : Nat) (wx : World) : Prop :=
  wx.cell? ⟨w.heap.size, 1, none⟩ = some (.int .i64 7) ∧ wx.cell? ⟨w.heap.size, 11, none⟩ = some (.slice (some ⟨g, o, none⟩) q c) ∧ wx.cell? ⟨g, o, none⟩ = some (.int .i64 k0) ∧ wx.cell? ⟨g, o + 1, none⟩ = some (.int .i64 n0) ∧ wx.cell? ⟨g, o + 2, none⟩ = some (.string s0) ∧ wx.cell? ⟨g, o + 3, none⟩ = some (.int .i64 ra0.c) ∧ wx.cell? ⟨g, o + 4, none⟩ = some (.int .i64 ra0.r) ∧ wx.cell? ⟨g, o + 5, none⟩ = some (.bool ra0.fc) ∧ wx.cell? ⟨g, o + 6, none⟩ = some (.bool ra0.fr) ∧ wx.cell? ⟨g, o + 7, none⟩ = some (.int .i64 rb0.c) ∧ wx.cell? ⟨g, o + 8, none⟩ = some (.int .i64 rb0.r) ∧ wx.cell? ⟨g, o + 9, none⟩ = some (.bool rb0.fc) ∧ wx.cell? ⟨g, o + 10, none⟩ = some (.bool rb0.fr) ∧ wx.cell? ⟨g, o + 11, none⟩ = some (.slice p0 m0 q0) ∧ wx.cell? ⟨g, o + 12, none⟩ = some (.int .i64 k1) ∧ wx.cell? ⟨g, o + 12 + 1, none⟩ = some (.int .i64 n1) ∧ wx.cell? ⟨g, o + 12 + 2, none⟩ = some (.string s1) ∧ wx.cell? ⟨g, o + 12 + 3, none⟩ = some (.int .i64 ra1.c) ∧ wx.cell? ⟨g, o + 12 + 4, none⟩ = some (.int .i64 ra1.r) ∧ wx.cell? ⟨g, o + 12 + 5, none⟩ = some (.bool ra1.fc) ∧ wx.cell? ⟨g, o + 12 + 6, none⟩ = some (.bool ra1.fr) ∧ wx.cell? ⟨g, o + 12 + 7, none⟩ = some (.int .i64 rb1.c) ∧ wx.cell? ⟨g, o + 12 + 8, none⟩ = some (.int .i64 rb1.r) ∧ wx.cell? ⟨g, o + 12 + 9, none⟩ = some (.bool rb1.fc) ∧ wx.cell? ⟨g, o + 12 + 10, none⟩ = some (.bool rb1.fr) ∧ wx.cell? ⟨g, o + 12 + 11, none⟩ = some (.slice p1 m1 q1) ∧ KT w g o q c (fm.NV k0 n0 s0 ra0 rb0 (.slice p0 m0 q0)) (fm.NV k1 n1 s1 ra1 rb1 (.slice p1 m1 q1)) wx
theorem KT.opened {k0 n0 : Int} {s0 : ByteArray} {ra0 rb0 : fm.Rf} {p0 : Option Addr} {m0 q0 : Nat} {k1 n1 : Int} {s1 : ByteArray} {ra1 rb1 : fm.Rf} {p1 : Option Addr} {m1 q1 : Nat} (h : KT w g o q c (fm.NV k0 n0 s0 ra0 rb0 (.slice p0 m0 q0)) (fm.NV k1 n1 s1 ra1 rb1 (.slice p1 m1 q1)) wx) : KTO w g o q c k0 n0 s0 ra0 rb0 p0 m0 q0 k1 n1 s1 ra1 rb1 p1 m1 q1 wx := by
  obtain ⟨⟨a0, a1, a2, a3, a4, a5, a6, a7, a8, a9, a10, a11⟩, -⟩ := fm.cells12 h.node
  exact ⟨a1, a11, h.k0 0 _ rfl, h.k0 1 _ rfl, h.k0 2 _ rfl, h.k0 3 _ rfl, h.k0 4 _ rfl, h.k0 5 _ rfl, h.k0 6 _ rfl, h.k0 7 _ rfl, h.k0 8 _ rfl, h.k0 9 _ rfl, h.k0 10 _ rfl, h.k0 11 _ rfl, h.k1 0 _ rfl, h.k1 1 _ rfl, h.k1 2 _ rfl, h.k1 3 _ rfl, h.k1 4 _ rfl, h.k1 5 _ rfl, h.k1 6 _ rfl, h.k1 7 _ rfl, h.k1 8 _ rfl, h.k1 9 _ rfl, h.k1 10 _ rfl, h.k1 11 _ rfl, h⟩
theorem kto {k0 n0 : Int} {s0 : ByteArray} {ra0 rb0 : fm.Rf} {p0 : Option Addr} {m0 q0 : Nat} {k1 n1 : Int} {s1 : ByteArray} {ra1 rb1 : fm.Rf} {p1 : Option Addr} {m1 q1 : Nat} (h : KTO w g o q c k0 n0 s0 ra0 rb0 p0 m0 q0 k1 n1 s1 ra1 rb1 p1 m1 q1 wx) : KT w g o q c (fm.NV k0 n0 s0 ra0 rb0 (.slice p0 m0 q0)) (fm.NV k1 n1 s1 ra1 rb1 (.slice p1 m1 q1)) wx := h.2.2.2.2.2.2.2.2.2.2.2.2.2.2.2.2.2.2.2.2.2.2.2.2.2.2
end
set_option maxRecDepth 100000 in
set_option maxHeartbeats 8000000 in
theorem wo_two (mb : Option Nat) (g o c : Nat) {k0 n0 : Int} {s0 : ByteArray} {ra0 rb0 : fm.Rf} {p0 : Option Addr} {m0 q0 : Nat} {k1 n1 : Int} {s1 : ByteArray} {ra1 rb1 : fm.Rf} {p1 : Option Addr} {m1 q1 : Nat} (x y : ByteArray) (hl : x.size + y.size ≤ 200) (w : World) (hg : g < w.heap.size)
    (h0 : ∀ jj v, (fm.NV k0 n0 s0 ra0 rb0 (.slice p0 m0 q0)).cells.toList[jj]? = some v → w.cell? ⟨g, o + jj, none⟩ = some v) (h1 : ∀ jj v, (fm.NV k1 n1 s1 ra1 rb1 (.slice p1 m1 q1)).cells.toList[jj]? = some v → w.cell? ⟨g, o + 12 + jj, none⟩ = some v)
    (H0 : Hid (∀ wx, Below w.heap.size w wx → Calls Tryz.prog 29 #[.map mb, (fm.NV k0 n0 s0 ra0 rb0 (.slice p0 m0 q0))] wx fun e w' => e = .returned (VV 2 0 x) ∧ Below wx.heap.size wx w'))
    (H1 : Hid (∀ wx, Below w.heap.size w wx → Calls Tryz.prog 29 #[.map mb, (fm.NV k1 n1 s1 ra1 rb1 (.slice p1 m1 q1))] wx fun e w' => e = .returned (VV 2 0 y) ∧ Below wx.heap.size wx w')) :
    Calls Tryz.prog 29 #[.map mb, fm.NV 8 7 nul .z .z (.slice (some ⟨g, o, none⟩) 2 c)] w fun e w' => e = .returned (VV 2 0 (x ++ y)) ∧ Below w.heap.size w w' := by
  obtain ⟨z, hz⟩ : ∃ z, x ++ y = z := ⟨_, rfl⟩
  have HT : Hid (∀ wx, Calls Tryz.prog 49 #[.int .i64 7, VV 2 0 x, VV 2 0 y] wx fun e w' => e = .returned (VV 2 0 z) ∧ Below wx.heap.size wx w') := fun wx => by rw [← hz]; exact twoT x y wx hl
  rw [hz]
  obtain ⟨hA, hR⟩ := two_new w (.cells (fm.N12 8 7 nul .z .z (.slice (some ⟨g, o, none⟩) 2 c)) 28) (.cells #[.int .i64 0, .int .i64 0, .string nul] 31)
  have hbW : Below w.heap.size w ((w.alloc (.cells (fm.N12 8 7 nul .z .z (.slice (some ⟨g, o, none⟩) 2 c)) 28)).alloc (.cells #[.int .i64 0, .int .i64 0, .string nul] 31)) := ((Below.refl _ _).alloc (Nat.le_refl _) _).alloc (by simp) _
  have hKT : KT w g o 2 c (fm.NV k0 n0 s0 ra0 rb0 (.slice p0 m0 q0)) (fm.NV k1 n1 s1 ra1 rb1 (.slice p1 m1 q1)) ((w.alloc (.cells (fm.N12 8 7 nul .z .z (.slice (some ⟨g, o, none⟩) 2 c)) 28)).alloc (.cells #[.int .i64 0, .int .i64 0, .string nul] 31)) := ⟨hA, fun jj v hv => by rw [hbW.cell (p := ⟨g, _, none⟩) hg]; exact h0 jj v hv, fun jj v hv => by rw [hbW.cell (p := ⟨g, _, none⟩) hg]; exact h1 jj v hv, ⟨_, _, _, hR⟩, hbW⟩
  obtain ⟨⟨a0, a1, a2, a3, a4, a5, a6, a7, a8, a9, a10, a11⟩, -⟩ := fm.cells12 hA
  clear hA hR hbW h0 h1 hz hl
  go_enter Tryz.func29, Tryz.ntmps29
  go_wp2_with fail
  clear a0 a1 a2 a3 a4 a5 a6 a7 a8 a9 a10 a11
  generalize (w.alloc (.cells (fm.N12 8 7 nul .z .z (.slice (some ⟨g, o, none⟩) 2 c)) 28)).alloc (.cells #[.int .i64 0, .int .i64 0, .string nul] 31) = W at *
  have h0d := (hKT.next hg (Below.refl _ _).drew).opened
  obtain ⟨y0, y1, x0, x1, x2, x3, x4, x5, x6, x7, x8, x9, x10, x11, z0, z1, z2, z3, z4, z5, z6, z7, z8, z9, z10, z11, -⟩ := hKT.opened
  go_region_held3 (fun wx => KTO w g o 2 c k0 n0 s0 ra0 rb0 p0 m0 q0 k1 n1 s1 ra1 rb1 p1 m1 q1 wx) (first | exact h0d | exact ((kto (by assumption)).next hg (by assumption)).opened | exact ((kto (by assumption)).set3 hg _ _ _).opened) (first | (go_at_call_of 29 (Value.string s0); refine (H0.out _ (kto (by assumption)).below).mono ?_; rintro e w1 ⟨rfl, hb1⟩) | (go_at_call_of 29 (Value.string s1); refine (H1.out _ (kto (by assumption)).below).mono ?_; rintro e w2 ⟨rfl, hb2⟩) | (go_at_call 49; refine (HT.out _).mono ?_; rintro e w3 ⟨rfl, hb3⟩; have hk3 := (kto (by assumption)).next hg hb3; obtain ⟨t0, t1, t2, hq1⟩ := hk3.res; have HB : Hid (Below w.heap.size w w3) := hk3.below; obtain ⟨c0, c1, c2⟩ := cells3v hq1; have f0 := frz hq1))
  all_goals
    have HQ1 : Hid (w3.heap[w.heap.size + 1]? = some (.cells #[t0, t1, t2] 31 (0, 0))) := hq1
    clear hq1 hb3 hb2 hb1 hk3 h0d hKT
    go_wp2_with fail
    refine fin3 HQ1.out (Q := bodyPost _ _ _ _ _) ?_
    clear c0 c1 c2 f0
    intro w4 hq4 hk4
    obtain ⟨d0, d1, d2⟩ := cells3v hq4
    exact bodyPost_ret (v := VV 2 0 z) (by simp [results, Tryz.results29, go_sem, d0, d1, d2]) rfl ⟨rfl, HB.out.trans (hk4 _ (by omega))⟩
end Go.Proofs.YtoaejcppfmjhdaaGreatDoor.ev
