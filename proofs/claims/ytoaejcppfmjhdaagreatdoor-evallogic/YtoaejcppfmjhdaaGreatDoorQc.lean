/- Package eval: calls of AND, OR, IF and NOT; the argument of NOT. Conditions: as each theorem says. -/
import Derived.Test.YtoaejcppfmjhdaaGreatDoorQa
import Derived.Test.YtoaejcppfmjhdaaGreatDoorEl
import Derived.Test.YtoaejcppfmjhdaaGreatDoorQb
import Derived.Test.YtoaejcppfmjhdaaGreatDoorEi
import Derived.Test.YtoaejcppfmjhdaaGreatDoorPa
import Derived.Test.YtoaejcppfmjhdaaGreatDoorQe
import Derived.Test.YtoaejcppfmjhdaaGreatDoorLy
namespace Go.Proofs.YtoaejcppfmjhdaaGreatDoor.ov
open Go.RowKit
open ev (VV fin3 cells3v b2I frz fin3e Taking fnV AB AR csSet isBad_any make_args ab_keep Z10)
set_option maxRecDepth 100000 in
set_option maxHeartbeats 1600000 in
theorem call_many (mb : Option Nat) (nm : ByteArray) (pk : Option Addr) (q : Nat) (hq1 : (1 : Int) ≤ (q : Int)) (hq2 : (q : Int) ≤ 200) (K : Nat) (c : Nat) (r : V3) (w : World)
    (HF : Hid (∀ wx, Calls Tryz.prog 83 #[.string nm] wx fun e w' => ∃ b, e = .returned (fnM b) ∧ Many K b w' ∧ Below wx.heap.size wx w'))
    (HX : Hid (∀ (b : Nat) wx, Many K b wx → Below w.heap.size w wx → Calls Tryz.prog 233 #[.agg #[.map mb, .slice pk q c], .pointer (some ⟨b, 0, none⟩)] wx fun e w' => e = .returned (VV r.k r.n r.s) ∧ Below wx.heap.size wx w')) :
    Calls Tryz.prog 50 #[.map mb, fm.NV 9 0 nm .z .z (.slice pk q c)] w fun e w' => e = .returned (VV r.k r.n r.s) ∧ Below w.heap.size w w' := by
  obtain ⟨W, hW⟩ : ∃ W, W = (w.alloc (.cells (fm.N12 9 0 nm .z .z (.slice pk q c)) 28)).alloc (.cells #[.int .i64 0, .int .i64 0, .string nul] 31) := ⟨_, rfl⟩
  have hbW : Below w.heap.size w W := by rw [hW]; exact ((Below.refl _ _).alloc (Nat.le_refl _) _).alloc (by simp) _
  obtain ⟨hA, hR⟩ := ev.two_new w (.cells (fm.N12 9 0 nm .z .z (.slice pk q c)) 28) (.cells #[.int .i64 0, .int .i64 0, .string nul] 31)
  rw [← hW] at hA hR
  have HN : Hid (W.heap[w.heap.size]? = some (.cells (fm.N12 9 0 nm .z .z (.slice pk q c)) 28 (0, 0))) := hA
  have HR : Hid (W.heap[w.heap.size + 1]? = some (.cells #[.int .i64 0, .int .i64 0, .string nul] 31 (0, 0))) := hR
  have HBW : Hid (Below w.heap.size w W) := hbW
  obtain ⟨⟨a0, a1, a2, a3, a4, a5, a6, a7, a8, a9, a10, a11⟩, -⟩ := fm.cells12 hA
  have HWW : Hid ((w.alloc (.cells (fm.N12 9 0 nm .z .z (.slice pk q c)) 28)).alloc (.cells #[.int .i64 0, .int .i64 0, .string nul] 31) = W) := hW.symm
  rw [hW] at a0 a1 a2 a3 a4 a5 a6 a7 a8 a9 a10 a11
  clear hA hR hW hbW
  go_enter Tryz.func50, Tryz.ntmps50
  go_wp2_with fail
  rw [HWW.out] at *
  refine (HF.out _).mono ?_
  clear a0 a1 a2 a3 a4 a5 a6 a7 a8 a9 a10 a11
  rintro e w1 ⟨b, rfl, ht, hb1⟩
  obtain ⟨V1, hV⟩ : ∃ V1, V1 = w1.alloc (.cells #[.int .i64 1, .int .i64 200, .func (.func 233) #[] #[.pointer (some ⟨b, 0, none⟩)]] 120) := ⟨_, rfl⟩
  have hbv : Below w1.heap.size w1 V1 := by rw [hV]; exact (Below.refl _ _).alloc (Nat.le_refl _) _
  have hbW1 : Below W.heap.size W V1 := bnext hb1 hbv hb1.size
  have hN1 : V1.heap[w.heap.size]? = some (.cells (fm.N12 9 0 nm .z .z (.slice pk q c)) 28 (0, 0)) := (hbW1.block _ (fm.lt_blk HN.out)).trans HN.out
  have HR1 : Hid (V1.heap[w.heap.size + 1]? = some (.cells #[.int .i64 0, .int .i64 0, .string nul] 31 (0, 0))) := (hbW1.block _ (fm.lt_blk HR.out)).trans HR.out
  have HB1 : Hid (Below w.heap.size w V1) := bnext HBW.out hbW1 HBW.out.size
  have HY : Hid (Calls Tryz.prog 233 #[.agg #[.map mb, .slice pk q c], .pointer (some ⟨b, 0, none⟩)] V1 fun e w' => e = .returned (VV r.k r.n r.s) ∧ Below V1.heap.size V1 w') := HX.out b V1 (ht.below hbv) HB1.out
  have hV0 : V1.heap[w1.heap.size]? = some (.cells #[.int .i64 1, .int .i64 200, .func (.func 233) #[] #[.pointer (some ⟨b, 0, none⟩)]] 120 (0, 0)) := by rw [hV]; exact heap_alloc_new _ _
  obtain ⟨v0, v1, v2⟩ := cells3v hV0
  have ef := eq_fnK 233 #[.pointer (some ⟨b, 0, none⟩)] V1
  obtain ⟨⟨a0, a1, a2, a3, a4, a5, a6, a7, a8, a9, a10, a11⟩, -⟩ := fm.cells12 hN1
  rw [hV] at v0 v1 v2 ef a0 a1 a2 a3 a4 a5 a6 a7 a8 a9 a10 a11
  have HVV : Hid (w1.alloc (.cells #[.int .i64 1, .int .i64 200, .func (.func 233) #[] #[.pointer (some ⟨b, 0, none⟩)]] 120) = V1) := hV.symm
  clear hV hV0 ht hb1 hbv hbW1 hN1 HWW HR HBW HN HF HX
  go_wp2_with fail
  rw [HVV.out] at *
  refine HY.out.mono ?_
  clear v0 v1 v2 ef a0 a1 a2 a3 a4 a5 a6 a7 a8 a9 a10 a11
  rintro e w4 ⟨rfl, hb4⟩
  have hq1 : w4.heap[w.heap.size + 1]? = some (.cells #[.int .i64 0, .int .i64 0, .string nul] 31 (0, 0)) := (hb4.block _ (fm.lt_blk HR1.out)).trans HR1.out
  have HB : Hid (Below w.heap.size w w4) := bnext HB1.out hb4 HB1.out.size
  obtain ⟨c0, c1, c2⟩ := cells3v hq1
  have f0 := frz hq1
  have HQ1 : Hid (w4.heap[w.heap.size + 1]? = some (.cells #[.int .i64 0, .int .i64 0, .string nul] 31 (0, 0))) := hq1
  clear hq1 hb4 HR1 HB1 HY HVV
  go_wp2_with fail
  refine fin3 HQ1.out (Q := bodyPost _ _ _ _ _) ?_
  clear c0 c1 c2 f0
  intro w2 hq2 hk2
  obtain ⟨d0, d1, d2⟩ := cells3v hq2
  exact bodyPost_ret (v := VV r.k r.n r.s) (by simp [results, Tryz.results50, go_sem, d0, d1, d2]) rfl ⟨rfl, HB.out.trans (hk2 _ (by omega))⟩
set_option maxRecDepth 100000 in
set_option maxHeartbeats 1600000 in
theorem call_if (mb : Option Nat) (nm : ByteArray) (pk : Option Addr) (c : Nat) (r : V3) (w : World)
    (HF : Hid (∀ wx, Calls Tryz.prog 83 #[.string nm] wx fun e w' => e = .returned (fnI) ∧ Below wx.heap.size wx w'))
    (HX : Hid (∀ wx, Below w.heap.size w wx → Calls Tryz.prog 166 #[.agg #[.map mb, .slice pk 3 c]] wx fun e w' => e = .returned (VV r.k r.n r.s) ∧ Below wx.heap.size wx w')) :
    Calls Tryz.prog 50 #[.map mb, fm.NV 9 0 nm .z .z (.slice pk 3 c)] w fun e w' => e = .returned (VV r.k r.n r.s) ∧ Below w.heap.size w w' := by
  obtain ⟨W, hW⟩ : ∃ W, W = (w.alloc (.cells (fm.N12 9 0 nm .z .z (.slice pk 3 c)) 28)).alloc (.cells #[.int .i64 0, .int .i64 0, .string nul] 31) := ⟨_, rfl⟩
  have hbW : Below w.heap.size w W := by rw [hW]; exact ((Below.refl _ _).alloc (Nat.le_refl _) _).alloc (by simp) _
  obtain ⟨hA, hR⟩ := ev.two_new w (.cells (fm.N12 9 0 nm .z .z (.slice pk 3 c)) 28) (.cells #[.int .i64 0, .int .i64 0, .string nul] 31)
  rw [← hW] at hA hR
  have HN : Hid (W.heap[w.heap.size]? = some (.cells (fm.N12 9 0 nm .z .z (.slice pk 3 c)) 28 (0, 0))) := hA
  have HR : Hid (W.heap[w.heap.size + 1]? = some (.cells #[.int .i64 0, .int .i64 0, .string nul] 31 (0, 0))) := hR
  have HBW : Hid (Below w.heap.size w W) := hbW
  obtain ⟨⟨a0, a1, a2, a3, a4, a5, a6, a7, a8, a9, a10, a11⟩, -⟩ := fm.cells12 hA
  have HWW : Hid ((w.alloc (.cells (fm.N12 9 0 nm .z .z (.slice pk 3 c)) 28)).alloc (.cells #[.int .i64 0, .int .i64 0, .string nul] 31) = W) := hW.symm
  rw [hW] at a0 a1 a2 a3 a4 a5 a6 a7 a8 a9 a10 a11
  clear hA hR hW hbW
  go_enter Tryz.func50, Tryz.ntmps50
  go_wp2_with fail
  rw [HWW.out] at *
  refine (HF.out _).mono ?_
  clear a0 a1 a2 a3 a4 a5 a6 a7 a8 a9 a10 a11
  rintro e w1 ⟨rfl, hb1⟩
  obtain ⟨V1, hV⟩ : ∃ V1, V1 = w1.alloc (.cells #[.int .i64 2, .int .i64 3, .func (.func 166) #[] #[]] 120) := ⟨_, rfl⟩
  have hbv : Below w1.heap.size w1 V1 := by rw [hV]; exact (Below.refl _ _).alloc (Nat.le_refl _) _
  have hbW1 : Below W.heap.size W V1 := bnext hb1 hbv hb1.size
  have hN1 : V1.heap[w.heap.size]? = some (.cells (fm.N12 9 0 nm .z .z (.slice pk 3 c)) 28 (0, 0)) := (hbW1.block _ (fm.lt_blk HN.out)).trans HN.out
  have HR1 : Hid (V1.heap[w.heap.size + 1]? = some (.cells #[.int .i64 0, .int .i64 0, .string nul] 31 (0, 0))) := (hbW1.block _ (fm.lt_blk HR.out)).trans HR.out
  have HB1 : Hid (Below w.heap.size w V1) := bnext HBW.out hbW1 HBW.out.size
  have HY : Hid (Calls Tryz.prog 166 #[.agg #[.map mb, .slice pk 3 c]] V1 fun e w' => e = .returned (VV r.k r.n r.s) ∧ Below V1.heap.size V1 w') := HX.out  V1 HB1.out
  have hV0 : V1.heap[w1.heap.size]? = some (.cells #[.int .i64 2, .int .i64 3, .func (.func 166) #[] #[]] 120 (0, 0)) := by rw [hV]; exact heap_alloc_new _ _
  obtain ⟨v0, v1, v2⟩ := cells3v hV0
  have ef := eq_fnK 166 #[] V1
  obtain ⟨⟨a0, a1, a2, a3, a4, a5, a6, a7, a8, a9, a10, a11⟩, -⟩ := fm.cells12 hN1
  rw [hV] at v0 v1 v2 ef a0 a1 a2 a3 a4 a5 a6 a7 a8 a9 a10 a11
  have HVV : Hid (w1.alloc (.cells #[.int .i64 2, .int .i64 3, .func (.func 166) #[] #[]] 120) = V1) := hV.symm
  clear hV hV0 hb1 hbv hbW1 hN1 HWW HR HBW HN HF HX
  go_wp2_with fail
  rw [HVV.out] at *
  refine HY.out.mono ?_
  clear v0 v1 v2 ef a0 a1 a2 a3 a4 a5 a6 a7 a8 a9 a10 a11
  rintro e w4 ⟨rfl, hb4⟩
  have hq1 : w4.heap[w.heap.size + 1]? = some (.cells #[.int .i64 0, .int .i64 0, .string nul] 31 (0, 0)) := (hb4.block _ (fm.lt_blk HR1.out)).trans HR1.out
  have HB : Hid (Below w.heap.size w w4) := bnext HB1.out hb4 HB1.out.size
  obtain ⟨c0, c1, c2⟩ := cells3v hq1
  have f0 := frz hq1
  have HQ1 : Hid (w4.heap[w.heap.size + 1]? = some (.cells #[.int .i64 0, .int .i64 0, .string nul] 31 (0, 0))) := hq1
  clear hq1 hb4 HR1 HB1 HY HVV
  go_wp2_with fail
  refine fin3 HQ1.out (Q := bodyPost _ _ _ _ _) ?_
  clear c0 c1 c2 f0
  intro w2 hq2 hk2
  obtain ⟨d0, d1, d2⟩ := cells3v hq2
  exact bodyPost_ret (v := VV r.k r.n r.s) (by simp [results, Tryz.results50, go_sem, d0, d1, d2]) rfl ⟨rfl, HB.out.trans (hk2 _ (by omega))⟩
set_option maxRecDepth 100000 in
set_option maxHeartbeats 1600000 in
theorem call_not (mb : Option Nat) (nm : ByteArray) (pk : Option Addr) (c : Nat) (r : V3) (w : World)
    (HF : Hid (∀ wx, Calls Tryz.prog 83 #[.string nm] wx fun e w' => ∃ p q, e = .returned (fnV 1 p q) ∧ Taking w' ⟨#[118]⟩ 175 p q ∧ Below wx.heap.size wx w'))
    (HX : Hid (∀ (p q : Nat) wx, Taking wx ⟨#[118]⟩ 175 p q → Below w.heap.size w wx → Calls Tryz.prog 245 #[.agg #[.map mb, .slice pk 1 c], .pointer (some ⟨p, 0, none⟩), .pointer (some ⟨q, 0, none⟩)] wx fun e w' => e = .returned (VV r.k r.n r.s) ∧ Below wx.heap.size wx w')) :
    Calls Tryz.prog 50 #[.map mb, fm.NV 9 0 nm .z .z (.slice pk 1 c)] w fun e w' => e = .returned (VV r.k r.n r.s) ∧ Below w.heap.size w w' := by
  obtain ⟨W, hW⟩ : ∃ W, W = (w.alloc (.cells (fm.N12 9 0 nm .z .z (.slice pk 1 c)) 28)).alloc (.cells #[.int .i64 0, .int .i64 0, .string nul] 31) := ⟨_, rfl⟩
  have hbW : Below w.heap.size w W := by rw [hW]; exact ((Below.refl _ _).alloc (Nat.le_refl _) _).alloc (by simp) _
  obtain ⟨hA, hR⟩ := ev.two_new w (.cells (fm.N12 9 0 nm .z .z (.slice pk 1 c)) 28) (.cells #[.int .i64 0, .int .i64 0, .string nul] 31)
  rw [← hW] at hA hR
  have HN : Hid (W.heap[w.heap.size]? = some (.cells (fm.N12 9 0 nm .z .z (.slice pk 1 c)) 28 (0, 0))) := hA
  have HR : Hid (W.heap[w.heap.size + 1]? = some (.cells #[.int .i64 0, .int .i64 0, .string nul] 31 (0, 0))) := hR
  have HBW : Hid (Below w.heap.size w W) := hbW
  obtain ⟨⟨a0, a1, a2, a3, a4, a5, a6, a7, a8, a9, a10, a11⟩, -⟩ := fm.cells12 hA
  have HWW : Hid ((w.alloc (.cells (fm.N12 9 0 nm .z .z (.slice pk 1 c)) 28)).alloc (.cells #[.int .i64 0, .int .i64 0, .string nul] 31) = W) := hW.symm
  rw [hW] at a0 a1 a2 a3 a4 a5 a6 a7 a8 a9 a10 a11
  clear hA hR hW hbW
  go_enter Tryz.func50, Tryz.ntmps50
  go_wp2_with fail
  rw [HWW.out] at *
  refine (HF.out _).mono ?_
  clear a0 a1 a2 a3 a4 a5 a6 a7 a8 a9 a10 a11
  rintro e w1 ⟨p, q, rfl, ht, hb1⟩
  obtain ⟨V1, hV⟩ : ∃ V1, V1 = w1.alloc (.cells #[.int .i64 1, .int .i64 1, .func (.func 245) #[] #[.pointer (some ⟨p, 0, none⟩), .pointer (some ⟨q, 0, none⟩)]] 120) := ⟨_, rfl⟩
  have hbv : Below w1.heap.size w1 V1 := by rw [hV]; exact (Below.refl _ _).alloc (Nat.le_refl _) _
  have hbW1 : Below W.heap.size W V1 := bnext hb1 hbv hb1.size
  have hN1 : V1.heap[w.heap.size]? = some (.cells (fm.N12 9 0 nm .z .z (.slice pk 1 c)) 28 (0, 0)) := (hbW1.block _ (fm.lt_blk HN.out)).trans HN.out
  have HR1 : Hid (V1.heap[w.heap.size + 1]? = some (.cells #[.int .i64 0, .int .i64 0, .string nul] 31 (0, 0))) := (hbW1.block _ (fm.lt_blk HR.out)).trans HR.out
  have HB1 : Hid (Below w.heap.size w V1) := bnext HBW.out hbW1 HBW.out.size
  have HY : Hid (Calls Tryz.prog 245 #[.agg #[.map mb, .slice pk 1 c], .pointer (some ⟨p, 0, none⟩), .pointer (some ⟨q, 0, none⟩)] V1 fun e w' => e = .returned (VV r.k r.n r.s) ∧ Below V1.heap.size V1 w') := HX.out p  q V1 (ht.below hbv) HB1.out
  have hV0 : V1.heap[w1.heap.size]? = some (.cells #[.int .i64 1, .int .i64 1, .func (.func 245) #[] #[.pointer (some ⟨p, 0, none⟩), .pointer (some ⟨q, 0, none⟩)]] 120 (0, 0)) := by rw [hV]; exact heap_alloc_new _ _
  obtain ⟨v0, v1, v2⟩ := cells3v hV0
  have ef := ev.eq_fn p q V1
  obtain ⟨⟨a0, a1, a2, a3, a4, a5, a6, a7, a8, a9, a10, a11⟩, -⟩ := fm.cells12 hN1
  rw [hV] at v0 v1 v2 ef a0 a1 a2 a3 a4 a5 a6 a7 a8 a9 a10 a11
  have HVV : Hid (w1.alloc (.cells #[.int .i64 1, .int .i64 1, .func (.func 245) #[] #[.pointer (some ⟨p, 0, none⟩), .pointer (some ⟨q, 0, none⟩)]] 120) = V1) := hV.symm
  clear hV hV0 ht hb1 hbv hbW1 hN1 HWW HR HBW HN HF HX
  go_wp2_with fail
  rw [HVV.out] at *
  refine HY.out.mono ?_
  clear v0 v1 v2 ef a0 a1 a2 a3 a4 a5 a6 a7 a8 a9 a10 a11
  rintro e w4 ⟨rfl, hb4⟩
  have hq1 : w4.heap[w.heap.size + 1]? = some (.cells #[.int .i64 0, .int .i64 0, .string nul] 31 (0, 0)) := (hb4.block _ (fm.lt_blk HR1.out)).trans HR1.out
  have HB : Hid (Below w.heap.size w w4) := bnext HB1.out hb4 HB1.out.size
  obtain ⟨c0, c1, c2⟩ := cells3v hq1
  have f0 := frz hq1
  have HQ1 : Hid (w4.heap[w.heap.size + 1]? = some (.cells #[.int .i64 0, .int .i64 0, .string nul] 31 (0, 0))) := hq1
  clear hq1 hb4 HR1 HB1 HY HVV
  go_wp2_with fail
  refine fin3 HQ1.out (Q := bodyPost _ _ _ _ _) ?_
  clear c0 c1 c2 f0
  intro w2 hq2 hk2
  obtain ⟨d0, d1, d2⟩ := cells3v hq2
  exact bodyPost_ret (v := VV r.k r.n r.s) (by simp [results, Tryz.results50, go_sem, d0, d1, d2]) rfl ⟨rfl, HB.out.trans (hk2 _ (by omega))⟩
set_option maxRecDepth 100000 in
set_option maxHeartbeats 4000000 in
theorem args_v (M : Value) (pk : Option Addr) (c : Nat) (w : World) (k m : Int) (z : ByteArray) (hk : (k == 4) = false)
    (HV : Hid (∀ wx, Below w.heap.size w wx → Calls Tryz.prog 243 #[.agg #[M, .slice pk 1 c], .int .i64 0] wx fun e w' => e = .returned (VV k m z) ∧ Below wx.heap.size wx w')) :
    Calls Tryz.prog 246 #[.agg #[M, .slice pk 1 c], .string ⟨#[118]⟩] w fun e w' => ∃ A cs, e = .returned (.tuple #[.slice (some ⟨A, 0, none⟩) 1 1, VV 0 0 nul]) ∧ AB w' A 1 cs ∧ (cs 0 0 = .int .i64 k ∧ cs 0 1 = .int .i64 m ∧ cs 0 2 = .string z) ∧ Below w.heap.size w w' := by
  have hm : (Instr.makeSlice 183 (.int .i64 1) (.int .i64 1)).run Tryz.prog ((w.alloc (.cells #[M, .slice pk 1 c] 123)).alloc (.cells #[.int .i64 0, .int .i64 0, .string nul] 31)) = .ok (.slice (some ⟨w.heap.size + 1 + 1, 0, none⟩) 1 1) (((w.alloc (.cells #[M, .slice pk 1 c] 123)).alloc (.cells #[.int .i64 0, .int .i64 0, .string nul] 31)).alloc (.cells (madeCells Z10 (1 * 10)) 187)) := by
    have := make_args 1 (by omega) ((w.alloc (.cells #[M, .slice pk 1 c] 123)).alloc (.cells #[.int .i64 0, .int .i64 0, .string nul] 31))
    simpa using this
  have hS0 := AR.start w M pk 1 c
  generalize hW0 : ((w.alloc (.cells #[M, .slice pk 1 c] 123)).alloc (.cells #[.int .i64 0, .int .i64 0, .string nul] 31)).alloc (.cells (madeCells Z10 (1 * 10)) 187) = W0 at hm hS0
  have HI : Hid (∀ wx, Calls Tryz.prog 170 #[VV k m z] wx fun e w' => e = .returned (.bool false) ∧ Below wx.heap.size wx w') := fun wx => by
    have := isBad_any k m z wx
    rw [hk] at this
    exact this
  clear hk hW0
  go_enter Tryz.func246, Tryz.ntmps246
  go_wp2_with fail
  clear hm
  go_loopw [4, 17] (fun a i wr => ∃ j : Nat, i = .int .i64 j ∧ j ≤ 1 ∧ a = .slice (some ⟨w.heap.size + 1 + 1, 0, none⟩) 1 1 ∧ wr = W0) (fun _ i _ => 1 - (intOf i).toNat)
  case atStart => exact ⟨0, rfl, Nat.zero_le _, rfl, rfl⟩
  case round =>
    obtain ⟨j, rfl, hj, rfl, rfl⟩ := hrel
    by_cases hlt : j < 1
    · obtain rfl : j = 0 := by omega
      go_wp2_with fail
      exact ⟨⟨1, by simp, Nat.le_refl _, rfl, trivial⟩, by simp [intOf]⟩
    · obtain rfl : j = 1 := by omega
      go_wp2_with fail
      go_loopw [4, 41] (fun a i wr => ∃ (j : Nat) (cs : Nat → Nat → Value), i = .int .i64 j ∧ j ≤ 1 ∧ a = .slice (some ⟨w.heap.size + 1 + 1, 0, none⟩) 1 1 ∧ AR w M pk 1 c cs wr ∧ (j = 1 → cs 0 0 = .int .i64 k ∧ cs 0 1 = .int .i64 m ∧ cs 0 2 = .string z)) (fun _ i _ => 1 - (intOf i).toNat)
      case atStart => exact ⟨0, _, rfl, Nat.zero_le _, rfl, hS0, fun h => absurd h (by omega)⟩
      case round =>
        clear hS0
        obtain ⟨j, cs, rfl, hj2, rfl, hS, hv⟩ := hrel
        have HVV : Hid (j = 1 → cs 0 0 = .int .i64 k ∧ cs 0 1 = .int .i64 m ∧ cs 0 2 = .string z) := hv
        clear hv
        by_cases hlt : j < 1
        · obtain rfl : j = 0 := by omega
          have m0 : wr.cell? ⟨w.heap.size, 0, none⟩ = some M := by simp [World.cell?, hS.c]
          have m1 : wr.cell? ⟨w.heap.size, 1, none⟩ = some (.slice pk 1 c) := by simp [World.cell?, hS.c]
          have HS : Hid (AR w M pk 1 c cs wr) := hS
          clear hS HVV
          go_wp2_with fail
          refine (HV.out _ HS.out.below).mono ?_
          clear m0 m1
          rintro e1 w1 ⟨rfl, hb1⟩
          have hS1 := HS.out.next hb1
          have x0 := hS1.ab.cell (i := 0) (by omega) (j := 0) (by omega)
          have x1 := hS1.ab.cell (i := 0) (by omega) (j := 1) (by omega)
          have x2 := hS1.ab.cell (i := 0) (by omega) (j := 2) (by omega)
          have f0 := hS1.ab.frozen
          simp only [Nat.zero_mul, Nat.zero_add] at x0 x1 x2
          have HS1 : Hid (AR w M pk 1 c cs w1) := hS1
          clear hS1 HS hb1
          go_wp2_with fail
          clear x0 x1 x2 f0
          have hS2 := ((HS1.out.set (i := 0) (by omega) (j := 0) (by omega) (.int .i64 k)).set (i := 0) (by omega) (j := 1) (by omega) (.int .i64 m)).set (i := 0) (by omega) (j := 2) (by omega) (.string z)
          simp only [Nat.zero_mul, Nat.zero_add] at hS2
          have HS2 : Hid (AR w M pk 1 c (csSet (csSet (csSet cs 0 0 (.int .i64 k)) 0 1 (.int .i64 m)) 0 2 (.string z)) (((w1.setCell ⟨w.heap.size + 1 + 1, 0, none⟩ (.int .i64 k)).setCell ⟨w.heap.size + 1 + 1, 1, none⟩ (.int .i64 m)).setCell ⟨w.heap.size + 1 + 1, 2, none⟩ (.string z))) := hS2
          clear hS2
          refine (HI.out _).mono ?_
          rintro e2 w2 ⟨rfl, hb2⟩
          have hS3 := HS2.out.next hb2
          clear HS2 hb2 HS1
          go_wp2_with fail
          refine ⟨?_, by simp [intOf]⟩
          repeat apply Exists.intro
          refine And.intro ?_ rfl
          exact ⟨1, _, by simp, Nat.le_refl _, rfl, hS3, fun _ => ⟨by simp [csSet], by simp [csSet], by simp [csSet]⟩⟩
        · obtain rfl : j = 1 := by omega
          have HS : Hid (AR w M pk 1 c cs wr) := hS
          clear hS
          go_wp2_with fail
          go_loopw [4, 69] (fun a i wr => ∃ (j : Nat), i = .int .i64 j ∧ j ≤ 1 ∧ a = .slice (some ⟨w.heap.size + 1 + 1, 0, none⟩) 1 1 ∧ AR w M pk 1 c cs wr) (fun _ i _ => 1 - (intOf i).toNat)
          case atStart => exact ⟨0, rfl, Nat.zero_le _, rfl, HS.out⟩
          case round =>
          clear HS
          obtain ⟨j, rfl, hj2, rfl, hS⟩ := hrel
          have HS : Hid (AR w M pk 1 c cs wr) := hS
          by_cases hlt : j < 1
          · obtain rfl : j = 0 := by omega
            clear hS
            go_wp2_with fail
            exact ⟨⟨1, by simp, Nat.le_refl _, rfl, HS.out⟩, by simp [intOf]⟩
          · obtain rfl : j = 1 := by omega
            obtain ⟨r0, r1, r2⟩ := cells3v hS.r
            have g0 := frz hS.r
            clear hS
            go_wp2_with fail
            refine fin3e HS.out.r (Q := bodyPost _ _ _ _ _) ?_
            clear r0 r1 r2 g0
            intro w2 hq2 hk2 he2
            obtain ⟨d0, d1, d2⟩ := cells3v hq2
            exact bodyPost_ret (v := .tuple #[.slice (some ⟨w.heap.size + 1 + 1, 0, none⟩) 1 1, VV 0 0 nul]) (by simp [results, Tryz.results246, go_sem, d0, d1, d2]) rfl ⟨_, cs, rfl, ab_keep HS.out.ab he2 (by omega), by first | exact HVV.out rfl | exact HVV.out trivial, HS.out.below.trans (hk2 _ (by omega))⟩
set_option maxRecDepth 100000 in
set_option maxHeartbeats 4000000 in
theorem args_vbad (M : Value) (pk : Option Addr) (c : Nat) (w : World) (k m : Int) (z : ByteArray) (hk : (k == 4) = true)
    (HV : Hid (∀ wx, Below w.heap.size w wx → Calls Tryz.prog 243 #[.agg #[M, .slice pk 1 c], .int .i64 0] wx fun e w' => e = .returned (VV k m z) ∧ Below wx.heap.size wx w')) :
    Calls Tryz.prog 246 #[.agg #[M, .slice pk 1 c], .string ⟨#[118]⟩] w fun e w' => e = .returned (.tuple #[.slice none 0 0, VV k m z]) ∧ Below w.heap.size w w' := by
  have hm : (Instr.makeSlice 183 (.int .i64 1) (.int .i64 1)).run Tryz.prog ((w.alloc (.cells #[M, .slice pk 1 c] 123)).alloc (.cells #[.int .i64 0, .int .i64 0, .string nul] 31)) = .ok (.slice (some ⟨w.heap.size + 1 + 1, 0, none⟩) 1 1) (((w.alloc (.cells #[M, .slice pk 1 c] 123)).alloc (.cells #[.int .i64 0, .int .i64 0, .string nul] 31)).alloc (.cells (madeCells Z10 (1 * 10)) 187)) := by
    have := make_args 1 (by omega) ((w.alloc (.cells #[M, .slice pk 1 c] 123)).alloc (.cells #[.int .i64 0, .int .i64 0, .string nul] 31))
    simpa using this
  have hS0 := AR.start w M pk 1 c
  generalize hW0 : ((w.alloc (.cells #[M, .slice pk 1 c] 123)).alloc (.cells #[.int .i64 0, .int .i64 0, .string nul] 31)).alloc (.cells (madeCells Z10 (1 * 10)) 187) = W0 at hm hS0
  have HI : Hid (∀ wx, Calls Tryz.prog 170 #[VV k m z] wx fun e w' => e = .returned (.bool true) ∧ Below wx.heap.size wx w') := fun wx => by
    have := isBad_any k m z wx
    rw [hk] at this
    exact this
  clear hk hW0
  go_enter Tryz.func246, Tryz.ntmps246
  go_wp2_with fail
  clear hm
  go_loopw [4, 17] (fun a i wr => ∃ j : Nat, i = .int .i64 j ∧ j ≤ 1 ∧ a = .slice (some ⟨w.heap.size + 1 + 1, 0, none⟩) 1 1 ∧ wr = W0) (fun _ i _ => 1 - (intOf i).toNat)
  case atStart => exact ⟨0, rfl, Nat.zero_le _, rfl, rfl⟩
  case round =>
    obtain ⟨j, rfl, hj, rfl, rfl⟩ := hrel
    by_cases hlt : j < 1
    · obtain rfl : j = 0 := by omega
      go_wp2_with fail
      exact ⟨⟨1, by simp, Nat.le_refl _, rfl, trivial⟩, by simp [intOf]⟩
    · obtain rfl : j = 1 := by omega
      go_wp2_with fail
      go_loopw [4, 41] (fun a i wr => ∃ (j : Nat) (cs : Nat → Nat → Value), i = .int .i64 j ∧ j ≤ 1 ∧ a = .slice (some ⟨w.heap.size + 1 + 1, 0, none⟩) 1 1 ∧ AR w M pk 1 c cs wr ∧ j = 0) (fun _ i _ => 1 - (intOf i).toNat)
      case atStart => exact ⟨0, _, rfl, Nat.zero_le _, rfl, hS0, rfl⟩
      case round =>
        clear hS0
        obtain ⟨j, cs, rfl, hj2, rfl, hS, hv⟩ := hrel
        subst hv
        · have m0 : wr.cell? ⟨w.heap.size, 0, none⟩ = some M := by simp [World.cell?, hS.c]
          have m1 : wr.cell? ⟨w.heap.size, 1, none⟩ = some (.slice pk 1 c) := by simp [World.cell?, hS.c]
          have HS : Hid (AR w M pk 1 c cs wr) := hS
          clear hS
          go_wp2_with fail
          refine (HV.out _ HS.out.below).mono ?_
          clear m0 m1
          rintro e1 w1 ⟨rfl, hb1⟩
          have hS1 := HS.out.next hb1
          have x0 := hS1.ab.cell (i := 0) (by omega) (j := 0) (by omega)
          have x1 := hS1.ab.cell (i := 0) (by omega) (j := 1) (by omega)
          have x2 := hS1.ab.cell (i := 0) (by omega) (j := 2) (by omega)
          have f0 := hS1.ab.frozen
          simp only [Nat.zero_mul, Nat.zero_add] at x0 x1 x2
          have HS1 : Hid (AR w M pk 1 c cs w1) := hS1
          clear hS1 HS hb1
          go_wp2_with fail
          clear x0 x1 x2 f0
          have hS2 := ((HS1.out.set (i := 0) (by omega) (j := 0) (by omega) (.int .i64 k)).set (i := 0) (by omega) (j := 1) (by omega) (.int .i64 m)).set (i := 0) (by omega) (j := 2) (by omega) (.string z)
          simp only [Nat.zero_mul, Nat.zero_add] at hS2
          have HS2 : Hid (AR w M pk 1 c (csSet (csSet (csSet cs 0 0 (.int .i64 k)) 0 1 (.int .i64 m)) 0 2 (.string z)) (((w1.setCell ⟨w.heap.size + 1 + 1, 0, none⟩ (.int .i64 k)).setCell ⟨w.heap.size + 1 + 1, 1, none⟩ (.int .i64 m)).setCell ⟨w.heap.size + 1 + 1, 2, none⟩ (.string z))) := hS2
          clear hS2
          refine (HI.out _).mono ?_
          rintro e2 w2 ⟨rfl, hb2⟩
          have hS3 := HS2.out.next hb2
          clear HS2 hb2 HS1
          have y0 := hS3.ab.cell (i := 0) (by omega) (j := 0) (by omega)
          have y1 := hS3.ab.cell (i := 0) (by omega) (j := 1) (by omega)
          have y2 := hS3.ab.cell (i := 0) (by omega) (j := 2) (by omega)
          simp only [Nat.zero_mul, Nat.zero_add] at y0 y1 y2
          rw [show csSet (csSet (csSet cs 0 0 (.int .i64 k)) 0 1 (.int .i64 m)) 0 2 (.string z) 0 0 = .int .i64 k from by simp [csSet]] at y0
          rw [show csSet (csSet (csSet cs 0 0 (.int .i64 k)) 0 1 (.int .i64 m)) 0 2 (.string z) 0 1 = .int .i64 m from by simp [csSet]] at y1
          rw [show csSet (csSet (csSet cs 0 0 (.int .i64 k)) 0 1 (.int .i64 m)) 0 2 (.string z) 0 2 = .string z from by simp [csSet]] at y2
          obtain ⟨r0, r1, r2⟩ := cells3v hS3.r
          have g0 := frz hS3.r
          have HQ : Hid (w2.heap[w.heap.size + 1]? = some (.cells #[.int .i64 0, .int .i64 0, .string nul] 31 (0, 0))) := hS3.r
          have HB : Hid (Below w.heap.size w w2) := hS3.below
          clear hS3
          go_wp2_with fail
          go_region
          all_goals
            go_wp2_with fail
            refine fin3 (w := World.drew w2) (t := 31) HQ.out (Q := bodyPost _ _ _ _ _) ?_
            clear r0 r1 r2 g0
            intro w4 hq4 hk4
            obtain ⟨d0, d1, d2⟩ := cells3v hq4
            exact bodyPost_ret (v := .tuple #[.slice none 0 0, VV k m z]) (by simp [results, Tryz.results246, go_sem, d0, d1, d2]) rfl ⟨rfl, HB.out.drew.trans (hk4 _ (by omega))⟩
end Go.Proofs.YtoaejcppfmjhdaaGreatDoor.ov
/- Package eval: NOT and IF, and what is no box. Conditions: the package variables hold what the program lays; of the rest as each theorem says. -/
namespace Go.Proofs.YtoaejcppfmjhdaaGreatDoor.ov
open Go.RowKit
open ev (VV fin3 cells3v b2I frz fin3e Taking fnV AB isBad_any two_new)
set_option maxRecDepth 100000 in
set_option maxHeartbeats 1600000 in
theorem taking1_bad (M : Value) (pk : Option Addr) (n c : Nat) (L : ByteArray) (K p q : Nat) (k m : Int) (z : ByteArray) (hk : (k == 4) = true) (w : World) (ht : Taking w L K p q)
    (HA : Hid (∀ wx, Below w.heap.size w wx → Calls Tryz.prog 246 #[.agg #[M, .slice pk n c], .string L] wx fun e w' => e = .returned (.tuple #[.slice none 0 0, VV k m z]) ∧ Below wx.heap.size wx w')) :
    Calls Tryz.prog 245 #[.agg #[M, .slice pk n c], .pointer (some ⟨p, 0, none⟩), .pointer (some ⟨q, 0, none⟩)] w fun e w' => e = .returned (VV k m z) ∧ Below w.heap.size w w' := by
  have HI : Hid (∀ wx, Calls Tryz.prog 170 #[VV k m z] wx fun e w' => e = .returned (.bool true) ∧ Below wx.heap.size wx w') := fun wx => by
    have := isBad_any k m z wx
    rw [hk] at this
    exact this
  obtain ⟨W, hW⟩ : ∃ W, W = (w.alloc (.cells #[M, .slice pk n c] 123)).alloc (.cells #[.int .i64 0, .int .i64 0, .string nul] 31) := ⟨_, rfl⟩
  have hbW : Below w.heap.size w W := by rw [hW]; exact ((Below.refl _ _).alloc (Nat.le_refl _) _).alloc (by simp) _
  obtain ⟨hA, hR⟩ := two_new w (.cells #[M, .slice pk n c] 123) (.cells #[.int .i64 0, .int .i64 0, .string nul] 31)
  rw [← hW] at hA hR
  have htW := ht.below hbW
  have HR : Hid (W.heap[w.heap.size + 1]? = some (.cells #[.int .i64 0, .int .i64 0, .string nul] 31 (0, 0))) := hR
  have HBW : Hid (Below w.heap.size w W) := hbW
  have m0 : W.cell? ⟨w.heap.size, 0, none⟩ = some M := by simp [World.cell?, hA]
  have m1 : W.cell? ⟨w.heap.size, 1, none⟩ = some (.slice pk n c) := by simp [World.cell?, hA]
  have m2 : W.cell? ⟨p, 0, none⟩ = some (.string L) := by simp [World.cell?, htW.letters]
  have HWW : Hid ((w.alloc (.cells #[M, .slice pk n c] 123)).alloc (.cells #[.int .i64 0, .int .i64 0, .string nul] 31) = W) := hW.symm
  rw [hW] at m0 m1 m2
  clear hA hR htW hW hbW ht hk
  go_enter Tryz.func245, Tryz.ntmps245
  go_wp2_with fail
  rw [HWW.out] at *
  refine (HA.out _ HBW.out).mono ?_
  clear m0 m1 m2
  rintro e w1 ⟨rfl, hb1⟩
  obtain ⟨V1, hV⟩ : ∃ V1, V1 = w1.alloc (.cells #[.int .i64 k, .int .i64 m, .string z] 31) := ⟨_, rfl⟩
  have hbv : Below w1.heap.size w1 V1 := by rw [hV]; exact (Below.refl _ _).alloc (Nat.le_refl _) _
  have hbW1 : Below W.heap.size W V1 := bnext hb1 hbv hb1.size
  have HR1 : Hid (V1.heap[w.heap.size + 1]? = some (.cells #[.int .i64 0, .int .i64 0, .string nul] 31 (0, 0))) := (hbW1.block _ (fm.lt_blk HR.out)).trans HR.out
  have HB1 : Hid (Below w.heap.size w V1) := bnext HBW.out hbW1 HBW.out.size
  have hV0 : V1.heap[w1.heap.size]? = some (.cells #[.int .i64 k, .int .i64 m, .string z] 31 (0, 0)) := by rw [hV]; exact heap_alloc_new _ _
  have HV0 : Hid (V1.heap[w1.heap.size]? = some (.cells #[.int .i64 k, .int .i64 m, .string z] 31 (0, 0))) := hV0
  obtain ⟨v0, v1, v2⟩ := cells3v hV0
  rw [hV] at v0 v1 v2
  have HVV : Hid (w1.alloc (.cells #[.int .i64 k, .int .i64 m, .string z] 31) = V1) := hV.symm
  clear hV hV0 hb1 hbv hbW1 HWW HR HBW
  go_wp2_with fail
  rw [HVV.out] at *
  refine (HI.out _).mono ?_
  clear v0 v1 v2
  rintro e w3 ⟨rfl, hb3⟩
  have HQ : Hid (w3.heap[w.heap.size + 1]? = some (.cells #[.int .i64 0, .int .i64 0, .string nul] 31 (0, 0))) := (hb3.block _ (fm.lt_blk HR1.out)).trans HR1.out
  have HB : Hid (Below w.heap.size w w3) := bnext HB1.out hb3 HB1.out.size
  obtain ⟨v0, v1, v2⟩ := cells3v ((hb3.block _ (fm.lt_blk HV0.out)).trans HV0.out)
  clear hb3 HR1 HB1 HVV HV0
  obtain ⟨c0, c1, c2⟩ := cells3v HQ.out
  have f0 := frz HQ.out
  go_wp2_with fail
  refine fin3 HQ.out (Q := bodyPost _ _ _ _ _) ?_
  clear c0 c1 c2 f0
  intro w9 hq9 hk9
  obtain ⟨d0, d1, d2⟩ := cells3v hq9
  exact bodyPost_ret (v := VV k m z) (by simp [results, Tryz.results245, go_sem, d0, d1, d2]) rfl ⟨rfl, HB.out.trans (hk9 _ (by omega))⟩
/-- What NOT makes of a value. -/
def ntV (k n : Int) (s : ByteArray) : V3 := if ((trV k n s).k == 4) = true then trV k n s else ⟨3, b2I ((trV k n s).n == 0), nul⟩
set_option maxHeartbeats 1600000 in
theorem not_any (k n : Int) (s : ByteArray) (w : World) (hE : Env w) : Calls Tryz.prog 176 #[VV k n s] w fun e w' => e = .returned (VV (ntV k n s).k (ntV k n s).n (ntV k n s).s) ∧ Below w.heap.size w w' := by
  obtain ⟨hA, hR⟩ := two_new w (.cells #[.int .i64 k, .int .i64 n, .string s] 31) (.cells #[.int .i64 0, .int .i64 0, .string nul] 31)
  have hbW : Below w.heap.size w ((w.alloc (.cells #[.int .i64 k, .int .i64 n, .string s] 31)).alloc (.cells #[.int .i64 0, .int .i64 0, .string nul] 31)) := ((Below.refl _ _).alloc (Nat.le_refl _) _).alloc (by simp) _
  have HTR := truth_all k n s _ (hE.next hbW)
  have HRR : Hid (∀ w1, Below ((w.alloc (.cells #[.int .i64 k, .int .i64 n, .string s] 31)).alloc (.cells #[.int .i64 0, .int .i64 0, .string nul] 31)).heap.size ((w.alloc (.cells #[.int .i64 k, .int .i64 n, .string s] 31)).alloc (.cells #[.int .i64 0, .int .i64 0, .string nul] 31)) w1 → w1.heap[w.heap.size + 1]? = some (.cells #[.int .i64 0, .int .i64 0, .string nul] 31 (0, 0)) ∧ Below w.heap.size w w1) := fun w1 hb => ⟨(hb.block _ (fm.lt_blk hR)).trans hR, bnext hbW hb hbW.size⟩
  obtain ⟨a0, a1, a2⟩ := cells3v hA
  unfold ntV
  generalize trV k n s = R at *
  obtain ⟨rk, rn, rs⟩ := R
  dsimp only at HTR ⊢
  have HI : Hid (∀ wx, Calls Tryz.prog 170 #[VV rk rn rs] wx fun e w' => e = .returned (.bool (rk == 4)) ∧ Below wx.heap.size wx w') := fun wx => isBad_any rk rn rs wx
  clear hA hR hbW hE
  cases h4 : (rk == 4) with
  | true =>
    rw [h4] at HI
    simp only [if_true]
    go_enter Tryz.func176, Tryz.ntmps176
    go_wp2_with fail
    refine HTR.mono ?_
    rintro e w1 ⟨rfl, hb1⟩
    have hba : Below w1.heap.size w1 (w1.alloc (.cells #[.int .i64 rk, .int .i64 rn, .string rs] 31)) := (Below.refl _ _).alloc (Nat.le_refl _) _
    have HB1 : Hid (Below ((w.alloc (.cells #[.int .i64 k, .int .i64 n, .string s] 31)).alloc (.cells #[.int .i64 0, .int .i64 0, .string nul] 31)).heap.size ((w.alloc (.cells #[.int .i64 k, .int .i64 n, .string s] 31)).alloc (.cells #[.int .i64 0, .int .i64 0, .string nul] 31)) (w1.alloc (.cells #[.int .i64 rk, .int .i64 rn, .string rs] 31))) := bnext hb1 hba hb1.size
    have HV0 : Hid ((w1.alloc (.cells #[.int .i64 rk, .int .i64 rn, .string rs] 31)).heap[w1.heap.size]? = some (.cells #[.int .i64 rk, .int .i64 rn, .string rs] 31 (0, 0))) := heap_alloc_new _ _
    obtain ⟨v0, v1, v2⟩ := cells3v HV0.out
    clear hb1 hba a0 a1 a2
    go_wp2_with fail
    refine (HI.out _).mono ?_
    clear v0 v1 v2
    rintro e w3 ⟨rfl, hb3⟩
    obtain ⟨hq, hb⟩ := HRR.out w3 (bnext HB1.out hb3 HB1.out.size)
    have HQ : Hid (w3.heap[w.heap.size + 1]? = some (.cells #[.int .i64 0, .int .i64 0, .string nul] 31 (0, 0))) := hq
    have HB : Hid (Below w.heap.size w w3) := hb
    obtain ⟨v0, v1, v2⟩ := cells3v ((hb3.block _ (fm.lt_blk HV0.out)).trans HV0.out)
    clear hb3 hq hb HRR HB1 HV0
    obtain ⟨c0, c1, c2⟩ := cells3v HQ.out
    have f0 := frz HQ.out
    go_wp2_with fail
    refine fin3 HQ.out (Q := bodyPost _ _ _ _ _) ?_
    clear c0 c1 c2 f0
    intro w9 hq9 hk9
    obtain ⟨d0, d1, d2⟩ := cells3v hq9
    exact bodyPost_ret (v := VV rk rn rs) (by simp [results, Tryz.results176, go_sem, d0, d1, d2]) rfl ⟨rfl, HB.out.trans (hk9 _ (by omega))⟩
  | false =>
    rw [h4] at HI
    simp only [Bool.false_eq_true, if_false]
    go_enter Tryz.func176, Tryz.ntmps176
    go_wp2_with fail
    refine HTR.mono ?_
    rintro e w1 ⟨rfl, hb1⟩
    have hba : Below w1.heap.size w1 (w1.alloc (.cells #[.int .i64 rk, .int .i64 rn, .string rs] 31)) := (Below.refl _ _).alloc (Nat.le_refl _) _
    have HB1 : Hid (Below ((w.alloc (.cells #[.int .i64 k, .int .i64 n, .string s] 31)).alloc (.cells #[.int .i64 0, .int .i64 0, .string nul] 31)).heap.size ((w.alloc (.cells #[.int .i64 k, .int .i64 n, .string s] 31)).alloc (.cells #[.int .i64 0, .int .i64 0, .string nul] 31)) (w1.alloc (.cells #[.int .i64 rk, .int .i64 rn, .string rs] 31))) := bnext hb1 hba hb1.size
    have HV0 : Hid ((w1.alloc (.cells #[.int .i64 rk, .int .i64 rn, .string rs] 31)).heap[w1.heap.size]? = some (.cells #[.int .i64 rk, .int .i64 rn, .string rs] 31 (0, 0))) := heap_alloc_new _ _
    obtain ⟨v0, v1, v2⟩ := cells3v HV0.out
    clear hb1 hba a0 a1 a2
    go_wp2_with fail
    refine (HI.out _).mono ?_
    clear v0 v1 v2
    rintro e w3 ⟨rfl, hb3⟩
    have HB3 : Hid (Below ((w.alloc (.cells #[.int .i64 k, .int .i64 n, .string s] 31)).alloc (.cells #[.int .i64 0, .int .i64 0, .string nul] 31)).heap.size ((w.alloc (.cells #[.int .i64 k, .int .i64 n, .string s] 31)).alloc (.cells #[.int .i64 0, .int .i64 0, .string nul] 31)) w3) := bnext HB1.out hb3 HB1.out.size
    obtain ⟨v0, v1, v2⟩ := cells3v ((hb3.block _ (fm.lt_blk HV0.out)).trans HV0.out)
    clear hb3 HB1 HV0
    go_wp2_with fail
    refine (ev.truth_any _ _).mono ?_
    clear v0 v1 v2
    rintro e w4 ⟨rfl, hb4⟩
    obtain ⟨hq, hb⟩ := HRR.out w4 (bnext HB3.out hb4 HB3.out.size)
    have HQ : Hid (w4.heap[w.heap.size + 1]? = some (.cells #[.int .i64 0, .int .i64 0, .string nul] 31 (0, 0))) := hq
    have HB : Hid (Below w.heap.size w w4) := hb
    clear hb4 hq hb HRR HB3
    obtain ⟨c0, c1, c2⟩ := cells3v HQ.out
    have f0 := frz HQ.out
    go_wp2_with fail
    refine fin3 HQ.out (Q := bodyPost _ _ _ _ _) ?_
    clear c0 c1 c2 f0
    intro w9 hq9 hk9
    obtain ⟨d0, d1, d2⟩ := cells3v hq9
    exact bodyPost_ret (v := VV 3 (b2I (rn == 0)) nul) (by simp [results, Tryz.results176, go_sem, d0, d1, d2]) rfl ⟨rfl, HB.out.trans (hk9 _ (by omega))⟩
set_option maxHeartbeats 1600000 in
theorem notA (k n : Int) (s : ByteArray) (w : World) (hE : Env w) (A : Nat) (cs : Nat → Nat → Value) (h : AB w A 1 cs) (h0 : cs 0 0 = .int .i64 k) (h1 : cs 0 1 = .int .i64 n) (h2 : cs 0 2 = .string s) :
    Calls Tryz.prog 175 #[.slice (some ⟨A, 0, none⟩) 1 1] w fun e w' => e = .returned (VV (ntV k n s).k (ntV k n s).n (ntV k n s).s) ∧ Below w.heap.size w w' := by
  have hb0 : Below w.heap.size w (w.alloc (.cells #[.int .i64 0, .int .i64 0, .string nul] 31)) := (Below.refl _ _).alloc (Nat.le_refl _) _
  have h' := h.below hb0
  have y0 := h'.cell (i := 0) (by omega) (j := 0) (by omega)
  have y1 := h'.cell (i := 0) (by omega) (j := 1) (by omega)
  have y2 := h'.cell (i := 0) (by omega) (j := 2) (by omega)
  simp only [Nat.zero_mul, Nat.zero_add] at y0 y1 y2
  rw [h0] at y0
  rw [h1] at y1
  rw [h2] at y2
  have HNT := not_any k n s _ (hE.next hb0)
  have HRR : Hid (∀ w1, Below (w.alloc (.cells #[.int .i64 0, .int .i64 0, .string nul] 31)).heap.size (w.alloc (.cells #[.int .i64 0, .int .i64 0, .string nul] 31)) w1 → w1.heap[w.heap.size]? = some (.cells #[.int .i64 0, .int .i64 0, .string nul] 31 (0, 0)) ∧ Below w.heap.size w w1) := fun w1 hb => ⟨(hb.block _ (by simp)).trans (heap_alloc_new w _), bnext hb0 hb hb0.size⟩
  clear h h' h0 h1 h2 hE hb0
  generalize ntV k n s = R at *
  go_enter Tryz.func175, Tryz.ntmps175
  go_wp2_with fail
  refine HNT.mono ?_
  rintro e w1 ⟨rfl, hb1⟩
  obtain ⟨hq, hb⟩ := HRR.out w1 hb1
  have HQ : Hid (w1.heap[w.heap.size]? = some (.cells #[.int .i64 0, .int .i64 0, .string nul] 31 (0, 0))) := hq
  have HB : Hid (Below w.heap.size w w1) := hb
  clear hq hb hb1 HRR y0 y1 y2
  obtain ⟨c0, c1, c2⟩ := cells3v HQ.out
  have f0 := frz HQ.out
  go_wp2_with fail
  refine fin3 HQ.out (Q := bodyPost _ _ _ _ _) ?_
  clear c0 c1 c2 f0
  intro w9 hq9 hk9
  obtain ⟨d0, d1, d2⟩ := cells3v hq9
  exact bodyPost_ret (v := VV R.k R.n R.s) (by simp [results, Tryz.results175, go_sem, d0, d1, d2]) rfl ⟨rfl, HB.out.trans (hk9 _ (by omega))⟩
set_option maxRecDepth 100000 in
set_option maxHeartbeats 1600000 in
theorem choose_bad (M : Value) (p : Option Addr) (c : Nat) (X : Nat → It) (r : V3) (w : World) (hE : Env w) (hr : trV (X 0).k (X 0).n (X 0).s = r) (h4 : (r.k == 4) = true)
    (HV : Hid (∀ (i : Nat) wx, i < 3 → Below w.heap.size w wx → Calls Tryz.prog 243 #[.agg #[M, .slice p 3 c], .int .i64 i] wx fun e w' => e = .returned (VV (X i).k (X i).n (X i).s) ∧ Below wx.heap.size wx w')) :
    Calls Tryz.prog 166 #[.agg #[M, .slice p 3 c]] w fun e w' => e = .returned (VV r.k r.n r.s) ∧ Below w.heap.size w w' := by
  obtain ⟨rk, rn, rs⟩ := r
  dsimp only at *
  obtain ⟨hA, hR⟩ := two_new w (.cells #[M, .slice p 3 c] 123) (.cells #[.int .i64 0, .int .i64 0, .string nul] 31)
  have hbW : Below w.heap.size w ((w.alloc (.cells #[M, .slice p 3 c] 123)).alloc (.cells #[.int .i64 0, .int .i64 0, .string nul] 31)) := ((Below.refl _ _).alloc (Nat.le_refl _) _).alloc (by simp) _
  have HRR : Hid (∀ w1, Below ((w.alloc (.cells #[M, .slice p 3 c] 123)).alloc (.cells #[.int .i64 0, .int .i64 0, .string nul] 31)).heap.size ((w.alloc (.cells #[M, .slice p 3 c] 123)).alloc (.cells #[.int .i64 0, .int .i64 0, .string nul] 31)) w1 → w1.heap[w.heap.size]? = some (.cells #[M, .slice p 3 c] 123 (0, 0)) ∧ w1.heap[w.heap.size + 1]? = some (.cells #[.int .i64 0, .int .i64 0, .string nul] 31 (0, 0)) ∧ Below w.heap.size w w1) := fun w1 hb => ⟨(hb.block _ (fm.lt_blk hA)).trans hA, (hb.block _ (fm.lt_blk hR)).trans hR, bnext hbW hb hbW.size⟩
  have HTR : Hid (∀ wx, Below w.heap.size w wx → Calls Tryz.prog 241 #[VV (X 0).k (X 0).n (X 0).s] wx fun e w' => e = .returned (VV rk rn rs) ∧ Below wx.heap.size wx w') := fun wx hb => by
    have := truth_all (X 0).k (X 0).n (X 0).s wx (hE.next hb)
    rw [hr] at this
    exact this
  have HI : Hid (∀ wx, Calls Tryz.prog 170 #[VV rk rn rs] wx fun e w' => e = .returned (.bool true) ∧ Below wx.heap.size wx w') := fun wx => by
    have := isBad_any rk rn rs wx
    rw [h4] at this
    exact this
  have m0 : ((w.alloc (.cells #[M, .slice p 3 c] 123)).alloc (.cells #[.int .i64 0, .int .i64 0, .string nul] 31)).cell? ⟨w.heap.size, 0, none⟩ = some M := by simp [World.cell?, hA]
  have m1 : ((w.alloc (.cells #[M, .slice p 3 c] 123)).alloc (.cells #[.int .i64 0, .int .i64 0, .string nul] 31)).cell? ⟨w.heap.size, 1, none⟩ = some (.slice p 3 c) := by simp [World.cell?, hA]
  have HV0 := HV.out 0 _ (by omega) hbW
  clear hA hR hbW hE hr h4
  go_enter Tryz.func166, Tryz.ntmps166
  go_wp2_with fail
  refine HV0.mono ?_
  clear m0 m1
  rintro e w1 ⟨rfl, hb1⟩
  have HB1 : Hid (Below ((w.alloc (.cells #[M, .slice p 3 c] 123)).alloc (.cells #[.int .i64 0, .int .i64 0, .string nul] 31)).heap.size ((w.alloc (.cells #[M, .slice p 3 c] 123)).alloc (.cells #[.int .i64 0, .int .i64 0, .string nul] 31)) w1) := hb1
  clear hb1
  go_wp2_with fail
  refine (HTR.out _ (HRR.out _ HB1.out).2.2).mono ?_
  rintro e w2 ⟨rfl, hb2⟩
  have hba : Below w2.heap.size w2 (w2.alloc (.cells #[.int .i64 rk, .int .i64 rn, .string rs] 31)) := (Below.refl _ _).alloc (Nat.le_refl _) _
  have HB2 : Hid (Below ((w.alloc (.cells #[M, .slice p 3 c] 123)).alloc (.cells #[.int .i64 0, .int .i64 0, .string nul] 31)).heap.size ((w.alloc (.cells #[M, .slice p 3 c] 123)).alloc (.cells #[.int .i64 0, .int .i64 0, .string nul] 31)) (w2.alloc (.cells #[.int .i64 rk, .int .i64 rn, .string rs] 31))) := bnext (bnext HB1.out hb2 HB1.out.size) hba (bnext HB1.out hb2 HB1.out.size).size
  have HW2 : Hid ((w2.alloc (.cells #[.int .i64 rk, .int .i64 rn, .string rs] 31)).heap[w2.heap.size]? = some (.cells #[.int .i64 rk, .int .i64 rn, .string rs] 31 (0, 0))) := heap_alloc_new _ _
  obtain ⟨v0, v1, v2⟩ := cells3v HW2.out
  clear hb2 hba HB1
  go_wp2_with fail
  refine (HI.out _).mono ?_
  clear v0 v1 v2
  rintro e w3 ⟨rfl, hb3⟩
  have HB3 : Hid (Below ((w.alloc (.cells #[M, .slice p 3 c] 123)).alloc (.cells #[.int .i64 0, .int .i64 0, .string nul] 31)).heap.size ((w.alloc (.cells #[M, .slice p 3 c] 123)).alloc (.cells #[.int .i64 0, .int .i64 0, .string nul] 31)) w3) := bnext HB2.out hb3 HB2.out.size
  obtain ⟨v0, v1, v2⟩ := cells3v ((hb3.block _ (fm.lt_blk HW2.out)).trans HW2.out)
  clear hb3 HB2 HW2
  have HQ : Hid (w3.heap[w.heap.size + 1]? = some (.cells #[.int .i64 0, .int .i64 0, .string nul] 31 (0, 0))) := (HRR.out w3 HB3.out).2.1
  have HB : Hid (Below w.heap.size w w3) := (HRR.out w3 HB3.out).2.2
  clear HRR HB3
  obtain ⟨c0, c1, c2⟩ := cells3v HQ.out
  have f0 := frz HQ.out
  go_wp2_with fail
  refine fin3 HQ.out (Q := bodyPost _ _ _ _ _) ?_
  clear c0 c1 c2 f0
  intro w9 hq9 hk9
  obtain ⟨d0, d1, d2⟩ := cells3v hq9
  exact bodyPost_ret (v := VV rk rn rs) (by simp [results, Tryz.results166, go_sem, d0, d1, d2]) rfl ⟨rfl, HB.out.trans (hk9 _ (by omega))⟩
set_option maxRecDepth 100000 in
set_option maxHeartbeats 1600000 in
theorem choose_one (M : Value) (p : Option Addr) (c : Nat) (X : Nat → It) (r : V3) (w : World) (hE : Env w) (hr : trV (X 0).k (X 0).n (X 0).s = r) (h4 : (r.k == 4) = false) (h1 : (r.n == 1) = true)
    (HV : Hid (∀ (i : Nat) wx, i < 3 → Below w.heap.size w wx → Calls Tryz.prog 243 #[.agg #[M, .slice p 3 c], .int .i64 i] wx fun e w' => e = .returned (VV (X i).k (X i).n (X i).s) ∧ Below wx.heap.size wx w')) :
    Calls Tryz.prog 166 #[.agg #[M, .slice p 3 c]] w fun e w' => e = .returned (VV (X 1).k (X 1).n (X 1).s) ∧ Below w.heap.size w w' := by
  obtain ⟨rk, rn, rs⟩ := r
  dsimp only at *
  obtain ⟨hA, hR⟩ := two_new w (.cells #[M, .slice p 3 c] 123) (.cells #[.int .i64 0, .int .i64 0, .string nul] 31)
  have hbW : Below w.heap.size w ((w.alloc (.cells #[M, .slice p 3 c] 123)).alloc (.cells #[.int .i64 0, .int .i64 0, .string nul] 31)) := ((Below.refl _ _).alloc (Nat.le_refl _) _).alloc (by simp) _
  have HRR : Hid (∀ w1, Below ((w.alloc (.cells #[M, .slice p 3 c] 123)).alloc (.cells #[.int .i64 0, .int .i64 0, .string nul] 31)).heap.size ((w.alloc (.cells #[M, .slice p 3 c] 123)).alloc (.cells #[.int .i64 0, .int .i64 0, .string nul] 31)) w1 → w1.heap[w.heap.size]? = some (.cells #[M, .slice p 3 c] 123 (0, 0)) ∧ w1.heap[w.heap.size + 1]? = some (.cells #[.int .i64 0, .int .i64 0, .string nul] 31 (0, 0)) ∧ Below w.heap.size w w1) := fun w1 hb => ⟨(hb.block _ (fm.lt_blk hA)).trans hA, (hb.block _ (fm.lt_blk hR)).trans hR, bnext hbW hb hbW.size⟩
  have HTR : Hid (∀ wx, Below w.heap.size w wx → Calls Tryz.prog 241 #[VV (X 0).k (X 0).n (X 0).s] wx fun e w' => e = .returned (VV rk rn rs) ∧ Below wx.heap.size wx w') := fun wx hb => by
    have := truth_all (X 0).k (X 0).n (X 0).s wx (hE.next hb)
    rw [hr] at this
    exact this
  have HI : Hid (∀ wx, Calls Tryz.prog 170 #[VV rk rn rs] wx fun e w' => e = .returned (.bool false) ∧ Below wx.heap.size wx w') := fun wx => by
    have := isBad_any rk rn rs wx
    rw [h4] at this
    exact this
  have m0 : ((w.alloc (.cells #[M, .slice p 3 c] 123)).alloc (.cells #[.int .i64 0, .int .i64 0, .string nul] 31)).cell? ⟨w.heap.size, 0, none⟩ = some M := by simp [World.cell?, hA]
  have m1 : ((w.alloc (.cells #[M, .slice p 3 c] 123)).alloc (.cells #[.int .i64 0, .int .i64 0, .string nul] 31)).cell? ⟨w.heap.size, 1, none⟩ = some (.slice p 3 c) := by simp [World.cell?, hA]
  have HV0 := HV.out 0 _ (by omega) hbW
  clear hA hR hbW hE hr h4
  go_enter Tryz.func166, Tryz.ntmps166
  go_wp2_with fail
  refine HV0.mono ?_
  clear m0 m1
  rintro e w1 ⟨rfl, hb1⟩
  have HB1 : Hid (Below ((w.alloc (.cells #[M, .slice p 3 c] 123)).alloc (.cells #[.int .i64 0, .int .i64 0, .string nul] 31)).heap.size ((w.alloc (.cells #[M, .slice p 3 c] 123)).alloc (.cells #[.int .i64 0, .int .i64 0, .string nul] 31)) w1) := hb1
  clear hb1
  go_wp2_with fail
  refine (HTR.out _ (HRR.out _ HB1.out).2.2).mono ?_
  rintro e w2 ⟨rfl, hb2⟩
  have hba : Below w2.heap.size w2 (w2.alloc (.cells #[.int .i64 rk, .int .i64 rn, .string rs] 31)) := (Below.refl _ _).alloc (Nat.le_refl _) _
  have HB2 : Hid (Below ((w.alloc (.cells #[M, .slice p 3 c] 123)).alloc (.cells #[.int .i64 0, .int .i64 0, .string nul] 31)).heap.size ((w.alloc (.cells #[M, .slice p 3 c] 123)).alloc (.cells #[.int .i64 0, .int .i64 0, .string nul] 31)) (w2.alloc (.cells #[.int .i64 rk, .int .i64 rn, .string rs] 31))) := bnext (bnext HB1.out hb2 HB1.out.size) hba (bnext HB1.out hb2 HB1.out.size).size
  have HW2 : Hid ((w2.alloc (.cells #[.int .i64 rk, .int .i64 rn, .string rs] 31)).heap[w2.heap.size]? = some (.cells #[.int .i64 rk, .int .i64 rn, .string rs] 31 (0, 0))) := heap_alloc_new _ _
  obtain ⟨v0, v1, v2⟩ := cells3v HW2.out
  clear hb2 hba HB1
  go_wp2_with fail
  refine (HI.out _).mono ?_
  clear v0 v1 v2
  rintro e w3 ⟨rfl, hb3⟩
  have HB3 : Hid (Below ((w.alloc (.cells #[M, .slice p 3 c] 123)).alloc (.cells #[.int .i64 0, .int .i64 0, .string nul] 31)).heap.size ((w.alloc (.cells #[M, .slice p 3 c] 123)).alloc (.cells #[.int .i64 0, .int .i64 0, .string nul] 31)) w3) := bnext HB2.out hb3 HB2.out.size
  obtain ⟨v0, v1, v2⟩ := cells3v ((hb3.block _ (fm.lt_blk HW2.out)).trans HW2.out)
  clear hb3 HB2 HW2
  have m0 : w3.cell? ⟨w.heap.size, 0, none⟩ = some M := by simp [World.cell?, (HRR.out w3 HB3.out).1]
  have m1 : w3.cell? ⟨w.heap.size, 1, none⟩ = some (.slice p 3 c) := by simp [World.cell?, (HRR.out w3 HB3.out).1]
  have HV1 := HV.out 1 w3 (by omega) (HRR.out w3 HB3.out).2.2
  go_wp2_with fail
  refine HV1.mono ?_
  clear m0 m1 v0 v1 v2
  rintro e w4 ⟨rfl, hb4⟩
  have HQ : Hid (w4.heap[w.heap.size + 1]? = some (.cells #[.int .i64 0, .int .i64 0, .string nul] 31 (0, 0))) := (HRR.out w4 (bnext HB3.out hb4 HB3.out.size)).2.1
  have HB : Hid (Below w.heap.size w w4) := (HRR.out w4 (bnext HB3.out hb4 HB3.out.size)).2.2
  clear HRR HB3 hb4
  obtain ⟨c0, c1, c2⟩ := cells3v HQ.out
  have f0 := frz HQ.out
  go_wp2_with fail
  refine fin3 HQ.out (Q := bodyPost _ _ _ _ _) ?_
  clear c0 c1 c2 f0
  intro w9 hq9 hk9
  obtain ⟨d0, d1, d2⟩ := cells3v hq9
  exact bodyPost_ret (v := VV (X 1).k (X 1).n (X 1).s) (by simp [results, Tryz.results166, go_sem, d0, d1, d2]) rfl ⟨rfl, HB.out.trans (hk9 _ (by omega))⟩
set_option maxRecDepth 100000 in
set_option maxHeartbeats 1600000 in
theorem choose_two (M : Value) (p : Option Addr) (c : Nat) (X : Nat → It) (r : V3) (w : World) (hE : Env w) (hr : trV (X 0).k (X 0).n (X 0).s = r) (h4 : (r.k == 4) = false) (h1 : (r.n == 1) = false)
    (HV : Hid (∀ (i : Nat) wx, i < 3 → Below w.heap.size w wx → Calls Tryz.prog 243 #[.agg #[M, .slice p 3 c], .int .i64 i] wx fun e w' => e = .returned (VV (X i).k (X i).n (X i).s) ∧ Below wx.heap.size wx w')) :
    Calls Tryz.prog 166 #[.agg #[M, .slice p 3 c]] w fun e w' => e = .returned (VV (X 2).k (X 2).n (X 2).s) ∧ Below w.heap.size w w' := by
  obtain ⟨rk, rn, rs⟩ := r
  dsimp only at *
  obtain ⟨hA, hR⟩ := two_new w (.cells #[M, .slice p 3 c] 123) (.cells #[.int .i64 0, .int .i64 0, .string nul] 31)
  have hbW : Below w.heap.size w ((w.alloc (.cells #[M, .slice p 3 c] 123)).alloc (.cells #[.int .i64 0, .int .i64 0, .string nul] 31)) := ((Below.refl _ _).alloc (Nat.le_refl _) _).alloc (by simp) _
  have HRR : Hid (∀ w1, Below ((w.alloc (.cells #[M, .slice p 3 c] 123)).alloc (.cells #[.int .i64 0, .int .i64 0, .string nul] 31)).heap.size ((w.alloc (.cells #[M, .slice p 3 c] 123)).alloc (.cells #[.int .i64 0, .int .i64 0, .string nul] 31)) w1 → w1.heap[w.heap.size]? = some (.cells #[M, .slice p 3 c] 123 (0, 0)) ∧ w1.heap[w.heap.size + 1]? = some (.cells #[.int .i64 0, .int .i64 0, .string nul] 31 (0, 0)) ∧ Below w.heap.size w w1) := fun w1 hb => ⟨(hb.block _ (fm.lt_blk hA)).trans hA, (hb.block _ (fm.lt_blk hR)).trans hR, bnext hbW hb hbW.size⟩
  have HTR : Hid (∀ wx, Below w.heap.size w wx → Calls Tryz.prog 241 #[VV (X 0).k (X 0).n (X 0).s] wx fun e w' => e = .returned (VV rk rn rs) ∧ Below wx.heap.size wx w') := fun wx hb => by
    have := truth_all (X 0).k (X 0).n (X 0).s wx (hE.next hb)
    rw [hr] at this
    exact this
  have HI : Hid (∀ wx, Calls Tryz.prog 170 #[VV rk rn rs] wx fun e w' => e = .returned (.bool false) ∧ Below wx.heap.size wx w') := fun wx => by
    have := isBad_any rk rn rs wx
    rw [h4] at this
    exact this
  have m0 : ((w.alloc (.cells #[M, .slice p 3 c] 123)).alloc (.cells #[.int .i64 0, .int .i64 0, .string nul] 31)).cell? ⟨w.heap.size, 0, none⟩ = some M := by simp [World.cell?, hA]
  have m1 : ((w.alloc (.cells #[M, .slice p 3 c] 123)).alloc (.cells #[.int .i64 0, .int .i64 0, .string nul] 31)).cell? ⟨w.heap.size, 1, none⟩ = some (.slice p 3 c) := by simp [World.cell?, hA]
  have HV0 := HV.out 0 _ (by omega) hbW
  clear hA hR hbW hE hr h4
  go_enter Tryz.func166, Tryz.ntmps166
  go_wp2_with fail
  refine HV0.mono ?_
  clear m0 m1
  rintro e w1 ⟨rfl, hb1⟩
  have HB1 : Hid (Below ((w.alloc (.cells #[M, .slice p 3 c] 123)).alloc (.cells #[.int .i64 0, .int .i64 0, .string nul] 31)).heap.size ((w.alloc (.cells #[M, .slice p 3 c] 123)).alloc (.cells #[.int .i64 0, .int .i64 0, .string nul] 31)) w1) := hb1
  clear hb1
  go_wp2_with fail
  refine (HTR.out _ (HRR.out _ HB1.out).2.2).mono ?_
  rintro e w2 ⟨rfl, hb2⟩
  have hba : Below w2.heap.size w2 (w2.alloc (.cells #[.int .i64 rk, .int .i64 rn, .string rs] 31)) := (Below.refl _ _).alloc (Nat.le_refl _) _
  have HB2 : Hid (Below ((w.alloc (.cells #[M, .slice p 3 c] 123)).alloc (.cells #[.int .i64 0, .int .i64 0, .string nul] 31)).heap.size ((w.alloc (.cells #[M, .slice p 3 c] 123)).alloc (.cells #[.int .i64 0, .int .i64 0, .string nul] 31)) (w2.alloc (.cells #[.int .i64 rk, .int .i64 rn, .string rs] 31))) := bnext (bnext HB1.out hb2 HB1.out.size) hba (bnext HB1.out hb2 HB1.out.size).size
  have HW2 : Hid ((w2.alloc (.cells #[.int .i64 rk, .int .i64 rn, .string rs] 31)).heap[w2.heap.size]? = some (.cells #[.int .i64 rk, .int .i64 rn, .string rs] 31 (0, 0))) := heap_alloc_new _ _
  obtain ⟨v0, v1, v2⟩ := cells3v HW2.out
  clear hb2 hba HB1
  go_wp2_with fail
  refine (HI.out _).mono ?_
  clear v0 v1 v2
  rintro e w3 ⟨rfl, hb3⟩
  have HB3 : Hid (Below ((w.alloc (.cells #[M, .slice p 3 c] 123)).alloc (.cells #[.int .i64 0, .int .i64 0, .string nul] 31)).heap.size ((w.alloc (.cells #[M, .slice p 3 c] 123)).alloc (.cells #[.int .i64 0, .int .i64 0, .string nul] 31)) w3) := bnext HB2.out hb3 HB2.out.size
  obtain ⟨v0, v1, v2⟩ := cells3v ((hb3.block _ (fm.lt_blk HW2.out)).trans HW2.out)
  clear hb3 HB2 HW2
  have m0 : w3.cell? ⟨w.heap.size, 0, none⟩ = some M := by simp [World.cell?, (HRR.out w3 HB3.out).1]
  have m1 : w3.cell? ⟨w.heap.size, 1, none⟩ = some (.slice p 3 c) := by simp [World.cell?, (HRR.out w3 HB3.out).1]
  have HV1 := HV.out 2 w3 (by omega) (HRR.out w3 HB3.out).2.2
  go_wp2_with fail
  refine HV1.mono ?_
  clear m0 m1 v0 v1 v2
  rintro e w4 ⟨rfl, hb4⟩
  have HQ : Hid (w4.heap[w.heap.size + 1]? = some (.cells #[.int .i64 0, .int .i64 0, .string nul] 31 (0, 0))) := (HRR.out w4 (bnext HB3.out hb4 HB3.out.size)).2.1
  have HB : Hid (Below w.heap.size w w4) := (HRR.out w4 (bnext HB3.out hb4 HB3.out.size)).2.2
  clear HRR HB3 hb4
  obtain ⟨c0, c1, c2⟩ := cells3v HQ.out
  have f0 := frz HQ.out
  go_wp2_with fail
  refine fin3 HQ.out (Q := bodyPost _ _ _ _ _) ?_
  clear c0 c1 c2 f0
  intro w9 hq9 hk9
  obtain ⟨d0, d1, d2⟩ := cells3v hq9
  exact bodyPost_ret (v := VV (X 2).k (X 2).n (X 2).s) (by simp [results, Tryz.results166, go_sem, d0, d1, d2]) rfl ⟨rfl, HB.out.trans (hk9 _ (by omega))⟩
set_option maxRecDepth 100000 in
set_option maxHeartbeats 1600000 in
theorem grid_no {w0 : World} {P : Nat → Prop} {p : Option Addr} {q c : Nat} {us : List Value} {ts : List fm.T} (hk : fm.Kids w0 P p q c us) (hl : us.length = ts.length) (hs : ∀ (i : Nat) u t', us[i]? = some u → ts[i]? = some t' → fm.Nd w0 P u t') (M : Value) (i : Nat) (hi : i < q) (h6 : ∀ t', ts[i]? = some t' → t'.kd ≠ 6) (w : World) (hb : Below w0.heap.size w0 w) :
    Calls Tryz.prog 266 #[.agg #[M, .slice p q c], .int .i64 i] w fun e w' => e = .returned (.tuple #[.agg #[.map none, .int .i64 0, .int .i64 0, .int .i64 0, .int .i64 0], .bool false]) ∧ Below w.heap.size w w' := by
  obtain ⟨g, o, u, t1, rfl, hg, hu, ht1, hcc⟩ := fm.kid_at hk hl hs i hi
  have hgw : g < w.heap.size := Nat.lt_of_lt_of_le hg hb.size
  have hbW : Below w.heap.size w ((w.alloc (.cells #[M, .slice (some ⟨g, o, none⟩) q c] 123)).alloc (.cells #[.map none, .int .i64 0, .int .i64 0, .int .i64 0, .int .i64 0] 185)) := ((Below.refl _ _).alloc (Nat.le_refl _) _).alloc (by simp) _
  obtain ⟨hA, hR⟩ := two_new w (.cells #[M, .slice (some ⟨g, o, none⟩) q c] 123) (.cells #[.map none, .int .i64 0, .int .i64 0, .int .i64 0, .int .i64 0] 185)
  have e1 : ∀ jj x, u.cells.toList[jj]? = some x → ((w.alloc (.cells #[M, .slice (some ⟨g, o, none⟩) q c] 123)).alloc (.cells #[.map none, .int .i64 0, .int .i64 0, .int .i64 0, .int .i64 0] 185)).cell? ⟨g, o + i * 12 + jj, none⟩ = some x := fun jj x hx => by rw [hbW.cell (p := ⟨g, _, none⟩) hgw, hb.cell (p := ⟨g, _, none⟩) hg]; exact hcc jj x hx
  have m0 : ((w.alloc (.cells #[M, .slice (some ⟨g, o, none⟩) q c] 123)).alloc (.cells #[.map none, .int .i64 0, .int .i64 0, .int .i64 0, .int .i64 0] 185)).cell? ⟨w.heap.size, 0, none⟩ = some M := by rw [World.cell?]; simp [hA]
  have m2 : ((w.alloc (.cells #[M, .slice (some ⟨g, o, none⟩) q c] 123)).alloc (.cells #[.map none, .int .i64 0, .int .i64 0, .int .i64 0, .int .i64 0] 185)).cell? ⟨w.heap.size, 1, none⟩ = some (.slice (some ⟨g, o, none⟩) q c) := by rw [World.cell?]; simp [hA]
  have hNd := hs i u t1 hu ht1
  have h6' := h6 t1 ht1
  cases hNd with
  | @mk k1 n1 s1 ra rb p1 m1 q1 us1 ts1 _ _ _ =>
  have hk6 : ¬ k1 = 6 := h6'
  have x0 := e1 0 _ rfl
  have x1 := e1 1 _ rfl
  have x2 := e1 2 _ rfl
  have x3 := e1 3 _ rfl
  have x4 := e1 4 _ rfl
  have x5 := e1 5 _ rfl
  have x6 := e1 6 _ rfl
  have x7 := e1 7 _ rfl
  have x8 := e1 8 _ rfl
  have x9 := e1 9 _ rfl
  have x10 := e1 10 _ rfl
  have x11 := e1 11 _ rfl
  simp only [Nat.add_zero] at x0
  have hlt' : (i : Int) < (q : Int) := by omega
  have hj' : (0 : Int) ≤ (i : Int) := by omega
  have HB : Hid (Below w.heap.size w ((w.alloc (.cells #[M, .slice (some ⟨g, o, none⟩) q c] 123)).alloc (.cells #[.map none, .int .i64 0, .int .i64 0, .int .i64 0, .int .i64 0] 185))) := hbW
  clear hA hR hbW e1 hcc hk hl hs hb ht1 hu h6 h6'
  go_enter Tryz.func266, Tryz.ntmps266
  go_wp2_with fail
  exact bodyPost_ret (v := .tuple #[.agg #[.map none, .int .i64 0, .int .i64 0, .int .i64 0, .int .i64 0], .bool false]) (by simp [results, Tryz.results266, go_sem]) rfl ⟨rfl, by (repeat (first | exact HB.out | exact Below.refl _ _ | assumption | (refine Below.setCell ?_ (by first | omega | (simp <;> omega)) _) | (refine Below.alloc ?_ (by first | omega | (simp <;> omega)) _)))⟩
end Go.Proofs.YtoaejcppfmjhdaaGreatDoor.ov
/- Package eval: what AND, OR, NOT and IF come to. Conditions: the package variables hold what the program lays; of the rest as each theorem says. -/
namespace Go.Proofs.YtoaejcppfmjhdaaGreatDoor.ov
open Go.RowKit
open ev (VV b2I)
/-- The first that is bad, or else what is handed over. -/
def fb (xs : List It) (z : V3) : V3 := match xs.find? (fun x => !good trV ctT x) with | some x => trV x.k x.n x.s | none => z
theorem fb_good {xs : List It} {z : V3} (h : ∀ y ∈ xs, good trV ctT y = true) : fb xs z = z := by
  unfold fb
  rw [List.find?_eq_none.2 (fun y hy => by simp [h y hy])]
theorem find_first {α : Type} (p : α → Bool) (pre : List α) (x : α) (t : List α) (h : ∀ y ∈ pre, p y = false) (hx : p x = true) : (pre ++ x :: t).find? p = some x := by
  induction pre with
  | nil => simp [hx]
  | cons a l ih => simp only [List.cons_append, List.find?_cons, h a (by simp)]; exact ih (fun y hy => h y (by simp [hy]))
theorem fb_bad {xs : List It} {z : V3} {pre : List It} {x : It} (hp : pre ++ [x] <+: xs) (h : ∀ y ∈ pre, good trV ctT y = true) (hx : good trV ctT x = false) : fb xs z = trV x.k x.n x.s := by
  obtain ⟨t, rfl⟩ := hp
  unfold fb
  rw [List.append_assoc, List.singleton_append, find_first _ pre x t (fun y hy => by simp [h y hy]) (by simp [hx])]
set_option maxHeartbeats 1600000 in
theorem wo_many {w : World} {P : Nat → Prop} {v : Value} {mb : Nat} {nm : ByteArray} {ts : List fm.T} (hN : fm.Nd w P v (.nd 9 0 nm .z .z ts)) (hE : fm.EnvW w) (K : Nat) (hEn : ∀ v wx, Sem.run Tryz.prog (callFunc K #[v]) wx = .ok (.enter K #[v]) wx)
    (HF : ∀ wx, Calls Tryz.prog 83 #[.string nm] wx fun e w' => ∃ b, e = .returned (fnM b) ∧ Many K b w' ∧ Below wx.heap.size wx w')
    (h1 : 1 ≤ ts.length) (h2 : ts.length ≤ 200) (h6 : ∀ (i : Nat) t', ts[i]? = some t' → t'.kd ≠ 6) (X : Nat → It) (hX : ∀ i, i < ts.length → (X i).b = false)
    (HC : ∀ (i : Nat) u t', ts[i]? = some t' → fm.Nd w P u t' → ev.Wo w mb u (X i).k (X i).n (X i).s)
    (z : V3) (HW : ∀ wx v base, wx.ownsRow base 3 1 v (ovN trV ctT (upto X ts.length)).length ((ovN trV ctT (upto X ts.length)).map (Value.int .i64)) → Calls Tryz.prog K #[v] wx fun e w' => e = .returned (VV z.k z.n z.s) ∧ Below wx.heap.size wx w') :
    ev.Wo w mb v (fb (upto X ts.length) z).k (fb (upto X ts.length) z).n (fb (upto X ts.length) z).s := by
  intro w1 hbw
  cases hN with | @mk k0 n0 s0 r t' p q cc us ts' hk hlen hs =>
  have hq : q = ts.length := by have := hk.1; omega
  subst hq
  refine ev.wo_call (some mb) nm p ts.length cc _ _ _ w1 (fun wx hx => ?_)
  have hbx := bnext hbw hx hbw.size
  refine call_many (some mb) nm p ts.length (by omega) (by omega) K cc (fb (upto X ts.length) z) wx HF (fun b wy hM hy => ?_)
  have hby := bnext hbx hy hbx.size
  obtain ⟨pc, pr, pw, hb1, hc, hr, hw⟩ := hM
  refine many1_any (.map (some mb)) p ts.length cc b pc pr pw _ wy hb1 (fun wz Bc hBc hz => ?_)
  have hbz := bnext hby hz hby.size
  exact over_tr trV (upto X ts.length) (by rw [upto_len]; omega) #[.pointer (some ⟨Bc, 0, none⟩)] K pc pr pw (fb (upto X ts.length) z) wz ((hz.block _ hc.lt).trans hc) ((hz.block _ hr.lt).trans hr) ((hz.block _ hw.lt).trans hw) hEn
    (items_stops 4 (by omega) (.map (some mb)) p ts.length cc (by omega) X wz Bc hBc hX
      (fun i wu hi hu => grid_no hk hlen hs (.map (some mb)) i hi (h6 i) wu (bnext hbz hu hbz.size))
      (fun i wu hi hu => ev.value_any hk hlen hs (.map (some mb)) i hi _ _ _ (fun wt u hus hbu => HC i u _ (List.getElem?_eq_getElem hi) (hs i u _ hus (List.getElem?_eq_getElem hi)) wt hbu) wu (bnext hbz hu hbz.size)))
    (fun k n s wu => ev.isBad_any k n s wu) (fun k wu => counts_any k wu) (fun k n s wu hu => truth_all k n s wu (hE.next (bnext hbz hu hbz.size)).f.env)
    (fun pre x hp hg hx => fb_bad hp hg hx)
    (fun hg wu v hu hv => by rw [fb_good hg]; exact HW wu v _ hv)
theorem ntV_bad {k m : Int} {z : ByteArray} (h : (k == 4) = true) : ntV k m z = ⟨k, m, z⟩ := by
  have e : k = 4 := by simpa using h
  subst e
  rfl
abbrev nmNot : ByteArray := ⟨#[78, 79, 84]⟩
abbrev nmAnd : ByteArray := ⟨#[65, 78, 68]⟩
abbrev nmOr : ByteArray := ⟨#[79, 82]⟩
abbrev nmIf : ByteArray := ⟨#[73, 70]⟩
set_option maxHeartbeats 1600000 in
theorem wo_not {w : World} {P : Nat → Prop} {v : Value} {mb : Nat} {a : fm.T} (hN : fm.Nd w P v (.nd 9 0 nmNot .z .z [a])) (hE : fm.EnvW w) (k m : Int) (z : ByteArray) (HC : ∀ u, fm.Nd w P u a → ev.Wo w mb u k m z) :
    ev.Wo w mb v (ntV k m z).k (ntV k m z).n (ntV k m z).s := by
  intro w1 hbw
  cases hN with | @mk k0 n0 s0 r t' p q cc us ts' hk hlen hs =>
  have hq : q = 1 := by have := hk.1; simp at hlen; omega
  subst hq
  refine ev.wo_call (some mb) nmNot p 1 cc _ _ _ w1 (fun wx hx => ?_)
  have hbx := bnext hbw hx hbw.size
  refine call_not (some mb) nmNot p cc (ntV k m z) wx functionOf_not (fun p' q' wy hT hy => ?_)
  have hby := bnext hbx hy hbx.size
  have HV : ∀ wu, Below wy.heap.size wy wu → Calls Tryz.prog 243 #[.agg #[.map (some mb), .slice p 1 cc], .int .i64 0] wu fun e w' => e = .returned (VV k m z) ∧ Below wu.heap.size wu w' := fun wu hu =>
    ev.value_any hk hlen hs (.map (some mb)) 0 (by omega) k m z (fun wt u hus hbu => HC u (hs 0 u _ hus rfl) wt hbu) wu (bnext hby hu hby.size)
  cases h4 : (k == 4) with
  | true =>
    rw [ntV_bad h4]
    exact taking1_bad (.map (some mb)) p 1 cc ⟨#[118]⟩ 175 p' q' k m z h4 wy hT (fun wu hu => args_vbad (.map (some mb)) p cc wu k m z h4 (fun wt ht => HV wt (bnext hu ht hu.size)))
  | false =>
    refine ev.taking1_any (.map (some mb)) p 1 cc ⟨#[118]⟩ 175 p' q' (fun cs => cs 0 0 = .int .i64 k ∧ cs 0 1 = .int .i64 m ∧ cs 0 2 = .string z) _ _ _ wy hT (ev.enters Tryz.func175 (by kernel_rfl) (by kernel_rfl)) (fun wu hu => ?_) (fun wu A cs hA hF hu => ?_)
    · exact args_v (.map (some mb)) p cc wu k m z h4 (fun wt ht => HV wt (bnext hu ht hu.size))
    · exact notA k m z wu (hE.next (bnext hby hu hby.size)).f.env A cs hA hF.1 hF.2.1 hF.2.2
/-- What IF chooses. -/
def ifV (a b c : V3) : V3 := if ((trV a.k a.n a.s).k == 4) = true then trV a.k a.n a.s else if ((trV a.k a.n a.s).n == 1) = true then b else c
set_option maxHeartbeats 1600000 in
theorem wo_if {w : World} {P : Nat → Prop} {v : Value} {mb : Nat} {ta tb tc : fm.T} (hN : fm.Nd w P v (.nd 9 0 nmIf .z .z [ta, tb, tc])) (hE : fm.EnvW w) (a b c : V3) (HA : ∀ u, fm.Nd w P u ta → ev.Wo w mb u a.k a.n a.s) (HB : ∀ u, fm.Nd w P u tb → ev.Wo w mb u b.k b.n b.s) (HC : ∀ u, fm.Nd w P u tc → ev.Wo w mb u c.k c.n c.s) :
    ev.Wo w mb v (ifV a b c).k (ifV a b c).n (ifV a b c).s := by
  intro w1 hbw
  cases hN with | @mk k0 n0 s0 r t' p q cc us ts' hk hlen hs =>
  have hq : q = 3 := by have := hk.1; simp at hlen; omega
  subst hq
  refine ev.wo_call (some mb) nmIf p 3 cc _ _ _ w1 (fun wx hx => ?_)
  have hbx := bnext hbw hx hbw.size
  refine call_if (some mb) nmIf p cc (ifV a b c) wx functionOf_if (fun wy hy => ?_)
  have hby := bnext hbx hy hbx.size
  obtain ⟨X, hX0, hX1, hX2⟩ : ∃ X : Nat → It, X 0 = ⟨a.k, a.n, a.s, false⟩ ∧ X 1 = ⟨b.k, b.n, b.s, false⟩ ∧ X 2 = ⟨c.k, c.n, c.s, false⟩ := ⟨fun i => match i with | 0 => ⟨a.k, a.n, a.s, false⟩ | 1 => ⟨b.k, b.n, b.s, false⟩ | _ => ⟨c.k, c.n, c.s, false⟩, rfl, rfl, rfl⟩
  have HV : ∀ (i : Nat) wu, i < 3 → Below wy.heap.size wy wu → Calls Tryz.prog 243 #[.agg #[.map (some mb), .slice p 3 cc], .int .i64 i] wu fun e w' => e = .returned (VV (X i).k (X i).n (X i).s) ∧ Below wu.heap.size wu w' := fun i wu hi hu => by
    refine ev.value_any hk hlen hs (.map (some mb)) i hi _ _ _ (fun wt u hus hbu => ?_) wu (bnext hby hu hby.size)
    match i, hi, hus with
    | 0, _, hus => rw [hX0]; exact HA u (hs 0 u _ hus rfl) wt hbu
    | 1, _, hus => rw [hX1]; exact HB u (hs 1 u _ hus rfl) wt hbu
    | 2, _, hus => rw [hX2]; exact HC u (hs 2 u _ hus rfl) wt hbu
  have hEy := (hE.next hby).f.env
  have hr : trV (X 0).k (X 0).n (X 0).s = trV a.k a.n a.s := by rw [hX0]
  unfold ifV
  cases h4 : ((trV a.k a.n a.s).k == 4) with
  | true => exact choose_bad (.map (some mb)) p cc X _ wy hEy hr h4 HV
  | false =>
    cases h1 : ((trV a.k a.n a.s).n == 1) with
    | true =>
      have := choose_one (.map (some mb)) p cc X _ wy hEy hr h4 h1 HV
      rw [hX1] at this
      exact this
    | false =>
      have := choose_two (.map (some mb)) p cc X _ wy hEy hr h4 h1 HV
      rw [hX2] at this
      exact this
/-- What AND, OR of some truths come to. -/
def andV (X : Nat → It) (n : Nat) : V3 := fb (upto X n) ⟨3, b2I (!(ovN trV ctT (upto X n)).contains 0), nul⟩
def orV (X : Nat → It) (n : Nat) : V3 := fb (upto X n) ⟨3, b2I ((ovN trV ctT (upto X n)).contains 1), nul⟩
theorem ov_upto {X : Nat → It} {n : Nat} (hX : ∀ i, i < n → (X i).b = false) : ovN trV ctT (upto X n) = (List.range n).map fun i => (trV (X i).k (X i).n (X i).s).n := by
  induction n with
  | zero => rfl
  | succ n ih =>
    rw [upto_succ, ovN_take (by unfold skp; rw [hX n (by omega)]; rfl), ih (fun i hi => hX i (by omega)), List.range_succ, List.map_append]
    rfl
theorem wo_and {w : World} {P : Nat → Prop} {v : Value} {mb : Nat} {ts : List fm.T} (hN : fm.Nd w P v (.nd 9 0 nmAnd .z .z ts)) (hE : fm.EnvW w)
    (h1 : 1 ≤ ts.length) (h2 : ts.length ≤ 200) (h6 : ∀ (i : Nat) t', ts[i]? = some t' → t'.kd ≠ 6) (X : Nat → It) (hX : ∀ i, i < ts.length → (X i).b = false)
    (HC : ∀ (i : Nat) u t', ts[i]? = some t' → fm.Nd w P u t' → ev.Wo w mb u (X i).k (X i).n (X i).s) :
    ev.Wo w mb v (andV X ts.length).k (andV X ts.length).n (andV X ts.length).s :=
  wo_many hN hE 163 (ev.enters Tryz.func163 (by kernel_rfl) (by kernel_rfl)) functionOf_and h1 h2 h6 X hX HC _ (fun wx v base hv => all_any _ (by rw [ov_upto hX]; intro e; have := congrArg List.length e; simp only [List.length_map, List.length_range, List.length_nil] at this; omega) base v wx hv (by rw [ov_upto hX]; simp; omega))
theorem wo_or {w : World} {P : Nat → Prop} {v : Value} {mb : Nat} {ts : List fm.T} (hN : fm.Nd w P v (.nd 9 0 nmOr .z .z ts)) (hE : fm.EnvW w)
    (h1 : 1 ≤ ts.length) (h2 : ts.length ≤ 200) (h6 : ∀ (i : Nat) t', ts[i]? = some t' → t'.kd ≠ 6) (X : Nat → It) (hX : ∀ i, i < ts.length → (X i).b = false)
    (HC : ∀ (i : Nat) u t', ts[i]? = some t' → fm.Nd w P u t' → ev.Wo w mb u (X i).k (X i).n (X i).s) :
    ev.Wo w mb v (orV X ts.length).k (orV X ts.length).n (orV X ts.length).s :=
  wo_many hN hE 164 (ev.enters Tryz.func164 (by kernel_rfl) (by kernel_rfl)) functionOf_or h1 h2 h6 X hX HC _ (fun wx v base hv => some_any _ (by rw [ov_upto hX]; intro e; have := congrArg List.length e; simp only [List.length_map, List.length_range, List.length_nil] at this; omega) base v wx hv (by rw [ov_upto hX]; simp; omega))
end Go.Proofs.YtoaejcppfmjhdaaGreatDoor.ov
/- Plain facts: NOT of AND is OR of all NOTs; what IF chooses. No program is walked here. -/
namespace Go.Proofs.YtoaejcppfmjhdaaGreatDoor.ov
open Go.RowKit
open ev (VV b2I)
theorem rd_truth {s : ByteArray} (h : (rd s).1 = 3) : ((rd s).2.1 = 0 ∨ (rd s).2.1 = 1) ∧ (rd s).2.2 = nul := by
  unfold rd at h ⊢
  split at h
  · simp at h
  rename_i h0
  rw [if_neg h0]
  split at h
  · simp at h
  rename_i h1
  rw [if_neg h1]
  split at h
  · simp at h
  rename_i h2
  try rw [h2]
  try dsimp only
  split at h
  · rename_i h3; rw [if_pos h3]; exact ⟨.inr rfl, rfl⟩
  rename_i h3
  rw [if_neg h3]
  split at h
  · rename_i h4; rw [if_pos h4]; exact ⟨.inl rfl, rfl⟩
  split at h <;> simp at h
theorem tr3 (n : Int) (s : ByteArray) : trV 3 n s = ⟨3, n, s⟩ := rfl
theorem tr4 (n : Int) (s : ByteArray) : trV 4 n s = ⟨4, n, s⟩ := rfl
theorem b2I_01 (b : Bool) : b2I b = 0 ∨ b2I b = 1 := by cases b <;> simp [b2I]
theorem tr_shape {k n : Int} {s : ByteArray} (h : vv.isVal k n s = true) : (trV k n s).k = 4 ∨ ((trV k n s).k = 3 ∧ ((trV k n s).n = 0 ∨ (trV k n s).n = 1) ∧ (trV k n s).s = nul) := by
  unfold trV
  by_cases h3 : (k == 3) = true
  · rw [if_pos h3]
    have e : k = 3 := by simpa using h3
    subst e
    right
    simp [vv.isVal] at h
    refine ⟨rfl, ?_, ?_⟩
    · rcases h.1 with h | h
      · exact .inl h
      · exact .inr h
    · exact toList_nil (by simpa using h.2)
  rw [if_neg h3]
  by_cases h4 : (k == 4) = true
  · rw [if_pos h4]; left; simpa using h4
  rw [if_neg h4]
  by_cases h0 : (k == 0) = true
  · rw [if_pos h0]; exact .inr ⟨rfl, .inl rfl, rfl⟩
  rw [if_neg h0]
  by_cases h1 : (k == 1) = true
  · rw [if_pos h1]; exact .inr ⟨rfl, b2I_01 _, rfl⟩
  rw [if_neg h1]
  by_cases h2 : (k == 2) = true
  · rw [if_pos h2]
    unfold txT
    by_cases hr : ((rd s).1 == 3) = true
    · rw [if_pos hr]
      have e : (rd s).1 = 3 := by simpa using hr
      obtain ⟨q1, q2⟩ := rd_truth e
      exact .inr ⟨e, q1, q2⟩
    · rw [if_neg hr]; exact .inl rfl
  · rw [if_neg h2]; exact .inl rfl
theorem v3_eq {a : V3} {k n : Int} {s : ByteArray} (h1 : a.k = k) (h2 : a.n = n) (h3 : a.s = s) : a = ⟨k, n, s⟩ := by
  cases a; dsimp only at h1 h2 h3; subst h1 h2 h3; rfl
/-- A value, not in a box. -/
def Xi (k m : Nat → Int) (z : Nat → ByteArray) (i : Nat) : It := ⟨k i, m i, z i, false⟩
def Yi (k m : Nat → Int) (z : Nat → ByteArray) (i : Nat) : It := ⟨(ntV (k i) (m i) (z i)).k, (ntV (k i) (m i) (z i)).n, (ntV (k i) (m i) (z i)).s, false⟩
/-- Is one of the first ones no truth? -/
def badT (k m : Nat → Int) (z : Nat → ByteArray) : Nat → Bool
  | 0 => false
  | n + 1 => badT k m z n || (trV (k n) (m n) (z n)).k == 4
theorem badT_no {k m : Nat → Int} {z : Nat → ByteArray} {n : Nat} (h : badT k m z n = false) : ∀ i, i < n → ((trV (k i) (m i) (z i)).k == 4) = false := by
  induction n with
  | zero => intro i hi; omega
  | succ n ih =>
    intro i hi
    simp only [badT, Bool.or_eq_false_iff] at h
    by_cases e : i = n
    · subst e; exact h.2
    · exact ih h.1 i (by omega)
theorem badT_yes {k m : Nat → Int} {z : Nat → ByteArray} {n : Nat} (h : badT k m z n = true) : ∃ j, j < n ∧ ((trV (k j) (m j) (z j)).k == 4) = true ∧ ∀ i, i < j → ((trV (k i) (m i) (z i)).k == 4) = false := by
  induction n with
  | zero => simp [badT] at h
  | succ n ih =>
    cases hb : badT k m z n with
    | true => obtain ⟨j, h1, h2, h3⟩ := ih hb; exact ⟨j, by omega, h2, h3⟩
    | false => simp only [badT, hb, Bool.false_or] at h; exact ⟨n, by omega, h, badT_no hb⟩
theorem good_of {x : It} (hb : x.b = false) : good trV ctT x = !((trV x.k x.n x.s).k == 4) := by
  unfold good skp; rw [hb]; rfl
theorem mem_upto {X : Nat → It} {n : Nat} {y : It} (h : y ∈ upto X n) : ∃ i, i < n ∧ y = X i := by
  unfold upto at h
  obtain ⟨i, hi, rfl⟩ := List.mem_map.1 h
  exact ⟨i, List.mem_range.1 hi, rfl⟩
theorem fb_no {X : Nat → It} {n : Nat} {z : V3} (hX : ∀ i, i < n → (X i).b = false) (h : ∀ i, i < n → ((trV (X i).k (X i).n (X i).s).k == 4) = false) : fb (upto X n) z = z :=
  fb_good (fun y hy => by obtain ⟨i, hi, rfl⟩ := mem_upto hy; rw [good_of (hX i hi), h i hi]; rfl)
theorem fb_yes {X : Nat → It} {n j : Nat} {z : V3} (hX : ∀ i, i < n → (X i).b = false) (hj : j < n) (h4 : ((trV (X j).k (X j).n (X j).s).k == 4) = true) (h : ∀ i, i < j → ((trV (X i).k (X i).n (X i).s).k == 4) = false) : fb (upto X n) z = trV (X j).k (X j).n (X j).s :=
  fb_bad (pre := upto X j) (x := X j) (by rw [← upto_succ]; exact upto_pre X hj) (fun y hy => by obtain ⟨i, hi, rfl⟩ := mem_upto hy; rw [good_of (hX i (by omega)), h i hi]; rfl) (by rw [good_of (hX j hj), h4]; rfl)
section
variable {k m : Nat → Int} {z : Nat → ByteArray} {n : Nat}
theorem and_no (h : badT k m z n = false) : andV (Xi k m z) n = ⟨3, b2I (!((List.range n).map fun i => (trV (k i) (m i) (z i)).n).contains 0), nul⟩ := by
  unfold andV
  rw [fb_no (fun i _ => rfl) (badT_no h), ov_upto (fun i _ => rfl)]
  rfl
theorem and_yes (h : badT k m z n = true) : ∃ j, j < n ∧ andV (Xi k m z) n = trV (k j) (m j) (z j) ∧ (trV (k j) (m j) (z j)).k = 4 := by
  obtain ⟨j, h1, h2, h3⟩ := badT_yes h
  refine ⟨j, h1, ?_, by simpa using h2⟩
  unfold andV
  exact fb_yes (X := Xi k m z) (fun i _ => rfl) h1 h2 h3
theorem nt_no {i : Nat} (h : ((trV (k i) (m i) (z i)).k == 4) = false) : ntV (k i) (m i) (z i) = ⟨3, b2I ((trV (k i) (m i) (z i)).n == 0), nul⟩ := by
  unfold ntV; rw [h]; rfl
theorem nt_yes {i : Nat} (h : ((trV (k i) (m i) (z i)).k == 4) = true) : ntV (k i) (m i) (z i) = trV (k i) (m i) (z i) := by
  unfold ntV; rw [h]; rfl
theorem or_no (h : badT k m z n = false) : orV (Yi k m z) n = ⟨3, b2I (((List.range n).map fun i => (trV (k i) (m i) (z i)).n).contains 0), nul⟩ := by
  have h' := badT_no h
  have e : ∀ i, i < n → trV (Yi k m z i).k (Yi k m z i).n (Yi k m z i).s = ⟨3, b2I ((trV (k i) (m i) (z i)).n == 0), nul⟩ := fun i hi => by
    unfold Yi; rw [nt_no (h' i hi)]; rfl
  unfold orV
  rw [fb_no (X := Yi k m z) (fun i _ => rfl) (fun i hi => by rw [e i hi]; rfl), ov_upto (fun i _ => rfl)]
  congr 2
  rw [Bool.eq_iff_iff, List.contains_iff_mem, List.contains_iff_mem]
  simp only [List.mem_map, List.mem_range]
  constructor
  · rintro ⟨i, hi, q⟩
    refine ⟨i, hi, ?_⟩
    rw [e i hi] at q
    dsimp only at q
    by_cases c : (trV (k i) (m i) (z i)).n = 0
    · exact c
    · rw [show ((trV (k i) (m i) (z i)).n == 0) = false from by simpa using c] at q
      simp [b2I] at q
  · rintro ⟨i, hi, q⟩
    refine ⟨i, hi, ?_⟩
    rw [e i hi, q]
    rfl
theorem or_yes (h : badT k m z n = true) : (orV (Yi k m z) n).k = 4 := by
  obtain ⟨j, h1, h2, h3⟩ := badT_yes h
  have e : ∀ i, i < j → ((trV (Yi k m z i).k (Yi k m z i).n (Yi k m z i).s).k == 4) = false := fun i hi => by
    unfold Yi; rw [nt_no (h3 i hi)]; rfl
  have h4 : (trV (k j) (m j) (z j)).k = 4 := by simpa using h2
  have ej : trV (Yi k m z j).k (Yi k m z j).n (Yi k m z j).s = trV (k j) (m j) (z j) := by
    unfold Yi
    rw [nt_yes h2, h4, tr4]
    exact (v3_eq h4 rfl rfl).symm
  unfold orV
  rw [fb_yes (X := Yi k m z) (j := j) (fun i _ => rfl) h1 (by rw [ej]; exact h2) e, ej]
  exact h4
/-- NOT of AND. -/
def naV (k m : Nat → Int) (z : Nat → ByteArray) (n : Nat) : V3 := ntV (andV (Xi k m z) n).k (andV (Xi k m z) n).n (andV (Xi k m z) n).s
theorem de_no (h : badT k m z n = false) : naV k m z n = orV (Yi k m z) n := by
  unfold naV
  rw [and_no h, or_no h]
  dsimp only
  generalize ((List.range n).map fun i => (trV (k i) (m i) (z i)).n).contains 0 = A
  cases A <;> rfl
theorem de_yes (h : badT k m z n = true) : (naV k m z n).k = 4 ∧ (orV (Yi k m z) n).k = 4 := by
  refine ⟨?_, or_yes h⟩
  obtain ⟨j, -, e, h4⟩ := and_yes h
  unfold naV
  rw [e, ntV_bad (by rw [h4]; rfl)]
  exact h4
theorem if_yes (h : badT k m z n = true) (a b : V3) : (andV (Xi k m z) n).k = 4 ∧ ifV (andV (Xi k m z) n) a b = andV (Xi k m z) n := by
  obtain ⟨j, -, e, h4⟩ := and_yes h
  rw [e]
  refine ⟨h4, ?_⟩
  unfold ifV
  rw [h4, tr4]
  exact (v3_eq h4 rfl rfl).symm
theorem if_no (h : badT k m z n = false) (a b : V3) : (andV (Xi k m z) n).k = 3 ∧ (((andV (Xi k m z) n).n = 1 ∧ ifV (andV (Xi k m z) n) a b = a) ∨ ((andV (Xi k m z) n).n = 0 ∧ ifV (andV (Xi k m z) n) a b = b)) := by
  rw [and_no h]
  generalize ((List.range n).map fun i => (trV (k i) (m i) (z i)).n).contains 0 = A
  refine ⟨rfl, ?_⟩
  cases A
  · exact .inl ⟨rfl, rfl⟩
  · exact .inr ⟨rfl, rfl⟩
end
end Go.Proofs.YtoaejcppfmjhdaaGreatDoor.ov
