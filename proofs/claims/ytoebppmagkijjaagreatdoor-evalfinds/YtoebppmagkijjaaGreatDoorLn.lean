/- Package eval: what is done to arguments that are boxes and values. Conditions: as each theorem says. -/
import Derived.Test.YtoebppmagkijjaaGreatDoorLk
import Derived.Test.YtoebppmagkijjaaGreatDoorLc
import Derived.Test.YtoebppmagkijjaaGreatDoorEs
namespace Go.Proofs.YtoebppmagkijjaaGreatDoor.ev
open Go.RowKit
abbrev KO_indexA (mb : Option Nat) (N : Nat) (x y : Int) (w : World) (A : Nat) (cs : Nat → Nat → Value) (wx : World) : Prop := wx.cell? ⟨A, 5, none⟩ = some (.map mb) ∧ wx.cell? ⟨A, 6, none⟩ = some (.int .i64 1) ∧ wx.cell? ⟨A, 7, none⟩ = some (.int .i64 1) ∧ wx.cell? ⟨A, 8, none⟩ = some (.int .i64 1) ∧ wx.cell? ⟨A, 9, none⟩ = some (.int .i64 (N : Int)) ∧ wx.cell? ⟨A, 13, none⟩ = some (.int .i64 x) ∧ wx.cell? ⟨A, 23, none⟩ = some (.int .i64 y) ∧ AB wx A 3 cs ∧ Below w.heap.size w wx
theorem KO_indexA.of {mb : Option Nat} {N : Nat} {x y : Int} {w : World} {A : Nat} {cs : Nat → Nat → Value} {wx : World} (h0_5 : cs 0 5 = .map mb) (h0_6 : cs 0 6 = .int .i64 1) (h0_7 : cs 0 7 = .int .i64 1) (h0_8 : cs 0 8 = .int .i64 1) (h0_9 : cs 0 9 = .int .i64 (N : Int)) (h1_3 : cs 1 3 = .int .i64 x) (h2_3 : cs 2 3 = .int .i64 y) (h : AB wx A 3 cs) (hb : Below w.heap.size w wx) : KO_indexA mb N x y w A cs wx := ⟨by have := h.cell (i := 0) (j := 5) (by omega) (by omega); rw [h0_5] at this; simpa using this, by have := h.cell (i := 0) (j := 6) (by omega) (by omega); rw [h0_6] at this; simpa using this, by have := h.cell (i := 0) (j := 7) (by omega) (by omega); rw [h0_7] at this; simpa using this, by have := h.cell (i := 0) (j := 8) (by omega) (by omega); rw [h0_8] at this; simpa using this, by have := h.cell (i := 0) (j := 9) (by omega) (by omega); rw [h0_9] at this; simpa using this, by have := h.cell (i := 1) (j := 3) (by omega) (by omega); rw [h1_3] at this; simpa using this, by have := h.cell (i := 2) (j := 3) (by omega) (by omega); rw [h2_3] at this; simpa using this, h, hb⟩
set_option maxHeartbeats 4000000 in
set_option maxRecDepth 100000 in
theorem indexA (mb : Option Nat) (N : Nat) (x y : Int) (w : World) (A : Nat) (cs : Nat → Nat → Value) (h : AB w A 3 cs) (h0_5 : cs 0 5 = .map mb) (h0_6 : cs 0 6 = .int .i64 1) (h0_7 : cs 0 7 = .int .i64 1) (h0_8 : cs 0 8 = .int .i64 1) (h0_9 : cs 0 9 = .int .i64 (N : Int)) (h1_3 : cs 1 3 = .int .i64 x) (h2_3 : cs 2 3 = .int .i64 y) (k m : Int) (z : ByteArray)
    (HC : Hid (∀ wx, Below w.heap.size w wx → Calls Tryz.prog 204 #[gB mb N, .int .i64 x, .int .i64 y] wx fun e w' => e = .returned (VV k m z) ∧ Below wx.heap.size wx w')) :
    Calls Tryz.prog 203 #[.slice (some ⟨A, 0, none⟩) 3 3] w fun e w' => e = .returned (VV k m z) ∧ Below w.heap.size w w' := by
  have HQ : Hid (∀ w1, Below (w.alloc (.cells #[.int .i64 0, .int .i64 0, .string nul] 31)).heap.size (w.alloc (.cells #[.int .i64 0, .int .i64 0, .string nul] 31)) w1 → w1.heap[w.heap.size]? = some (.cells #[.int .i64 0, .int .i64 0, .string nul] 31 (0, 0)) ∧ Below w.heap.size w w1) := fun w1 hb =>
    ⟨(hb.block w.heap.size (by simp)).trans (heap_alloc_new w _), bnext ((Below.refl w.heap.size w).alloc (Nat.le_refl _) (.cells #[.int .i64 0, .int .i64 0, .string nul] 31)) hb (by simp)⟩
  have hA := h.below ((Below.refl _ _).alloc (Nat.le_refl _) (.cells #[.int .i64 0, .int .i64 0, .string nul] 31))
  have hlt := h.lt
  have kbel : ∀ wx wy, KO_indexA mb N x y w A cs wx → Below wx.heap.size wx wy → KO_indexA mb N x y w A cs wy := fun wx wy q hb => KO_indexA.of h0_5 h0_6 h0_7 h0_8 h0_9 h1_3 h2_3 (q.2.2.2.2.2.2.2.1.below hb) (bnext q.2.2.2.2.2.2.2.2 hb q.2.2.2.2.2.2.2.2.size)
  have kset : ∀ wx u0 u1 u2, KO_indexA mb N x y w A cs wx → KO_indexA mb N x y w A cs (((wx.setCell ⟨w.heap.size, 0, none⟩ u0).setCell ⟨w.heap.size, 1, none⟩ u1).setCell ⟨w.heap.size, 2, none⟩ u2) := fun wx u0 u1 u2 q => KO_indexA.of h0_5 h0_6 h0_7 h0_8 h0_9 h1_3 h2_3
    (by obtain ⟨arr, t, q1, q2⟩ := q.2.2.2.2.2.2.2.1; exact ⟨arr, t, (by rw [blk_else (by omega), blk_else (by omega), blk_else (by omega)]; exact q1), q2⟩) (((q.2.2.2.2.2.2.2.2.setCell (Nat.le_refl _) _).setCell (Nat.le_refl _) _).setCell (Nat.le_refl _) _)
  have hst : KO_indexA mb N x y w A cs (w.alloc (.cells #[.int .i64 0, .int .i64 0, .string nul] 31)) := KO_indexA.of h0_5 h0_6 h0_7 h0_8 h0_9 h1_3 h2_3 hA ((Below.refl _ _).alloc (Nat.le_refl _) _)
  have h0d := kbel _ _ hst (Below.refl _ _).drew
  have hb0 : Below (w.alloc (.cells #[.int .i64 0, .int .i64 0, .string nul] 31)).heap.size (w.alloc (.cells #[.int .i64 0, .int .i64 0, .string nul] 31)) (w.alloc (.cells #[.int .i64 0, .int .i64 0, .string nul] 31)).drew := (Below.refl _ _).drew
  obtain ⟨q0_5, q0_6, q0_7, q0_8, q0_9, q1_3, q2_3, -, -⟩ := hst
  clear hA h
  go_enter Tryz.func203, Tryz.ntmps203
  go_wp2_with fail
  go_region_held3 (fun wx => KO_indexA mb N x y w A cs wx) (first | exact h0d | exact kbel _ _ (by assumption) (by assumption) | exact kset _ _ _ _ (by assumption)) (first | (go_at_call 204; refine (HC.out _ (by exact h0d.2.2.2.2.2.2.2.2)).mono ?_; rintro e w1 ⟨rfl, hb1⟩; obtain ⟨hq1, hb2⟩ := HQ.out w1 (bnext hb0 hb1 hb0.size); have HB : Hid (Below w.heap.size w w1) := hb2; obtain ⟨c0, c1, c2⟩ := cells3v hq1; have f0 : ∀ o, w1.frozen? ⟨w.heap.size, o, none⟩ = false := frz hq1))
  all_goals
    have HQ1 : Hid (w1.heap[w.heap.size]? = some (.cells #[.int .i64 0, .int .i64 0, .string nul] 31 (0, 0))) := hq1
    clear hq1 hb1 hb2 HQ h0d hb0 kbel kset HC
    go_wp2_with fail
    refine fin3 HQ1.out (Q := bodyPost _ _ _ _ _) ?_
    clear c0 c1 c2 f0
    intro w2 hq2 hk2
    obtain ⟨d0, d1, d2⟩ := cells3v hq2
    exact bodyPost_ret (v := VV k m z) (by simp [results, Tryz.results203, go_sem, d0, d1, d2]) rfl ⟨rfl, HB.out.trans (hk2 _ (Nat.le_refl _))⟩
abbrev KO_matchA (mb : Option Nat) (N : Nat) (k' n' : Int) (s' : ByteArray) (w : World) (A : Nat) (cs : Nat → Nat → Value) (wx : World) : Prop := wx.cell? ⟨A, 0, none⟩ = some (.int .i64 k') ∧ wx.cell? ⟨A, 1, none⟩ = some (.int .i64 n') ∧ wx.cell? ⟨A, 2, none⟩ = some (.string s') ∧ wx.cell? ⟨A, 15, none⟩ = some (.map mb) ∧ wx.cell? ⟨A, 16, none⟩ = some (.int .i64 1) ∧ wx.cell? ⟨A, 17, none⟩ = some (.int .i64 1) ∧ wx.cell? ⟨A, 18, none⟩ = some (.int .i64 1) ∧ wx.cell? ⟨A, 19, none⟩ = some (.int .i64 (N : Int)) ∧ AB wx A 2 cs ∧ Below w.heap.size w wx
theorem KO_matchA.of {mb : Option Nat} {N : Nat} {k' n' : Int} {s' : ByteArray} {w : World} {A : Nat} {cs : Nat → Nat → Value} {wx : World} (h0_0 : cs 0 0 = .int .i64 k') (h0_1 : cs 0 1 = .int .i64 n') (h0_2 : cs 0 2 = .string s') (h1_5 : cs 1 5 = .map mb) (h1_6 : cs 1 6 = .int .i64 1) (h1_7 : cs 1 7 = .int .i64 1) (h1_8 : cs 1 8 = .int .i64 1) (h1_9 : cs 1 9 = .int .i64 (N : Int)) (h : AB wx A 2 cs) (hb : Below w.heap.size w wx) : KO_matchA mb N k' n' s' w A cs wx := ⟨by have := h.cell (i := 0) (j := 0) (by omega) (by omega); rw [h0_0] at this; simpa using this, by have := h.cell (i := 0) (j := 1) (by omega) (by omega); rw [h0_1] at this; simpa using this, by have := h.cell (i := 0) (j := 2) (by omega) (by omega); rw [h0_2] at this; simpa using this, by have := h.cell (i := 1) (j := 5) (by omega) (by omega); rw [h1_5] at this; simpa using this, by have := h.cell (i := 1) (j := 6) (by omega) (by omega); rw [h1_6] at this; simpa using this, by have := h.cell (i := 1) (j := 7) (by omega) (by omega); rw [h1_7] at this; simpa using this, by have := h.cell (i := 1) (j := 8) (by omega) (by omega); rw [h1_8] at this; simpa using this, by have := h.cell (i := 1) (j := 9) (by omega) (by omega); rw [h1_9] at this; simpa using this, h, hb⟩
set_option maxHeartbeats 4000000 in
set_option maxRecDepth 100000 in
theorem matchA (mb : Option Nat) (N : Nat) (k' n' : Int) (s' : ByteArray) (w : World) (A : Nat) (cs : Nat → Nat → Value) (h : AB w A 2 cs) (h0_0 : cs 0 0 = .int .i64 k') (h0_1 : cs 0 1 = .int .i64 n') (h0_2 : cs 0 2 = .string s') (h1_5 : cs 1 5 = .map mb) (h1_6 : cs 1 6 = .int .i64 1) (h1_7 : cs 1 7 = .int .i64 1) (h1_8 : cs 1 8 = .int .i64 1) (h1_9 : cs 1 9 = .int .i64 (N : Int)) (k m : Int) (z : ByteArray)
    (HC : Hid (∀ wx, Below w.heap.size w wx → Calls Tryz.prog 206 #[VV k' n' s', gB mb N] wx fun e w' => e = .returned (VV k m z) ∧ Below wx.heap.size wx w')) :
    Calls Tryz.prog 205 #[.slice (some ⟨A, 0, none⟩) 2 2] w fun e w' => e = .returned (VV k m z) ∧ Below w.heap.size w w' := by
  have HQ : Hid (∀ w1, Below (w.alloc (.cells #[.int .i64 0, .int .i64 0, .string nul] 31)).heap.size (w.alloc (.cells #[.int .i64 0, .int .i64 0, .string nul] 31)) w1 → w1.heap[w.heap.size]? = some (.cells #[.int .i64 0, .int .i64 0, .string nul] 31 (0, 0)) ∧ Below w.heap.size w w1) := fun w1 hb =>
    ⟨(hb.block w.heap.size (by simp)).trans (heap_alloc_new w _), bnext ((Below.refl w.heap.size w).alloc (Nat.le_refl _) (.cells #[.int .i64 0, .int .i64 0, .string nul] 31)) hb (by simp)⟩
  have hA := h.below ((Below.refl _ _).alloc (Nat.le_refl _) (.cells #[.int .i64 0, .int .i64 0, .string nul] 31))
  have hlt := h.lt
  have kbel : ∀ wx wy, KO_matchA mb N k' n' s' w A cs wx → Below wx.heap.size wx wy → KO_matchA mb N k' n' s' w A cs wy := fun wx wy q hb => KO_matchA.of h0_0 h0_1 h0_2 h1_5 h1_6 h1_7 h1_8 h1_9 (q.2.2.2.2.2.2.2.2.1.below hb) (bnext q.2.2.2.2.2.2.2.2.2 hb q.2.2.2.2.2.2.2.2.2.size)
  have kset : ∀ wx u0 u1 u2, KO_matchA mb N k' n' s' w A cs wx → KO_matchA mb N k' n' s' w A cs (((wx.setCell ⟨w.heap.size, 0, none⟩ u0).setCell ⟨w.heap.size, 1, none⟩ u1).setCell ⟨w.heap.size, 2, none⟩ u2) := fun wx u0 u1 u2 q => KO_matchA.of h0_0 h0_1 h0_2 h1_5 h1_6 h1_7 h1_8 h1_9
    (by obtain ⟨arr, t, q1, q2⟩ := q.2.2.2.2.2.2.2.2.1; exact ⟨arr, t, (by rw [blk_else (by omega), blk_else (by omega), blk_else (by omega)]; exact q1), q2⟩) (((q.2.2.2.2.2.2.2.2.2.setCell (Nat.le_refl _) _).setCell (Nat.le_refl _) _).setCell (Nat.le_refl _) _)
  have hst : KO_matchA mb N k' n' s' w A cs (w.alloc (.cells #[.int .i64 0, .int .i64 0, .string nul] 31)) := KO_matchA.of h0_0 h0_1 h0_2 h1_5 h1_6 h1_7 h1_8 h1_9 hA ((Below.refl _ _).alloc (Nat.le_refl _) _)
  have h0d := kbel _ _ hst (Below.refl _ _).drew
  have hb0 : Below (w.alloc (.cells #[.int .i64 0, .int .i64 0, .string nul] 31)).heap.size (w.alloc (.cells #[.int .i64 0, .int .i64 0, .string nul] 31)) (w.alloc (.cells #[.int .i64 0, .int .i64 0, .string nul] 31)).drew := (Below.refl _ _).drew
  obtain ⟨q0_0, q0_1, q0_2, q1_5, q1_6, q1_7, q1_8, q1_9, -, -⟩ := hst
  clear hA h
  go_enter Tryz.func205, Tryz.ntmps205
  go_wp2_with fail
  go_region_held3 (fun wx => KO_matchA mb N k' n' s' w A cs wx) (first | exact h0d | exact kbel _ _ (by assumption) (by assumption) | exact kset _ _ _ _ (by assumption)) (first | (go_at_call 206; refine (HC.out _ (by exact h0d.2.2.2.2.2.2.2.2.2)).mono ?_; rintro e w1 ⟨rfl, hb1⟩; obtain ⟨hq1, hb2⟩ := HQ.out w1 (bnext hb0 hb1 hb0.size); have HB : Hid (Below w.heap.size w w1) := hb2; obtain ⟨c0, c1, c2⟩ := cells3v hq1; have f0 : ∀ o, w1.frozen? ⟨w.heap.size, o, none⟩ = false := frz hq1))
  all_goals
    have HQ1 : Hid (w1.heap[w.heap.size]? = some (.cells #[.int .i64 0, .int .i64 0, .string nul] 31 (0, 0))) := hq1
    clear hq1 hb1 hb2 HQ h0d hb0 kbel kset HC
    go_wp2_with fail
    refine fin3 HQ1.out (Q := bodyPost _ _ _ _ _) ?_
    clear c0 c1 c2 f0
    intro w2 hq2 hk2
    obtain ⟨d0, d1, d2⟩ := cells3v hq2
    exact bodyPost_ret (v := VV k m z) (by simp [results, Tryz.results205, go_sem, d0, d1, d2]) rfl ⟨rfl, HB.out.trans (hk2 _ (Nat.le_refl _))⟩
abbrev KO_lookupA (mb : Option Nat) (N : Nat) (k' n' : Int) (s' : ByteArray) (x : Int) (w : World) (A : Nat) (cs : Nat → Nat → Value) (wx : World) : Prop := wx.cell? ⟨A, 0, none⟩ = some (.int .i64 k') ∧ wx.cell? ⟨A, 1, none⟩ = some (.int .i64 n') ∧ wx.cell? ⟨A, 2, none⟩ = some (.string s') ∧ wx.cell? ⟨A, 15, none⟩ = some (.map mb) ∧ wx.cell? ⟨A, 16, none⟩ = some (.int .i64 1) ∧ wx.cell? ⟨A, 17, none⟩ = some (.int .i64 1) ∧ wx.cell? ⟨A, 18, none⟩ = some (.int .i64 1) ∧ wx.cell? ⟨A, 19, none⟩ = some (.int .i64 (N : Int)) ∧ wx.cell? ⟨A, 23, none⟩ = some (.int .i64 x) ∧ AB wx A 3 cs ∧ Below w.heap.size w wx
theorem KO_lookupA.of {mb : Option Nat} {N : Nat} {k' n' : Int} {s' : ByteArray} {x : Int} {w : World} {A : Nat} {cs : Nat → Nat → Value} {wx : World} (h0_0 : cs 0 0 = .int .i64 k') (h0_1 : cs 0 1 = .int .i64 n') (h0_2 : cs 0 2 = .string s') (h1_5 : cs 1 5 = .map mb) (h1_6 : cs 1 6 = .int .i64 1) (h1_7 : cs 1 7 = .int .i64 1) (h1_8 : cs 1 8 = .int .i64 1) (h1_9 : cs 1 9 = .int .i64 (N : Int)) (h2_3 : cs 2 3 = .int .i64 x) (h : AB wx A 3 cs) (hb : Below w.heap.size w wx) : KO_lookupA mb N k' n' s' x w A cs wx := ⟨by have := h.cell (i := 0) (j := 0) (by omega) (by omega); rw [h0_0] at this; simpa using this, by have := h.cell (i := 0) (j := 1) (by omega) (by omega); rw [h0_1] at this; simpa using this, by have := h.cell (i := 0) (j := 2) (by omega) (by omega); rw [h0_2] at this; simpa using this, by have := h.cell (i := 1) (j := 5) (by omega) (by omega); rw [h1_5] at this; simpa using this, by have := h.cell (i := 1) (j := 6) (by omega) (by omega); rw [h1_6] at this; simpa using this, by have := h.cell (i := 1) (j := 7) (by omega) (by omega); rw [h1_7] at this; simpa using this, by have := h.cell (i := 1) (j := 8) (by omega) (by omega); rw [h1_8] at this; simpa using this, by have := h.cell (i := 1) (j := 9) (by omega) (by omega); rw [h1_9] at this; simpa using this, by have := h.cell (i := 2) (j := 3) (by omega) (by omega); rw [h2_3] at this; simpa using this, h, hb⟩
set_option maxHeartbeats 4000000 in
set_option maxRecDepth 100000 in
theorem lookupA (mb : Option Nat) (N : Nat) (k' n' : Int) (s' : ByteArray) (x : Int) (w : World) (A : Nat) (cs : Nat → Nat → Value) (h : AB w A 3 cs) (h0_0 : cs 0 0 = .int .i64 k') (h0_1 : cs 0 1 = .int .i64 n') (h0_2 : cs 0 2 = .string s') (h1_5 : cs 1 5 = .map mb) (h1_6 : cs 1 6 = .int .i64 1) (h1_7 : cs 1 7 = .int .i64 1) (h1_8 : cs 1 8 = .int .i64 1) (h1_9 : cs 1 9 = .int .i64 (N : Int)) (h2_3 : cs 2 3 = .int .i64 x) (k m : Int) (z : ByteArray)
    (HC : Hid (∀ wx, Below w.heap.size w wx → Calls Tryz.prog 208 #[VV k' n' s', gB mb N, .int .i64 x] wx fun e w' => e = .returned (VV k m z) ∧ Below wx.heap.size wx w')) :
    Calls Tryz.prog 207 #[.slice (some ⟨A, 0, none⟩) 3 3] w fun e w' => e = .returned (VV k m z) ∧ Below w.heap.size w w' := by
  have HQ : Hid (∀ w1, Below (w.alloc (.cells #[.int .i64 0, .int .i64 0, .string nul] 31)).heap.size (w.alloc (.cells #[.int .i64 0, .int .i64 0, .string nul] 31)) w1 → w1.heap[w.heap.size]? = some (.cells #[.int .i64 0, .int .i64 0, .string nul] 31 (0, 0)) ∧ Below w.heap.size w w1) := fun w1 hb =>
    ⟨(hb.block w.heap.size (by simp)).trans (heap_alloc_new w _), bnext ((Below.refl w.heap.size w).alloc (Nat.le_refl _) (.cells #[.int .i64 0, .int .i64 0, .string nul] 31)) hb (by simp)⟩
  have hA := h.below ((Below.refl _ _).alloc (Nat.le_refl _) (.cells #[.int .i64 0, .int .i64 0, .string nul] 31))
  have hlt := h.lt
  have kbel : ∀ wx wy, KO_lookupA mb N k' n' s' x w A cs wx → Below wx.heap.size wx wy → KO_lookupA mb N k' n' s' x w A cs wy := fun wx wy q hb => KO_lookupA.of h0_0 h0_1 h0_2 h1_5 h1_6 h1_7 h1_8 h1_9 h2_3 (q.2.2.2.2.2.2.2.2.2.1.below hb) (bnext q.2.2.2.2.2.2.2.2.2.2 hb q.2.2.2.2.2.2.2.2.2.2.size)
  have kset : ∀ wx u0 u1 u2, KO_lookupA mb N k' n' s' x w A cs wx → KO_lookupA mb N k' n' s' x w A cs (((wx.setCell ⟨w.heap.size, 0, none⟩ u0).setCell ⟨w.heap.size, 1, none⟩ u1).setCell ⟨w.heap.size, 2, none⟩ u2) := fun wx u0 u1 u2 q => KO_lookupA.of h0_0 h0_1 h0_2 h1_5 h1_6 h1_7 h1_8 h1_9 h2_3
    (by obtain ⟨arr, t, q1, q2⟩ := q.2.2.2.2.2.2.2.2.2.1; exact ⟨arr, t, (by rw [blk_else (by omega), blk_else (by omega), blk_else (by omega)]; exact q1), q2⟩) (((q.2.2.2.2.2.2.2.2.2.2.setCell (Nat.le_refl _) _).setCell (Nat.le_refl _) _).setCell (Nat.le_refl _) _)
  have hst : KO_lookupA mb N k' n' s' x w A cs (w.alloc (.cells #[.int .i64 0, .int .i64 0, .string nul] 31)) := KO_lookupA.of h0_0 h0_1 h0_2 h1_5 h1_6 h1_7 h1_8 h1_9 h2_3 hA ((Below.refl _ _).alloc (Nat.le_refl _) _)
  have h0d := kbel _ _ hst (Below.refl _ _).drew
  have hb0 : Below (w.alloc (.cells #[.int .i64 0, .int .i64 0, .string nul] 31)).heap.size (w.alloc (.cells #[.int .i64 0, .int .i64 0, .string nul] 31)) (w.alloc (.cells #[.int .i64 0, .int .i64 0, .string nul] 31)).drew := (Below.refl _ _).drew
  obtain ⟨q0_0, q0_1, q0_2, q1_5, q1_6, q1_7, q1_8, q1_9, q2_3, -, -⟩ := hst
  clear hA h
  go_enter Tryz.func207, Tryz.ntmps207
  go_wp2_with fail
  go_region_held3 (fun wx => KO_lookupA mb N k' n' s' x w A cs wx) (first | exact h0d | exact kbel _ _ (by assumption) (by assumption) | exact kset _ _ _ _ (by assumption)) (first | (go_at_call 208; refine (HC.out _ (by exact h0d.2.2.2.2.2.2.2.2.2.2)).mono ?_; rintro e w1 ⟨rfl, hb1⟩; obtain ⟨hq1, hb2⟩ := HQ.out w1 (bnext hb0 hb1 hb0.size); have HB : Hid (Below w.heap.size w w1) := hb2; obtain ⟨c0, c1, c2⟩ := cells3v hq1; have f0 : ∀ o, w1.frozen? ⟨w.heap.size, o, none⟩ = false := frz hq1))
  all_goals
    have HQ1 : Hid (w1.heap[w.heap.size]? = some (.cells #[.int .i64 0, .int .i64 0, .string nul] 31 (0, 0))) := hq1
    clear hq1 hb1 hb2 HQ h0d hb0 kbel kset HC
    go_wp2_with fail
    refine fin3 HQ1.out (Q := bodyPost _ _ _ _ _) ?_
    clear c0 c1 c2 f0
    intro w2 hq2 hk2
    obtain ⟨d0, d1, d2⟩ := cells3v hq2
    exact bodyPost_ret (v := VV k m z) (by simp [results, Tryz.results207, go_sem, d0, d1, d2]) rfl ⟨rfl, HB.out.trans (hk2 _ (Nat.le_refl _))⟩
abbrev KO_countA (mb : Option Nat) (N : Nat) (k' n' : Int) (s' : ByteArray) (w : World) (A : Nat) (cs : Nat → Nat → Value) (wx : World) : Prop := wx.cell? ⟨A, 5, none⟩ = some (.map mb) ∧ wx.cell? ⟨A, 6, none⟩ = some (.int .i64 1) ∧ wx.cell? ⟨A, 7, none⟩ = some (.int .i64 1) ∧ wx.cell? ⟨A, 8, none⟩ = some (.int .i64 1) ∧ wx.cell? ⟨A, 9, none⟩ = some (.int .i64 (N : Int)) ∧ wx.cell? ⟨A, 10, none⟩ = some (.int .i64 k') ∧ wx.cell? ⟨A, 11, none⟩ = some (.int .i64 n') ∧ wx.cell? ⟨A, 12, none⟩ = some (.string s') ∧ AB wx A 2 cs ∧ Below w.heap.size w wx
theorem KO_countA.of {mb : Option Nat} {N : Nat} {k' n' : Int} {s' : ByteArray} {w : World} {A : Nat} {cs : Nat → Nat → Value} {wx : World} (h0_5 : cs 0 5 = .map mb) (h0_6 : cs 0 6 = .int .i64 1) (h0_7 : cs 0 7 = .int .i64 1) (h0_8 : cs 0 8 = .int .i64 1) (h0_9 : cs 0 9 = .int .i64 (N : Int)) (h1_0 : cs 1 0 = .int .i64 k') (h1_1 : cs 1 1 = .int .i64 n') (h1_2 : cs 1 2 = .string s') (h : AB wx A 2 cs) (hb : Below w.heap.size w wx) : KO_countA mb N k' n' s' w A cs wx := ⟨by have := h.cell (i := 0) (j := 5) (by omega) (by omega); rw [h0_5] at this; simpa using this, by have := h.cell (i := 0) (j := 6) (by omega) (by omega); rw [h0_6] at this; simpa using this, by have := h.cell (i := 0) (j := 7) (by omega) (by omega); rw [h0_7] at this; simpa using this, by have := h.cell (i := 0) (j := 8) (by omega) (by omega); rw [h0_8] at this; simpa using this, by have := h.cell (i := 0) (j := 9) (by omega) (by omega); rw [h0_9] at this; simpa using this, by have := h.cell (i := 1) (j := 0) (by omega) (by omega); rw [h1_0] at this; simpa using this, by have := h.cell (i := 1) (j := 1) (by omega) (by omega); rw [h1_1] at this; simpa using this, by have := h.cell (i := 1) (j := 2) (by omega) (by omega); rw [h1_2] at this; simpa using this, h, hb⟩
set_option maxHeartbeats 4000000 in
set_option maxRecDepth 100000 in
theorem countA (mb : Option Nat) (N : Nat) (k' n' : Int) (s' : ByteArray) (w : World) (A : Nat) (cs : Nat → Nat → Value) (h : AB w A 2 cs) (h0_5 : cs 0 5 = .map mb) (h0_6 : cs 0 6 = .int .i64 1) (h0_7 : cs 0 7 = .int .i64 1) (h0_8 : cs 0 8 = .int .i64 1) (h0_9 : cs 0 9 = .int .i64 (N : Int)) (h1_0 : cs 1 0 = .int .i64 k') (h1_1 : cs 1 1 = .int .i64 n') (h1_2 : cs 1 2 = .string s') (k m : Int) (z : ByteArray)
    (HC : Hid (∀ wx, Below w.heap.size w wx → Calls Tryz.prog 210 #[gB mb N, VV k' n' s'] wx fun e w' => e = .returned (VV k m z) ∧ Below wx.heap.size wx w')) :
    Calls Tryz.prog 209 #[.slice (some ⟨A, 0, none⟩) 2 2] w fun e w' => e = .returned (VV k m z) ∧ Below w.heap.size w w' := by
  have HQ : Hid (∀ w1, Below (w.alloc (.cells #[.int .i64 0, .int .i64 0, .string nul] 31)).heap.size (w.alloc (.cells #[.int .i64 0, .int .i64 0, .string nul] 31)) w1 → w1.heap[w.heap.size]? = some (.cells #[.int .i64 0, .int .i64 0, .string nul] 31 (0, 0)) ∧ Below w.heap.size w w1) := fun w1 hb =>
    ⟨(hb.block w.heap.size (by simp)).trans (heap_alloc_new w _), bnext ((Below.refl w.heap.size w).alloc (Nat.le_refl _) (.cells #[.int .i64 0, .int .i64 0, .string nul] 31)) hb (by simp)⟩
  have hA := h.below ((Below.refl _ _).alloc (Nat.le_refl _) (.cells #[.int .i64 0, .int .i64 0, .string nul] 31))
  have hlt := h.lt
  have kbel : ∀ wx wy, KO_countA mb N k' n' s' w A cs wx → Below wx.heap.size wx wy → KO_countA mb N k' n' s' w A cs wy := fun wx wy q hb => KO_countA.of h0_5 h0_6 h0_7 h0_8 h0_9 h1_0 h1_1 h1_2 (q.2.2.2.2.2.2.2.2.1.below hb) (bnext q.2.2.2.2.2.2.2.2.2 hb q.2.2.2.2.2.2.2.2.2.size)
  have kset : ∀ wx u0 u1 u2, KO_countA mb N k' n' s' w A cs wx → KO_countA mb N k' n' s' w A cs (((wx.setCell ⟨w.heap.size, 0, none⟩ u0).setCell ⟨w.heap.size, 1, none⟩ u1).setCell ⟨w.heap.size, 2, none⟩ u2) := fun wx u0 u1 u2 q => KO_countA.of h0_5 h0_6 h0_7 h0_8 h0_9 h1_0 h1_1 h1_2
    (by obtain ⟨arr, t, q1, q2⟩ := q.2.2.2.2.2.2.2.2.1; exact ⟨arr, t, (by rw [blk_else (by omega), blk_else (by omega), blk_else (by omega)]; exact q1), q2⟩) (((q.2.2.2.2.2.2.2.2.2.setCell (Nat.le_refl _) _).setCell (Nat.le_refl _) _).setCell (Nat.le_refl _) _)
  have hst : KO_countA mb N k' n' s' w A cs (w.alloc (.cells #[.int .i64 0, .int .i64 0, .string nul] 31)) := KO_countA.of h0_5 h0_6 h0_7 h0_8 h0_9 h1_0 h1_1 h1_2 hA ((Below.refl _ _).alloc (Nat.le_refl _) _)
  have h0d := kbel _ _ hst (Below.refl _ _).drew
  have hb0 : Below (w.alloc (.cells #[.int .i64 0, .int .i64 0, .string nul] 31)).heap.size (w.alloc (.cells #[.int .i64 0, .int .i64 0, .string nul] 31)) (w.alloc (.cells #[.int .i64 0, .int .i64 0, .string nul] 31)).drew := (Below.refl _ _).drew
  obtain ⟨q0_5, q0_6, q0_7, q0_8, q0_9, q1_0, q1_1, q1_2, -, -⟩ := hst
  clear hA h
  go_enter Tryz.func209, Tryz.ntmps209
  go_wp2_with fail
  go_region_held3 (fun wx => KO_countA mb N k' n' s' w A cs wx) (first | exact h0d | exact kbel _ _ (by assumption) (by assumption) | exact kset _ _ _ _ (by assumption)) (first | (go_at_call 210; refine (HC.out _ (by exact h0d.2.2.2.2.2.2.2.2.2)).mono ?_; rintro e w1 ⟨rfl, hb1⟩; obtain ⟨hq1, hb2⟩ := HQ.out w1 (bnext hb0 hb1 hb0.size); have HB : Hid (Below w.heap.size w w1) := hb2; obtain ⟨c0, c1, c2⟩ := cells3v hq1; have f0 : ∀ o, w1.frozen? ⟨w.heap.size, o, none⟩ = false := frz hq1))
  all_goals
    have HQ1 : Hid (w1.heap[w.heap.size]? = some (.cells #[.int .i64 0, .int .i64 0, .string nul] 31 (0, 0))) := hq1
    clear hq1 hb1 hb2 HQ h0d hb0 kbel kset HC
    go_wp2_with fail
    refine fin3 HQ1.out (Q := bodyPost _ _ _ _ _) ?_
    clear c0 c1 c2 f0
    intro w2 hq2 hk2
    obtain ⟨d0, d1, d2⟩ := cells3v hq2
    exact bodyPost_ret (v := VV k m z) (by simp [results, Tryz.results209, go_sem, d0, d1, d2]) rfl ⟨rfl, HB.out.trans (hk2 _ (Nat.le_refl _))⟩
end Go.Proofs.YtoebppmagkijjaaGreatDoor.ev
/- Package eval: MATCH, COUNTIF, LOOKUP and INDEX of a column, as nodes. Conditions: as each theorem says. -/
namespace Go.Proofs.YtoebppmagkijjaaGreatDoor.ev
open Go.RowKit
/-- The first of n that is so; n, if none is. -/
def fstB (b : Nat → Bool) : Nat → Nat
  | 0 => 0
  | n + 1 => if fstB b n < n then fstB b n else if b n = true then n else n + 1
theorem fstB_none (b : Nat → Bool) (n : Nat) (h : ∀ i, i < n → b i = false) : fstB b n = n := by
  induction n with
  | zero => rfl
  | succ n ih =>
    have := ih (fun i hi => h i (by omega))
    unfold fstB
    rw [if_neg (by omega), if_neg (by rw [h n (by omega)]; simp)]
theorem fstB_some (b : Nat → Bool) (n j : Nat) (hj : j < n) (h1 : b j = true) (h : ∀ i, i < j → b i = false) : fstB b n = j := by
  induction n with
  | zero => omega
  | succ n ih =>
    unfold fstB
    by_cases e : j < n
    · rw [ih e, if_pos e]
    · have e' : j = n := by omega
      subst e'
      rw [fstB_none b j h, if_neg (by omega), if_pos h1]
abbrev Flds2 (L : ByteArray) (mb : Nat) (k m : Nat → Int) (z : Nat → ByteArray) (G : Nat → Nat → Int) (cs : Nat → Nat → Value) : Prop := ∀ i (h : i < L.size), (L[i].toNat = 98 → (cs i 5 = .map (some mb) ∧ cs i 6 = .int .i64 (G i 0) ∧ cs i 7 = .int .i64 (G i 1) ∧ cs i 8 = .int .i64 (G i 2) ∧ cs i 9 = .int .i64 (G i 3))) ∧ (L[i].toNat ≠ 98 → (cs i 0 = .int .i64 (k i) ∧ cs i 1 = .int .i64 (m i) ∧ cs i 2 = .string (z i))) ∧ (L[i].toNat = 110 → cs i 3 = .int .i64 (m i)) ∧ (L[i].toNat = 116 → cs i 4 = .string (z i))
theorem named2 (mb : Nat) (nm L : ByteArray) (K : Nat) {w0 : World} {P : Nat → Prop} {p : Option Addr} {q c : Nat} {us : List Value} {ts : List fm.T} (hk : fm.Kids w0 P p q c us) (hl : us.length = ts.length) (hs : ∀ (i : Nat) u t', us[i]? = some u → ts[i]? = some t' → fm.Nd w0 P u t')
    (hq : q ≤ 3) (hL : L.size = q) (k m : Nat → Int) (z : Nat → ByteArray) (G : Nat → Nat → Int) (hlet : ∀ i (h : i < L.size), L[i].toNat = 116 ∨ L[i].toNat = 110 ∨ L[i].toNat = 118 ∨ L[i].toNat = 98) (hkk : ∀ i (h : i < L.size), (L[i].toNat = 116 → k i = 2) ∧ (L[i].toNat = 110 → k i = 1) ∧ k i ≠ 4)
    (HF : ∀ wx, Calls Tryz.prog 83 #[.string nm] wx fun e w' => ∃ p q', e = .returned (fnV q p q') ∧ Taking w' L K p q' ∧ Below wx.heap.size wx w') (hE : ∀ v wx, Sem.run Tryz.prog (callFunc K #[v]) wx = .ok (.enter K #[v]) wx)
    (HC : ∀ i (h : i < L.size), L[i].toNat ≠ 98 → ∀ u, us[i]? = some u → ∀ wx, Below w0.heap.size w0 wx → Calls Tryz.prog 29 #[.map (some mb), u] wx fun e w' => e = .returned (VV (k i) (m i) (z i)) ∧ Below wx.heap.size wx w')
    (HG : ∀ i (h : i < L.size), L[i].toNat = 98 → ∃ (r t : fm.Rf) (p1 : Option Addr) (m1 q1 : Nat), us[i]? = some (fm.NV 6 0 nul r t (.slice p1 m1 q1)) ∧ adr.isC r.c r.r = true ∧ adr.isC t.c t.r = true ∧ G i 0 = min r.c t.c ∧ G i 1 = min r.r t.r ∧ G i 2 = max r.c t.c ∧ G i 3 = max r.r t.r)
    (kr mr : Int) (zr : ByteArray) (w : World) (hb : Below w0.heap.size w0 w)
    (HK : ∀ wx A cs, AB wx A q cs → Flds2 L mb k m z G cs → Below w.heap.size w wx → Calls Tryz.prog K #[.slice (some ⟨A, 0, none⟩) q q] wx fun e w' => e = .returned (VV kr mr zr) ∧ Below wx.heap.size wx w') :
    Calls Tryz.prog 29 #[.map (some mb), fm.NV 9 0 nm .z .z (.slice p q c)] w fun e w' => e = .returned (VV kr mr zr) ∧ Below w.heap.size w w' := by
  refine wo_call (some mb) nm p q c kr mr zr w (fun wx hx => ?_)
  have hb1 := bnext hb hx hb.size
  refine call_any (some mb) nm p q c L K (Flds2 L mb k m z G) kr mr zr wx hE HF (fun wy hy => ?_) (fun wy A cs h1 h2 h3 => HK wy A cs h1 h2 (bnext hx h3 hx.size))
  have hb2 := bnext hb1 hy hb1.size
  refine arguments2_any (some mb) p q c L wy hq hL k m z G hlet hkk (fun i hi wz hl' hz => ?_) (fun i hi wz hl' hz => ?_)
  · exact value_any hk hl hs (.map (some mb)) i (by omega) (k i) (m i) (z i) (fun wu u hu hbu => HC i hi hl' u hu wu hbu) wz (bnext hb2 hz hb2.size)
  · obtain ⟨r, t, p1, m1, q1, hu, hr, ht, g0, g1, g2, g3⟩ := HG i hi hl'
    rw [g0, g1, g2, g3]
    exact grid_any hk hl hs (some mb) i (by omega) r t p1 m1 q1 hu hr ht wz (bnext hb2 hz hb2.size)
/-- A look into the map of values. -/
theorem look_of {w wx : World} {mb : Nat} {f : Value → Option Value} (hE : EvW w mb f) (hb : Below w.heap.size w wx) {key v : Value} (h : f key = some v) : (Instr.lookup 68 (.map (some mb)) key false).run Tryz.prog wx = .ok v wx := by
  have hE' := hE.next hb
  obtain ⟨l, hl⟩ : ∃ l, keyOf Tryz.prog 23 key = some l := by
    obtain ⟨es, clock, -, h2, -, h4, -⟩ := hE'.map
    obtain ⟨e0, he0, hek⟩ := h4 _ _ h
    obtain ⟨l, hl⟩ := h2 e0 he0
    rw [hek] at hl
    exact ⟨l, hl⟩
  have := (mp.cm_lookup (et := 31) (mt := 68) key23 under68 (zero31 wx) hE'.map hl).1
  rw [h] at this
  exact this
abbrev tBox (n : Nat) : fm.T := .nd 6 0 nul ⟨1, 1, false, false⟩ ⟨1, (n : Int), false, false⟩ []
abbrev tXr : fm.T := .nd 5 0 nul ⟨2, 1, false, false⟩ .z []
/-- What the column's cells and the wanted value are. -/
structure Col (f : Value → Option Value) (n : Nat) (k m : Nat → Int) (z : Nat → ByteArray) (k' n' : Int) (s' : ByteArray) : Prop where
  at' : ∀ i, i < n → f (.agg #[.int .i64 1, .int .i64 ((i : Int) + 1)]) = some (VV (k i) (m i) (z i))
  want : f (.agg #[.int .i64 2, .int .i64 1]) = some (VV k' n' s')
  good : k' ≠ 4
  lo : 1 ≤ n
  hi : n ≤ 99
theorem kid_box {w : World} {P : Nat → Prop} {us : List Value} {ts : List fm.T} {n i : Nat} (hl : us.length = ts.length) (hs : ∀ (i : Nat) u t', us[i]? = some u → ts[i]? = some t' → fm.Nd w P u t') (hn : 1 ≤ n) (hn2 : n ≤ 99) (ht : ts[i]? = some (tBox n)) (G : Nat → Nat → Int) (hG : G i 0 = 1 ∧ G i 1 = 1 ∧ G i 2 = 1 ∧ G i 3 = (n : Int)) :
    ∃ (r t : fm.Rf) (p1 : Option Addr) (m1 q1 : Nat), us[i]? = some (fm.NV 6 0 nul r t (.slice p1 m1 q1)) ∧ adr.isC r.c r.r = true ∧ adr.isC t.c t.r = true ∧ G i 0 = min r.c t.c ∧ G i 1 = min r.r t.r ∧ G i 2 = max r.c t.c ∧ G i 3 = max r.r t.r := by
  have hi : i < us.length := by have := (List.getElem?_eq_some_iff.1 ht).1; omega
  have hu := List.getElem?_eq_getElem hi
  have hN := hs i _ _ hu ht
  obtain ⟨u, he⟩ : ∃ u, us[i] = u := ⟨_, rfl⟩
  rw [he] at hN hu
  cases hN with
  | @mk k1 n1 s1 ra rb p1 m1 q1 us1 ts1 hk' _ _ =>
    refine ⟨⟨1, 1, false, false⟩, ⟨1, (n : Int), false, false⟩, p1, m1, q1, hu, by decide, ?_, ?_, ?_, ?_, ?_⟩
    · unfold adr.isC; simp; omega
    · rw [hG.1]; rfl
    · rw [hG.2.1]; show (1 : Int) = min 1 (n : Int); omega
    · rw [hG.2.2.1]; rfl
    · rw [hG.2.2.2]; show (n : Int) = max 1 (n : Int); omega
set_option maxHeartbeats 1600000 in
theorem wo_match {f : Value → Option Value} {n : Nat} {k m : Nat → Int} {z : Nat → ByteArray} {k' n' : Int} {s' : ByteArray} (hC : Col f n k m z k' n' s') (w : World) (P : Nat → Prop) (v : Value) (mb : Nat) (hN : fm.Nd w P v (.nd 9 0 ⟨#[77, 65, 84, 67, 72]⟩ .z .z [tXr, tBox n])) (hE : EvW w mb f) :
    Wo w mb v (if (fstB (fun i => eqT (k i) (m i) (z i) k' n' s') n) < n then 1 else 4) (if (fstB (fun i => eqT (k i) (m i) (z i) k' n' s') n) < n then ((fstB (fun i => eqT (k i) (m i) (z i) k' n' s') n) : Int) + 1 else 6) nul := by
  intro w1 hbw
  cases hN with | @mk k0 n0 s0 r t' p q cc us ts hk hlen hs =>
  have hq : q = 2 := by have := hk.1; simp at hlen; omega
  subst hq
  refine named2 mb ⟨#[77, 65, 84, 67, 72]⟩ ⟨#[118, 98]⟩ 205 hk hlen hs (by omega) rfl (fun i => match i with | 0 => k' | _ => 1) (fun i => match i with | 0 => n' | _ => 0) (fun i => match i with | 0 => s' | _ => nul) (fun _ j => match j with | 0 => 1 | 1 => 1 | 2 => 1 | _ => (n : Int)) (fun i h => by
      match i, h with
      | 0, _ => exact .inr (.inr (.inl rfl))
      | 1, _ => exact .inr (.inr (.inr rfl))) (fun i h => by
      match i, h with
      | 0, _ => exact ⟨fun q => by first | rfl | (cases q), fun q => by first | rfl | (cases q), by first | exact hC.good | exact (show (1 : Int) ≠ 4 by decide)⟩
      | 1, _ => exact ⟨fun q => by first | rfl | (cases q), fun q => by first | rfl | (cases q), by first | exact hC.good | exact (show (1 : Int) ≠ 4 by decide)⟩) functionOf_match (enters Tryz.func205 (by kernel_rfl) (by kernel_rfl)) (fun i h hne u hu => by
      match i, h, hne, hu with
      | 0, _, _, hu => exact wo_ev (Ev.ref (f := f) hC.want) w P u mb (hs 0 u _ hu rfl) hE
      | 1, _, hne, _ => exact absurd rfl hne) (fun i h he => by
      match i, h, he with
      | 0, _, he => cases he
      | 1, _, _ => exact kid_box (i := 1) hlen hs hC.lo hC.hi rfl (fun _ j => match j with | 0 => 1 | 1 => 1 | 2 => 1 | _ => (n : Int)) ⟨rfl, rfl, rfl, rfl⟩) _ _ _ w1 hbw (fun wx A cs h1 h2 h3 => ?_)
  refine matchA (some mb) n k' n' s' wx A cs h1 ((h2 0 (by decide)).2.1 (by decide)).1 ((h2 0 (by decide)).2.1 (by decide)).2.1 ((h2 0 (by decide)).2.1 (by decide)).2.2 ((h2 1 (by decide)).1 rfl).1 ((h2 1 (by decide)).1 rfl).2.1 ((h2 1 (by decide)).1 rfl).2.2.1 ((h2 1 (by decide)).1 rfl).2.2.2.1 ((h2 1 (by decide)).1 rfl).2.2.2.2 _ _ _ (fun wy hy => ?_)
  refine (match_any (some mb) n hC.lo hC.hi k m z k' n' s' wy (fun i wz hi hz => look_of hE (bnext (bnext (bnext hbw h3 hbw.size) hy (bnext hbw h3 hbw.size).size) hz (bnext (bnext hbw h3 hbw.size) hy (bnext hbw h3 hbw.size).size).size) (hC.at' i hi))).mono ?_
  rintro e w' ⟨⟨j, hj, rfl, q1, q2⟩ | ⟨rfl, q1⟩, hb'⟩
  · rw [fstB_some (fun i => eqT (k i) (m i) (z i) k' n' s') n j hj q1 q2, if_pos hj, if_pos hj]; exact ⟨rfl, hb'⟩
  · rw [fstB_none (fun i => eqT (k i) (m i) (z i) k' n' s') n q1, if_neg (by omega), if_neg (by omega)]; exact ⟨rfl, hb'⟩
set_option maxHeartbeats 1600000 in
theorem wo_count {f : Value → Option Value} {n : Nat} {k m : Nat → Int} {z : Nat → ByteArray} {k' n' : Int} {s' : ByteArray} (hC : Col f n k m z k' n' s') (w : World) (P : Nat → Prop) (v : Value) (mb : Nat) (hN : fm.Nd w P v (.nd 9 0 ⟨#[67, 79, 85, 78, 84, 73, 70]⟩ .z .z [tBox n, tXr])) (hE : EvW w mb f) :
    Wo w mb v 1 ((cntB (fun i => eqT (k i) (m i) (z i) k' n' s') n : Nat) : Int) nul := by
  intro w1 hbw
  cases hN with | @mk k0 n0 s0 r t' p q cc us ts hk hlen hs =>
  have hq : q = 2 := by have := hk.1; simp at hlen; omega
  subst hq
  refine named2 mb ⟨#[67, 79, 85, 78, 84, 73, 70]⟩ ⟨#[98, 118]⟩ 209 hk hlen hs (by omega) rfl (fun i => match i with | 0 => 1 | _ => k') (fun i => match i with | 0 => 0 | _ => n') (fun i => match i with | 0 => nul | _ => s') (fun _ j => match j with | 0 => 1 | 1 => 1 | 2 => 1 | _ => (n : Int)) (fun i h => by
      match i, h with
      | 0, _ => exact .inr (.inr (.inr rfl))
      | 1, _ => exact .inr (.inr (.inl rfl))) (fun i h => by
      match i, h with
      | 0, _ => exact ⟨fun q => by first | rfl | (cases q), fun q => by first | rfl | (cases q), by first | exact hC.good | exact (show (1 : Int) ≠ 4 by decide)⟩
      | 1, _ => exact ⟨fun q => by first | rfl | (cases q), fun q => by first | rfl | (cases q), by first | exact hC.good | exact (show (1 : Int) ≠ 4 by decide)⟩) functionOf_countif (enters Tryz.func209 (by kernel_rfl) (by kernel_rfl)) (fun i h hne u hu => by
      match i, h, hne, hu with
      | 0, _, hne, _ => exact absurd rfl hne
      | 1, _, _, hu => exact wo_ev (Ev.ref (f := f) hC.want) w P u mb (hs 1 u _ hu rfl) hE) (fun i h he => by
      match i, h, he with
      | 0, _, _ => exact kid_box (i := 0) hlen hs hC.lo hC.hi rfl (fun _ j => match j with | 0 => 1 | 1 => 1 | 2 => 1 | _ => (n : Int)) ⟨rfl, rfl, rfl, rfl⟩
      | 1, _, he => cases he) _ _ _ w1 hbw (fun wx A cs h1 h2 h3 => ?_)
  refine countA (some mb) n k' n' s' wx A cs h1 ((h2 0 (by decide)).1 rfl).1 ((h2 0 (by decide)).1 rfl).2.1 ((h2 0 (by decide)).1 rfl).2.2.1 ((h2 0 (by decide)).1 rfl).2.2.2.1 ((h2 0 (by decide)).1 rfl).2.2.2.2 ((h2 1 (by decide)).2.1 (by decide)).1 ((h2 1 (by decide)).2.1 (by decide)).2.1 ((h2 1 (by decide)).2.1 (by decide)).2.2 _ _ _ (fun wy hy => ?_)
  exact countIf_any (some mb) n hC.lo hC.hi k m z k' n' s' wy (fun i wz hi hz => look_of hE (bnext (bnext (bnext hbw h3 hbw.size) hy (bnext hbw h3 hbw.size).size) hz (bnext (bnext hbw h3 hbw.size) hy (bnext hbw h3 hbw.size).size).size) (hC.at' i hi))
set_option maxHeartbeats 1600000 in
theorem wo_lookup {f : Value → Option Value} {n : Nat} {k m : Nat → Int} {z : Nat → ByteArray} {k' n' : Int} {s' : ByteArray} (hC : Col f n k m z k' n' s') (w : World) (P : Nat → Prop) (v : Value) (mb : Nat) (hN : fm.Nd w P v (.nd 9 0 ⟨#[76, 79, 79, 75, 85, 80]⟩ .z .z [tXr, tBox n, .nd 1 1 nul .z .z []])) (hE : EvW w mb f) :
    Wo w mb v (if (fstB (fun i => eqT (k i) (m i) (z i) k' n' s') n) < n then k (fstB (fun i => eqT (k i) (m i) (z i) k' n' s') n) else 4) (if (fstB (fun i => eqT (k i) (m i) (z i) k' n' s') n) < n then m (fstB (fun i => eqT (k i) (m i) (z i) k' n' s') n) else 6) (if (fstB (fun i => eqT (k i) (m i) (z i) k' n' s') n) < n then z (fstB (fun i => eqT (k i) (m i) (z i) k' n' s') n) else nul) := by
  intro w1 hbw
  cases hN with | @mk k0 n0 s0 r t' p q cc us ts hk hlen hs =>
  have hq : q = 3 := by have := hk.1; simp at hlen; omega
  subst hq
  refine named2 mb ⟨#[76, 79, 79, 75, 85, 80]⟩ ⟨#[118, 98, 110]⟩ 207 hk hlen hs (by omega) rfl (fun i => match i with | 0 => k' | 1 => 1 | _ => 1) (fun i => match i with | 0 => n' | 1 => 0 | _ => 1) (fun i => match i with | 0 => s' | 1 => nul | _ => nul) (fun _ j => match j with | 0 => 1 | 1 => 1 | 2 => 1 | _ => (n : Int)) (fun i h => by
      match i, h with
      | 0, _ => exact .inr (.inr (.inl rfl))
      | 1, _ => exact .inr (.inr (.inr rfl))
      | 2, _ => exact .inr (.inl rfl)) (fun i h => by
      match i, h with
      | 0, _ => exact ⟨fun q => by first | rfl | (cases q), fun q => by first | rfl | (cases q), by first | exact hC.good | exact (show (1 : Int) ≠ 4 by decide)⟩
      | 1, _ => exact ⟨fun q => by first | rfl | (cases q), fun q => by first | rfl | (cases q), by first | exact hC.good | exact (show (1 : Int) ≠ 4 by decide)⟩
      | 2, _ => exact ⟨fun q => by first | rfl | (cases q), fun q => by first | rfl | (cases q), by first | exact hC.good | exact (show (1 : Int) ≠ 4 by decide)⟩) functionOf_lookup (enters Tryz.func207 (by kernel_rfl) (by kernel_rfl)) (fun i h hne u hu => by
      match i, h, hne, hu with
      | 0, _, _, hu => exact wo_ev (Ev.ref (f := f) hC.want) w P u mb (hs 0 u _ hu rfl) hE
      | 1, _, hne, _ => exact absurd rfl hne
      | 2, _, _, hu => exact wo_ev (Ev.num (f := f)) w P u mb (hs 2 u _ hu rfl) hE) (fun i h he => by
      match i, h, he with
      | 0, _, he => cases he
      | 1, _, _ => exact kid_box (i := 1) hlen hs hC.lo hC.hi rfl (fun _ j => match j with | 0 => 1 | 1 => 1 | 2 => 1 | _ => (n : Int)) ⟨rfl, rfl, rfl, rfl⟩
      | 2, _, he => cases he) _ _ _ w1 hbw (fun wx A cs h1 h2 h3 => ?_)
  refine lookupA (some mb) n k' n' s' 1 wx A cs h1 ((h2 0 (by decide)).2.1 (by decide)).1 ((h2 0 (by decide)).2.1 (by decide)).2.1 ((h2 0 (by decide)).2.1 (by decide)).2.2 ((h2 1 (by decide)).1 rfl).1 ((h2 1 (by decide)).1 rfl).2.1 ((h2 1 (by decide)).1 rfl).2.2.1 ((h2 1 (by decide)).1 rfl).2.2.2.1 ((h2 1 (by decide)).1 rfl).2.2.2.2 ((h2 2 (by decide)).2.2.1 rfl) _ _ _ (fun wy hy => ?_)
  refine (lookup_any (some mb) n hC.lo hC.hi k m z k' n' s' wy (fun i wz hi hz => look_of hE (bnext (bnext (bnext hbw h3 hbw.size) hy (bnext hbw h3 hbw.size).size) hz (bnext (bnext hbw h3 hbw.size) hy (bnext hbw h3 hbw.size).size).size) (hC.at' i hi))).mono ?_
  rintro e w' ⟨⟨j, hj, rfl, q1, q2⟩ | ⟨rfl, q1⟩, hb'⟩
  · rw [fstB_some (fun i => eqT (k i) (m i) (z i) k' n' s') n j hj q1 q2, if_pos hj, if_pos hj, if_pos hj]; exact ⟨rfl, hb'⟩
  · rw [fstB_none (fun i => eqT (k i) (m i) (z i) k' n' s') n q1, if_neg (by omega), if_neg (by omega), if_neg (by omega)]; exact ⟨rfl, hb'⟩
set_option maxHeartbeats 1600000 in
theorem wo_index {f : Value → Option Value} {n : Nat} {k m : Nat → Int} {z : Nat → ByteArray} {k' n' : Int} {s' : ByteArray} (hC : Col f n k m z k' n' s') (j : Nat) (hj : j < n) (w : World) (P : Nat → Prop) (v : Value) (mb : Nat) (hN : fm.Nd w P v (.nd 9 0 ⟨#[73, 78, 68, 69, 88]⟩ .z .z [tBox n, .nd 1 ((j : Int) + 1) nul .z .z [], .nd 1 1 nul .z .z []])) (hE : EvW w mb f) :
    Wo w mb v (k j) (m j) (z j) := by
  intro w1 hbw
  cases hN with | @mk k0 n0 s0 r t' p q cc us ts hk hlen hs =>
  have hq : q = 3 := by have := hk.1; simp at hlen; omega
  subst hq
  refine named2 mb ⟨#[73, 78, 68, 69, 88]⟩ ⟨#[98, 110, 110]⟩ 203 hk hlen hs (by omega) rfl (fun i => match i with | 0 => 1 | 1 => 1 | _ => 1) (fun i => match i with | 0 => 0 | 1 => ((j : Int) + 1) | _ => 1) (fun i => match i with | 0 => nul | 1 => nul | _ => nul) (fun _ j => match j with | 0 => 1 | 1 => 1 | 2 => 1 | _ => (n : Int)) (fun i h => by
      match i, h with
      | 0, _ => exact .inr (.inr (.inr rfl))
      | 1, _ => exact .inr (.inl rfl)
      | 2, _ => exact .inr (.inl rfl)) (fun i h => by
      match i, h with
      | 0, _ => exact ⟨fun q => by first | rfl | (cases q), fun q => by first | rfl | (cases q), by first | exact hC.good | exact (show (1 : Int) ≠ 4 by decide)⟩
      | 1, _ => exact ⟨fun q => by first | rfl | (cases q), fun q => by first | rfl | (cases q), by first | exact hC.good | exact (show (1 : Int) ≠ 4 by decide)⟩
      | 2, _ => exact ⟨fun q => by first | rfl | (cases q), fun q => by first | rfl | (cases q), by first | exact hC.good | exact (show (1 : Int) ≠ 4 by decide)⟩) functionOf_index (enters Tryz.func203 (by kernel_rfl) (by kernel_rfl)) (fun i h hne u hu => by
      match i, h, hne, hu with
      | 0, _, hne, _ => exact absurd rfl hne
      | 1, _, _, hu => exact wo_ev (Ev.num (f := f)) w P u mb (hs 1 u _ hu rfl) hE
      | 2, _, _, hu => exact wo_ev (Ev.num (f := f)) w P u mb (hs 2 u _ hu rfl) hE) (fun i h he => by
      match i, h, he with
      | 0, _, _ => exact kid_box (i := 0) hlen hs hC.lo hC.hi rfl (fun _ j => match j with | 0 => 1 | 1 => 1 | 2 => 1 | _ => (n : Int)) ⟨rfl, rfl, rfl, rfl⟩
      | 1, _, he => cases he
      | 2, _, he => cases he) _ _ _ w1 hbw (fun wx A cs h1 h2 h3 => ?_)
  refine indexA (some mb) n ((j : Int) + 1) 1 wx A cs h1 ((h2 0 (by decide)).1 rfl).1 ((h2 0 (by decide)).1 rfl).2.1 ((h2 0 (by decide)).1 rfl).2.2.1 ((h2 0 (by decide)).1 rfl).2.2.2.1 ((h2 0 (by decide)).1 rfl).2.2.2.2 ((h2 1 (by decide)).2.2.1 rfl) ((h2 2 (by decide)).2.2.1 rfl) _ _ _ (fun wy hy => ?_)
  exact index_yes (some mb) n ((j : Int) + 1) hC.hi (by omega) (by omega) _ _ _ wy (fun wz hz => look_of hE (bnext (bnext (bnext hbw h3 hbw.size) hy (bnext hbw h3 hbw.size).size) hz (bnext (bnext hbw h3 hbw.size) hy (bnext hbw h3 hbw.size).size).size) (hC.at' j hj))
end Go.Proofs.YtoebppmagkijjaaGreatDoor.ev
/- Package eval: Eval as a whole, of any node of which it is known what it comes to. Conditions: the package variables as the program's text lays them; of the rest as each theorem says. -/
namespace Go.Proofs.YtoebppmagkijjaaGreatDoor.ev
open Go.RowKit
open fm (N12)
set_option maxRecDepth 100000 in
set_option maxHeartbeats 4000000 in
theorem eval_gen {k n : Int} {s : ByteArray} {r t : fm.Rf} {p : Option Addr} {q c : Nat} {T0 : fm.T} (w : World) (hE : fm.EnvW w) (hN : In w (fm.NV k n s r t (.slice p q c)) T0) (hO : fm.Ok T0) (hC : fm.Ckd T0)
    (pl : Option Addr) (cl : Nat) (xs : List Sh) (hx : ShL w pl xs) (hok : ShOk xs) (hlen : xs.length ≤ 1000) {kr mr : Int} {zr : ByteArray} (hV : ∀ (w : World) (P : Nat → Prop) (v : Value) (mb : Nat), fm.Nd w P v T0 → EvW w mb (vals xs fun _ => none) → Wo w mb v kr mr zr) :
    Calls Tryz.prog 9 #[fm.NV k n s r t (.slice p q c), .slice pl xs.length cl] w fun e w' => e = .returned (.tuple #[VV kr mr zr, .nilIface]) ∧ Below w.heap.size w w' := by
  have HCK : Hid (∀ wx, Below w.heap.size w wx → Calls Tryz.prog 27 #[fm.NV k n s r t (.slice p q c)] wx fun e w' => e = .returned .nilIface ∧ Below wx.heap.size wx w') := fun wx hb => by
    exact fm.check_yes wx (hE.next hb) (fun _ h => h) (hN.next hb) hO hC
  have HSH : Hid (∀ wx, Below w.heap.size w wx → Calls Tryz.prog 28 #[.slice pl xs.length cl] wx fun e w' => ∃ mb, e = .returned (.tuple #[.map (some mb), .nilIface]) ∧ mp.CM Tryz.prog 23 w' mb (vals xs fun _ => none) ∧ mb < w'.heap.size ∧ Below wx.heap.size wx w') := fun wx hb => by
    refine (sheetOf_any pl cl xs wx (hx.next hb) hok (by omega)).mono ?_
    rintro e w' ⟨rfl, h1, h2, h3⟩
    exact ⟨_, rfl, h1, h2, h3⟩
  have HWO : Hid (∀ wx mb, Below w.heap.size w wx → mp.CM Tryz.prog 23 wx mb (vals xs fun _ => none) → mb < wx.heap.size → Calls Tryz.prog 29 #[.map (some mb), fm.NV k n s r t (.slice p q c)] wx fun e w' => e = .returned (VV kr mr zr) ∧ Below wx.heap.size wx w') := fun wx mb hb hm hl => by
    have hE' := hE.next hb
    exact hV wx _ _ mb (hN.next hb) ⟨hm, hl, hE'.m, by have := hE'.lt; omega⟩ wx (Below.refl _ _)
  obtain ⟨hA, hR⟩ := two_new w (.cells (N12 k n s r t (.slice p q c)) 28) (.cells #[.int .i64 0, .int .i64 0, .string nul] 31)
  have hbW : Below w.heap.size w ((w.alloc (.cells (N12 k n s r t (.slice p q c)) 28)).alloc (.cells #[.int .i64 0, .int .i64 0, .string nul] 31)) := ((Below.refl _ _).alloc (Nat.le_refl _) _).alloc (by simp) _
  obtain ⟨⟨a0, a1, a2, a3, a4, a5, a6, a7, a8, a9, a10, a11⟩, -⟩ := fm.cells12 hA
  have HR : Hid (∀ wx, Below ((w.alloc (.cells (N12 k n s r t (.slice p q c)) 28)).alloc (.cells #[.int .i64 0, .int .i64 0, .string nul] 31)).heap.size ((w.alloc (.cells (N12 k n s r t (.slice p q c)) 28)).alloc (.cells #[.int .i64 0, .int .i64 0, .string nul] 31)) wx → wx.heap[w.heap.size]? = some (.cells (N12 k n s r t (.slice p q c)) 28 (0, 0)) ∧ wx.heap[w.heap.size + 1]? = some (.cells #[.int .i64 0, .int .i64 0, .string nul] 31 (0, 0)) ∧ Below w.heap.size w wx) := fun wx h => ⟨(h.block _ (fm.lt_blk hA)).trans hA, (h.block _ (fm.lt_blk hR)).trans hR, bnext hbW h hbW.size⟩
  have HB0 : Hid (Below w.heap.size w ((w.alloc (.cells (N12 k n s r t (.slice p q c)) 28)).alloc (.cells #[.int .i64 0, .int .i64 0, .string nul] 31))) := hbW
  clear hA hR hbW hE hN hO hC hx hok hlen hV
  go_enter Tryz.func9, Tryz.ntmps9
  go_wp2_with fail
  refine (HCK.out _ HB0.out).mono ?_
  clear a0 a1 a2 a3 a4 a5 a6 a7 a8 a9 a10 a11
  rintro e w1 ⟨rfl, hb1⟩
  have HB1 : Hid (Below ((w.alloc (.cells (N12 k n s r t (.slice p q c)) 28)).alloc (.cells #[.int .i64 0, .int .i64 0, .string nul] 31)).heap.size ((w.alloc (.cells (N12 k n s r t (.slice p q c)) 28)).alloc (.cells #[.int .i64 0, .int .i64 0, .string nul] 31)) w1) := hb1
  clear hb1
  go_wp2_with fail
  refine (HSH.out _ (HR.out _ HB1.out).2.2).mono ?_
  rintro e w2 ⟨mb, rfl, hm, hlt, hb2⟩
  have HM : Hid (mp.CM Tryz.prog 23 w2 mb (vals xs fun _ => none) ∧ mb < w2.heap.size) := ⟨hm, hlt⟩
  have HB2 : Hid (Below ((w.alloc (.cells (N12 k n s r t (.slice p q c)) 28)).alloc (.cells #[.int .i64 0, .int .i64 0, .string nul] 31)).heap.size ((w.alloc (.cells (N12 k n s r t (.slice p q c)) 28)).alloc (.cells #[.int .i64 0, .int .i64 0, .string nul] 31)) w2) := bnext HB1.out hb2 HB1.out.size
  obtain ⟨⟨a0, a1, a2, a3, a4, a5, a6, a7, a8, a9, a10, a11⟩, -⟩ := fm.cells12 (HR.out _ HB2.out).1
  clear hm hlt hb2 HB1
  go_wp2_with fail
  refine (HWO.out _ mb (HR.out _ HB2.out).2.2 HM.out.1 HM.out.2).mono ?_
  clear a0 a1 a2 a3 a4 a5 a6 a7 a8 a9 a10 a11
  rintro e w3 ⟨rfl, hb3⟩
  obtain ⟨-, hq1, hb4⟩ := HR.out w3 (bnext HB2.out hb3 HB2.out.size)
  have HB : Hid (Below w.heap.size w w3) := hb4
  obtain ⟨c0, c1, c2⟩ := cells3v hq1
  have f0 : ∀ o, w3.frozen? ⟨w.heap.size + 1, o, none⟩ = false := frz hq1
  have HQ1 : Hid (w3.heap[w.heap.size + 1]? = some (.cells #[.int .i64 0, .int .i64 0, .string nul] 31 (0, 0))) := hq1
  clear hq1 hb3 hb4 HR HB2 HM HWO HSH HCK HB0
  go_wp2_with fail
  refine fin3 HQ1.out (Q := bodyPost _ _ _ _ _) ?_
  clear c0 c1 c2 f0
  intro w4 hq4 hk4
  obtain ⟨d0, d1, d2⟩ := cells3v hq4
  exact bodyPost_ret (v := .tuple #[VV kr mr zr, .nilIface]) (by simp [results, Tryz.results9, go_sem, d0, d1, d2]) rfl ⟨rfl, HB.out.trans (hk4 _ (by omega))⟩
set_option maxRecDepth 100000 in
set_option maxHeartbeats 4000000 in
theorem works_gen {k n : Int} {s : ByteArray} {r t : fm.Rf} {p : Option Addr} {q c : Nat} {T0 : fm.T} (w : World) (hE : fm.EnvW w) (hN : In w (fm.NV k n s r t (.slice p q c)) T0) (hO : fm.Ok T0) (hC : fm.Ckd T0)
    (pl : Option Addr) (cl : Nat) (xs : List Sh) (hx : ShL w pl xs) (hok : ShOk xs) (hlen : xs.length ≤ 1000) {kr mr : Int} {zr : ByteArray} (hV : ∀ (w : World) (P : Nat → Prop) (v : Value) (mb : Nat), fm.Nd w P v T0 → EvW w mb (vals xs fun _ => none) → Wo w mb v kr mr zr) :
    Calls Tryz.prog 14 #[fm.NV k n s r t (.slice p q c), .slice pl xs.length cl] w fun e w' => e = .returned (.tuple #[VV kr mr zr, .bool true]) ∧ Below w.heap.size w w' := by
  have HEV : Hid (∀ wx, Below w.heap.size w wx → Calls Tryz.prog 9 #[fm.NV k n s r t (.slice p q c), .slice pl xs.length cl] wx fun e w' => e = .returned (.tuple #[VV kr mr zr, .nilIface]) ∧ Below wx.heap.size wx w') := fun wx hb =>
    eval_gen wx (hE.next hb) (hN.next hb) hO hC pl cl xs (hx.next hb) hok hlen hV
  obtain ⟨hA, hR⟩ := two_new w (.cells (N12 k n s r t (.slice p q c)) 28) (.cells #[.int .i64 0, .int .i64 0, .string nul] 31)
  have hbW : Below w.heap.size w ((w.alloc (.cells (N12 k n s r t (.slice p q c)) 28)).alloc (.cells #[.int .i64 0, .int .i64 0, .string nul] 31)) := ((Below.refl _ _).alloc (Nat.le_refl _) _).alloc (by simp) _
  obtain ⟨⟨a0, a1, a2, a3, a4, a5, a6, a7, a8, a9, a10, a11⟩, -⟩ := fm.cells12 hA
  have HR : Hid (∀ wx, Below ((w.alloc (.cells (N12 k n s r t (.slice p q c)) 28)).alloc (.cells #[.int .i64 0, .int .i64 0, .string nul] 31)).heap.size ((w.alloc (.cells (N12 k n s r t (.slice p q c)) 28)).alloc (.cells #[.int .i64 0, .int .i64 0, .string nul] 31)) wx → wx.heap[w.heap.size + 1]? = some (.cells #[.int .i64 0, .int .i64 0, .string nul] 31 (0, 0)) ∧ Below w.heap.size w wx) := fun wx h => ⟨(h.block _ (fm.lt_blk hR)).trans hR, bnext hbW h hbW.size⟩
  have HB0 : Hid (Below w.heap.size w ((w.alloc (.cells (N12 k n s r t (.slice p q c)) 28)).alloc (.cells #[.int .i64 0, .int .i64 0, .string nul] 31))) := hbW
  clear hA hR hbW hE hN hO hC hx hok hlen hV
  go_enter Tryz.func14, Tryz.ntmps14
  go_wp2_with fail
  refine (HEV.out _ HB0.out).mono ?_
  clear a0 a1 a2 a3 a4 a5 a6 a7 a8 a9 a10 a11
  rintro e w1 ⟨rfl, hb1⟩
  obtain ⟨V1, hV1⟩ : ∃ V1, V1 = w1.alloc (.cells #[.int .i64 kr, .int .i64 mr, .string zr] 31) := ⟨_, rfl⟩
  have hbv : Below w1.heap.size w1 V1 := by rw [hV1]; exact (Below.refl _ _).alloc (Nat.le_refl _) _
  obtain ⟨hq1, hb4⟩ := HR.out V1 (bnext hb1 hbv hb1.size)
  have hv0 : V1.heap[w1.heap.size]? = some (.cells #[.int .i64 kr, .int .i64 mr, .string zr] 31 (0, 0)) := by rw [hV1]; exact heap_alloc_new _ _
  have HB : Hid (Below w.heap.size w V1) := hb4
  obtain ⟨v0, v1, v2⟩ := cells3v hv0
  obtain ⟨c0, c1, c2⟩ := cells3v hq1
  have f0 : ∀ o, V1.frozen? ⟨w.heap.size + 1, o, none⟩ = false := frz hq1
  have HQ1 : Hid (V1.heap[w.heap.size + 1]? = some (.cells #[.int .i64 0, .int .i64 0, .string nul] 31 (0, 0))) := hq1
  have HVV : Hid (w1.alloc (.cells #[.int .i64 kr, .int .i64 mr, .string zr] 31) = V1) := hV1.symm
  rw [hV1] at v0 v1 v2 c0 c1 c2 f0
  clear hq1 hb1 hb4 hbv hv0 HR HEV HB0 hV1
  go_wp2_with fail
  go_region
  all_goals
    go_wp2_with fail
    rw [HVV.out] at *
    refine fin3 (w := World.drew V1) (t := 31) HQ1.out (Q := bodyPost _ _ _ _ _) ?_
    clear c0 c1 c2 f0
    intro w4 hq4 hk4
    obtain ⟨d0, d1, d2⟩ := cells3v hq4
    exact bodyPost_ret (v := .tuple #[VV kr mr zr, .bool true]) (by simp [results, Tryz.results14, go_sem, d0, d1, d2]) rfl ⟨rfl, HB.out.drew.trans (hk4 _ (by omega))⟩
end Go.Proofs.YtoebppmagkijjaaGreatDoor.ev
