/- Package value: Number. Conditions: the package variables hold what the program lays. -/
import Derived.Test.YtoaejcppfmjhdaaGreatDoorVa
import Derived.Test.YtoaejcppfmjhdaaGreatDoorRead
import Derived.RangeFuncNested
import Derived.Maps.AppendAt
namespace Go.Proofs.YtoaejcppfmjhdaaGreatDoor.ov
open Go.RowKit
open ev (VV fin3 cells3v frz)
set_option maxHeartbeats 1600000 in
theorem num75 (n : Int) (w : World) : Calls Tryz.prog 75 #[.int .i64 n] w fun e w' => e = .returned (VV 1 n nul) ∧ Below w.heap.size w w' := by
  go_enter Tryz.func75, Tryz.ntmps75
  go_wp2
  exact bodyPost_ret (v := VV 1 n nul) (by simp [results, Tryz.results75, go_sem]) rfl ⟨rfl, (Below.refl _ _).alloc (Nat.le_refl _) _⟩
/-- What a text is as a number. -/
def txN (s : ByteArray) : V3 := if ((rd s).1 == 1) = true then ⟨(rd s).1, (rd s).2.1, (rd s).2.2⟩ else ⟨4, 2, nul⟩
set_option maxHeartbeats 1600000 in
theorem readAs1 (s : ByteArray) (w : World) (hE : Env w) : Calls Tryz.prog 147 #[.int .i64 1, .string s] w fun e w' => e = .returned (VV (txN s).k (txN s).n (txN s).s) ∧ Below w.heap.size w w' := by
  have hb0 : Below w.heap.size w (w.alloc (.cells #[.int .i64 0, .int .i64 0, .string nul] 31)) := (Below.refl _ _).alloc (Nat.le_refl _) _
  have HRD := read_any s _ (hE.alloc (.cells #[.int .i64 0, .int .i64 0, .string nul] 31))
  have HR : Hid (∀ w1, Below (w.alloc (.cells #[.int .i64 0, .int .i64 0, .string nul] 31)).heap.size (w.alloc (.cells #[.int .i64 0, .int .i64 0, .string nul] 31)) w1 → w1.heap[w.heap.size]? = some (.cells #[.int .i64 0, .int .i64 0, .string nul] 31 (0, 0)) ∧ Below w.heap.size w w1) := fun w1 hb => ⟨(hb.block _ (by simp)).trans (heap_alloc_new w _), bnext hb0 hb hb0.size⟩
  unfold txN
  generalize rd s = R at *
  obtain ⟨rk, rn, rs⟩ := R
  dsimp only at HRD ⊢
  clear hE hb0
  cases h3 : (rk == 1) with
  | true =>
    simp only [if_true]
    go_enter Tryz.func147, Tryz.ntmps147
    go_wp2_with fail
    refine HRD.mono ?_
    rintro e w1 ⟨rfl, hb1⟩
    have hba : Below w1.heap.size w1 (w1.alloc (.cells #[.int .i64 rk, .int .i64 rn, .string rs] 31)) := (Below.refl _ _).alloc (Nat.le_refl _) _
    obtain ⟨hq, hb⟩ := HR.out _ (bnext hb1 hba hb1.size)
    have HQ : Hid ((w1.alloc (.cells #[.int .i64 rk, .int .i64 rn, .string rs] 31)).heap[w.heap.size]? = some (.cells #[.int .i64 0, .int .i64 0, .string nul] 31 (0, 0))) := hq
    have HB : Hid (Below w.heap.size w (w1.alloc (.cells #[.int .i64 rk, .int .i64 rn, .string rs] 31))) := hb
    obtain ⟨v0, v1, v2⟩ := cells3v (heap_alloc_new w1 (.cells #[.int .i64 rk, .int .i64 rn, .string rs] 31))
    clear hq hb hb1 hba HR
    obtain ⟨c0, c1, c2⟩ := cells3v HQ.out
    have f0 := frz HQ.out
    go_wp2_with fail
    refine fin3 HQ.out (Q := bodyPost _ _ _ _ _) ?_
    clear c0 c1 c2 f0
    intro w9 hq9 hk9
    obtain ⟨d0, d1, d2⟩ := cells3v hq9
    exact bodyPost_ret (v := VV rk rn rs) (by simp [results, Tryz.results147, go_sem, d0, d1, d2]) rfl ⟨rfl, HB.out.trans (hk9 _ (by omega))⟩
  | false =>
    simp only [Bool.false_eq_true, if_false]
    go_enter Tryz.func147, Tryz.ntmps147
    go_wp2_with fail
    refine HRD.mono ?_
    rintro e w1 ⟨rfl, hb1⟩
    have hba : Below w1.heap.size w1 (w1.alloc (.cells #[.int .i64 rk, .int .i64 rn, .string rs] 31)) := (Below.refl _ _).alloc (Nat.le_refl _) _
    have HB1 : Hid (Below (w.alloc (.cells #[.int .i64 0, .int .i64 0, .string nul] 31)).heap.size (w.alloc (.cells #[.int .i64 0, .int .i64 0, .string nul] 31)) (w1.alloc (.cells #[.int .i64 rk, .int .i64 rn, .string rs] 31))) := bnext hb1 hba hb1.size
    obtain ⟨v0, v1, v2⟩ := cells3v (heap_alloc_new w1 (.cells #[.int .i64 rk, .int .i64 rn, .string rs] 31))
    clear hb1 hba
    go_wp2_with fail
    refine (bad_any _ _).mono ?_
    rintro e w2 ⟨rfl, hb2⟩
    obtain ⟨hq, hb⟩ := HR.out _ (bnext HB1.out hb2 HB1.out.size)
    have HQ : Hid (w2.heap[w.heap.size]? = some (.cells #[.int .i64 0, .int .i64 0, .string nul] 31 (0, 0))) := hq
    have HB : Hid (Below w.heap.size w w2) := hb
    clear hq hb hb2 HR HB1 v0 v1 v2
    obtain ⟨c0, c1, c2⟩ := cells3v HQ.out
    have f0 := frz HQ.out
    go_wp2_with fail
    refine fin3 HQ.out (Q := bodyPost _ _ _ _ _) ?_
    clear c0 c1 c2 f0
    intro w9 hq9 hk9
    obtain ⟨d0, d1, d2⟩ := cells3v hq9
    exact bodyPost_ret (v := VV 4 2 nul) (by simp [results, Tryz.results147, go_sem, d0, d1, d2]) rfl ⟨rfl, HB.out.trans (hk9 _ (by omega))⟩
/-- A value as a number. -/
def nmV (k n : Int) (s : ByteArray) : V3 :=
  if (k == 1) = true then ⟨k, n, s⟩ else if (k == 4) = true then ⟨k, n, s⟩ else if (k == 0) = true then ⟨1, 0, nul⟩ else if (k == 3) = true then ⟨1, n, nul⟩ else if (k == 2) = true then txN s else ⟨4, 2, nul⟩
set_option maxHeartbeats 1600000 in
theorem num3 (k : Int) (h3 : (k == 1) = true) (n : Int) (s : ByteArray) (w : World) : Calls Tryz.prog 106 #[VV k n s] w fun e w' => e = .returned (VV k n s) ∧ Below w.heap.size w w' := by
  obtain ⟨hA, hR⟩ := ev.two_new w (.cells #[.int .i64 k, .int .i64 n, .string s] 31) (.cells #[.int .i64 0, .int .i64 0, .string nul] 31)
  have hbW : Below w.heap.size w ((w.alloc (.cells #[.int .i64 k, .int .i64 n, .string s] 31)).alloc (.cells #[.int .i64 0, .int .i64 0, .string nul] 31)) := ((Below.refl _ _).alloc (Nat.le_refl _) _).alloc (by simp) _
  obtain ⟨W, hW⟩ : ∃ W, (w.alloc (.cells #[.int .i64 k, .int .i64 n, .string s] 31)).alloc (.cells #[.int .i64 0, .int .i64 0, .string nul] 31) = W := ⟨_, rfl⟩
  have hAA := hA
  rw [hW] at hAA hR hbW
  obtain ⟨a0, a1, a2⟩ := cells3v hA
  have HBW : Hid (Below w.heap.size w W) := hbW
  have HRW : Hid (W.heap[w.heap.size + 1]? = some (.cells #[.int .i64 0, .int .i64 0, .string nul] 31 (0, 0))) := hR
  have HWW : Hid ((w.alloc (.cells #[.int .i64 k, .int .i64 n, .string s] 31)).alloc (.cells #[.int .i64 0, .int .i64 0, .string nul] 31) = W) := hW
  clear hA hAA hR hW hbW
  have HQ : Hid (((w.alloc (.cells #[.int .i64 k, .int .i64 n, .string s] 31)).alloc (.cells #[.int .i64 0, .int .i64 0, .string nul] 31)).heap[w.heap.size + 1]? = some (.cells #[.int .i64 0, .int .i64 0, .string nul] 31 (0, 0))) := by rw [HWW.out]; exact HRW.out
  have HB : Hid (Below w.heap.size w ((w.alloc (.cells #[.int .i64 k, .int .i64 n, .string s] 31)).alloc (.cells #[.int .i64 0, .int .i64 0, .string nul] 31))) := by rw [HWW.out]; exact HBW.out
  clear HBW HRW HWW
  go_enter Tryz.func106, Tryz.ntmps106
  go_wp2_with fail
  exact bodyPost_ret (v := VV k n s) (by simp [results, Tryz.results106, go_sem]) rfl ⟨rfl, by (repeat (first | exact Below.refl _ _ | assumption | (refine Below.setCell ?_ (by first | omega | (simp <;> omega)) _) | (refine Below.alloc ?_ (by first | omega | (simp <;> omega)) _)))⟩
set_option maxHeartbeats 1600000 in
theorem num4 (k : Int) (h3 : (k == 1) = false) (h4 : (k == 4) = true) (n : Int) (s : ByteArray) (w : World) : Calls Tryz.prog 106 #[VV k n s] w fun e w' => e = .returned (VV k n s) ∧ Below w.heap.size w w' := by
  obtain ⟨hA, hR⟩ := ev.two_new w (.cells #[.int .i64 k, .int .i64 n, .string s] 31) (.cells #[.int .i64 0, .int .i64 0, .string nul] 31)
  have hbW : Below w.heap.size w ((w.alloc (.cells #[.int .i64 k, .int .i64 n, .string s] 31)).alloc (.cells #[.int .i64 0, .int .i64 0, .string nul] 31)) := ((Below.refl _ _).alloc (Nat.le_refl _) _).alloc (by simp) _
  obtain ⟨W, hW⟩ : ∃ W, (w.alloc (.cells #[.int .i64 k, .int .i64 n, .string s] 31)).alloc (.cells #[.int .i64 0, .int .i64 0, .string nul] 31) = W := ⟨_, rfl⟩
  have hAA := hA
  rw [hW] at hAA hR hbW
  obtain ⟨a0, a1, a2⟩ := cells3v hA
  have HBW : Hid (Below w.heap.size w W) := hbW
  have HRW : Hid (W.heap[w.heap.size + 1]? = some (.cells #[.int .i64 0, .int .i64 0, .string nul] 31 (0, 0))) := hR
  have HWW : Hid ((w.alloc (.cells #[.int .i64 k, .int .i64 n, .string s] 31)).alloc (.cells #[.int .i64 0, .int .i64 0, .string nul] 31) = W) := hW
  clear hA hAA hR hW hbW
  have HQ : Hid (((w.alloc (.cells #[.int .i64 k, .int .i64 n, .string s] 31)).alloc (.cells #[.int .i64 0, .int .i64 0, .string nul] 31)).heap[w.heap.size + 1]? = some (.cells #[.int .i64 0, .int .i64 0, .string nul] 31 (0, 0))) := by rw [HWW.out]; exact HRW.out
  have HB : Hid (Below w.heap.size w ((w.alloc (.cells #[.int .i64 k, .int .i64 n, .string s] 31)).alloc (.cells #[.int .i64 0, .int .i64 0, .string nul] 31))) := by rw [HWW.out]; exact HBW.out
  clear HBW HRW HWW
  go_enter Tryz.func106, Tryz.ntmps106
  go_wp2_with fail
  exact bodyPost_ret (v := VV k n s) (by simp [results, Tryz.results106, go_sem]) rfl ⟨rfl, by (repeat (first | exact Below.refl _ _ | assumption | (refine Below.setCell ?_ (by first | omega | (simp <;> omega)) _) | (refine Below.alloc ?_ (by first | omega | (simp <;> omega)) _)))⟩
set_option maxHeartbeats 1600000 in
theorem num0 (k : Int) (h3 : (k == 1) = false) (h4 : (k == 4) = false) (h0 : (k == 0) = true) (n : Int) (s : ByteArray) (w : World) : Calls Tryz.prog 106 #[VV k n s] w fun e w' => e = .returned (VV 1 0 nul) ∧ Below w.heap.size w w' := by
  obtain ⟨hA, hR⟩ := ev.two_new w (.cells #[.int .i64 k, .int .i64 n, .string s] 31) (.cells #[.int .i64 0, .int .i64 0, .string nul] 31)
  have hbW : Below w.heap.size w ((w.alloc (.cells #[.int .i64 k, .int .i64 n, .string s] 31)).alloc (.cells #[.int .i64 0, .int .i64 0, .string nul] 31)) := ((Below.refl _ _).alloc (Nat.le_refl _) _).alloc (by simp) _
  obtain ⟨W, hW⟩ : ∃ W, (w.alloc (.cells #[.int .i64 k, .int .i64 n, .string s] 31)).alloc (.cells #[.int .i64 0, .int .i64 0, .string nul] 31) = W := ⟨_, rfl⟩
  have hAA := hA
  rw [hW] at hAA hR hbW
  obtain ⟨a0, a1, a2⟩ := cells3v hA
  have HBW : Hid (Below w.heap.size w W) := hbW
  have HRW : Hid (W.heap[w.heap.size + 1]? = some (.cells #[.int .i64 0, .int .i64 0, .string nul] 31 (0, 0))) := hR
  have HWW : Hid ((w.alloc (.cells #[.int .i64 k, .int .i64 n, .string s] 31)).alloc (.cells #[.int .i64 0, .int .i64 0, .string nul] 31) = W) := hW
  clear hA hAA hR hW hbW
  go_enter Tryz.func106, Tryz.ntmps106
  go_wp2_with fail
  rw [HWW.out]
  refine (num75 _ _).mono ?_
  rintro e w1 ⟨rfl, hb1⟩
  have HQ : Hid (w1.heap[w.heap.size + 1]? = some (.cells #[.int .i64 0, .int .i64 0, .string nul] 31 (0, 0))) := (hb1.block _ (fm.lt_blk HRW.out)).trans HRW.out
  have HB : Hid (Below w.heap.size w w1) := bnext HBW.out hb1 HBW.out.size
  clear hb1 HBW HRW HWW a0 a1 a2
  obtain ⟨c0, c1, c2⟩ := cells3v HQ.out
  have f0 := frz HQ.out
  go_wp2_with fail
  refine fin3 HQ.out (Q := bodyPost _ _ _ _ _) ?_
  clear c0 c1 c2 f0
  intro w9 hq9 hk9
  obtain ⟨d0, d1, d2⟩ := cells3v hq9
  exact bodyPost_ret (v := VV 1 0 nul) (by simp [results, Tryz.results106, go_sem, d0, d1, d2]) rfl ⟨rfl, HB.out.trans (hk9 _ (by omega))⟩
set_option maxHeartbeats 1600000 in
theorem num1 (k : Int) (h3 : (k == 1) = false) (h4 : (k == 4) = false) (h0 : (k == 0) = false) (h1 : (k == 3) = true) (n : Int) (s : ByteArray) (w : World) : Calls Tryz.prog 106 #[VV k n s] w fun e w' => e = .returned (VV 1 n nul) ∧ Below w.heap.size w w' := by
  obtain ⟨hA, hR⟩ := ev.two_new w (.cells #[.int .i64 k, .int .i64 n, .string s] 31) (.cells #[.int .i64 0, .int .i64 0, .string nul] 31)
  have hbW : Below w.heap.size w ((w.alloc (.cells #[.int .i64 k, .int .i64 n, .string s] 31)).alloc (.cells #[.int .i64 0, .int .i64 0, .string nul] 31)) := ((Below.refl _ _).alloc (Nat.le_refl _) _).alloc (by simp) _
  obtain ⟨W, hW⟩ : ∃ W, (w.alloc (.cells #[.int .i64 k, .int .i64 n, .string s] 31)).alloc (.cells #[.int .i64 0, .int .i64 0, .string nul] 31) = W := ⟨_, rfl⟩
  have hAA := hA
  rw [hW] at hAA hR hbW
  obtain ⟨a0, a1, a2⟩ := cells3v hA
  have HBW : Hid (Below w.heap.size w W) := hbW
  have HRW : Hid (W.heap[w.heap.size + 1]? = some (.cells #[.int .i64 0, .int .i64 0, .string nul] 31 (0, 0))) := hR
  have HWW : Hid ((w.alloc (.cells #[.int .i64 k, .int .i64 n, .string s] 31)).alloc (.cells #[.int .i64 0, .int .i64 0, .string nul] 31) = W) := hW
  clear hA hAA hR hW hbW
  go_enter Tryz.func106, Tryz.ntmps106
  go_wp2_with fail
  rw [HWW.out]
  refine (num75 _ _).mono ?_
  rintro e w1 ⟨rfl, hb1⟩
  have HQ : Hid (w1.heap[w.heap.size + 1]? = some (.cells #[.int .i64 0, .int .i64 0, .string nul] 31 (0, 0))) := (hb1.block _ (fm.lt_blk HRW.out)).trans HRW.out
  have HB : Hid (Below w.heap.size w w1) := bnext HBW.out hb1 HBW.out.size
  clear hb1 HBW HRW HWW a0 a1 a2
  obtain ⟨c0, c1, c2⟩ := cells3v HQ.out
  have f0 := frz HQ.out
  go_wp2_with fail
  refine fin3 HQ.out (Q := bodyPost _ _ _ _ _) ?_
  clear c0 c1 c2 f0
  intro w9 hq9 hk9
  obtain ⟨d0, d1, d2⟩ := cells3v hq9
  exact bodyPost_ret (v := VV 1 n nul) (by simp [results, Tryz.results106, go_sem, d0, d1, d2]) rfl ⟨rfl, HB.out.trans (hk9 _ (by omega))⟩
set_option maxHeartbeats 1600000 in
theorem num2 (k : Int) (h3 : (k == 1) = false) (h4 : (k == 4) = false) (h0 : (k == 0) = false) (h1 : (k == 3) = false) (h2 : (k == 2) = true) (n : Int) (s : ByteArray) (w : World) (hE : Env w) : Calls Tryz.prog 106 #[VV k n s] w fun e w' => e = .returned (VV (txN s).k (txN s).n (txN s).s) ∧ Below w.heap.size w w' := by
  obtain ⟨hA, hR⟩ := ev.two_new w (.cells #[.int .i64 k, .int .i64 n, .string s] 31) (.cells #[.int .i64 0, .int .i64 0, .string nul] 31)
  have hbW : Below w.heap.size w ((w.alloc (.cells #[.int .i64 k, .int .i64 n, .string s] 31)).alloc (.cells #[.int .i64 0, .int .i64 0, .string nul] 31)) := ((Below.refl _ _).alloc (Nat.le_refl _) _).alloc (by simp) _
  obtain ⟨W, hW⟩ : ∃ W, (w.alloc (.cells #[.int .i64 k, .int .i64 n, .string s] 31)).alloc (.cells #[.int .i64 0, .int .i64 0, .string nul] 31) = W := ⟨_, rfl⟩
  have hAA := hA
  rw [hW] at hAA hR hbW
  obtain ⟨a0, a1, a2⟩ := cells3v hA
  have HBW : Hid (Below w.heap.size w W) := hbW
  have HRW : Hid (W.heap[w.heap.size + 1]? = some (.cells #[.int .i64 0, .int .i64 0, .string nul] 31 (0, 0))) := hR
  have HWW : Hid ((w.alloc (.cells #[.int .i64 k, .int .i64 n, .string s] 31)).alloc (.cells #[.int .i64 0, .int .i64 0, .string nul] 31) = W) := hW
  clear hA hAA hR hW hbW
  have HE : Hid (Env W) := hE.next HBW.out
  clear hE
  go_enter Tryz.func106, Tryz.ntmps106
  go_wp2_with fail
  rw [HWW.out]
  refine (readAs1 s W HE.out).mono ?_
  rintro e w1 ⟨rfl, hb1⟩
  have HQ : Hid (w1.heap[w.heap.size + 1]? = some (.cells #[.int .i64 0, .int .i64 0, .string nul] 31 (0, 0))) := (hb1.block _ (fm.lt_blk HRW.out)).trans HRW.out
  have HB : Hid (Below w.heap.size w w1) := bnext HBW.out hb1 HBW.out.size
  clear hb1 HBW HRW HWW a0 a1 a2
  obtain ⟨c0, c1, c2⟩ := cells3v HQ.out
  have f0 := frz HQ.out
  go_wp2_with fail
  refine fin3 HQ.out (Q := bodyPost _ _ _ _ _) ?_
  clear c0 c1 c2 f0
  intro w9 hq9 hk9
  obtain ⟨d0, d1, d2⟩ := cells3v hq9
  exact bodyPost_ret (v := VV (txN s).k (txN s).n (txN s).s) (by simp [results, Tryz.results106, go_sem, d0, d1, d2]) rfl ⟨rfl, HB.out.trans (hk9 _ (by omega))⟩
set_option maxHeartbeats 1600000 in
theorem numx (k : Int) (h3 : (k == 1) = false) (h4 : (k == 4) = false) (h0 : (k == 0) = false) (h1 : (k == 3) = false) (h2 : (k == 2) = false) (n : Int) (s : ByteArray) (w : World) : Calls Tryz.prog 106 #[VV k n s] w fun e w' => e = .returned (VV 4 2 nul) ∧ Below w.heap.size w w' := by
  obtain ⟨hA, hR⟩ := ev.two_new w (.cells #[.int .i64 k, .int .i64 n, .string s] 31) (.cells #[.int .i64 0, .int .i64 0, .string nul] 31)
  have hbW : Below w.heap.size w ((w.alloc (.cells #[.int .i64 k, .int .i64 n, .string s] 31)).alloc (.cells #[.int .i64 0, .int .i64 0, .string nul] 31)) := ((Below.refl _ _).alloc (Nat.le_refl _) _).alloc (by simp) _
  obtain ⟨W, hW⟩ : ∃ W, (w.alloc (.cells #[.int .i64 k, .int .i64 n, .string s] 31)).alloc (.cells #[.int .i64 0, .int .i64 0, .string nul] 31) = W := ⟨_, rfl⟩
  have hAA := hA
  rw [hW] at hAA hR hbW
  obtain ⟨a0, a1, a2⟩ := cells3v hA
  have HBW : Hid (Below w.heap.size w W) := hbW
  have HRW : Hid (W.heap[w.heap.size + 1]? = some (.cells #[.int .i64 0, .int .i64 0, .string nul] 31 (0, 0))) := hR
  have HWW : Hid ((w.alloc (.cells #[.int .i64 k, .int .i64 n, .string s] 31)).alloc (.cells #[.int .i64 0, .int .i64 0, .string nul] 31) = W) := hW
  clear hA hAA hR hW hbW
  go_enter Tryz.func106, Tryz.ntmps106
  go_wp2_with fail
  rw [HWW.out]
  refine (bad_any _ _).mono ?_
  rintro e w1 ⟨rfl, hb1⟩
  have HQ : Hid (w1.heap[w.heap.size + 1]? = some (.cells #[.int .i64 0, .int .i64 0, .string nul] 31 (0, 0))) := (hb1.block _ (fm.lt_blk HRW.out)).trans HRW.out
  have HB : Hid (Below w.heap.size w w1) := bnext HBW.out hb1 HBW.out.size
  clear hb1 HBW HRW HWW a0 a1 a2
  obtain ⟨c0, c1, c2⟩ := cells3v HQ.out
  have f0 := frz HQ.out
  go_wp2_with fail
  refine fin3 HQ.out (Q := bodyPost _ _ _ _ _) ?_
  clear c0 c1 c2 f0
  intro w9 hq9 hk9
  obtain ⟨d0, d1, d2⟩ := cells3v hq9
  exact bodyPost_ret (v := VV 4 2 nul) (by simp [results, Tryz.results106, go_sem, d0, d1, d2]) rfl ⟨rfl, HB.out.trans (hk9 _ (by omega))⟩
theorem number_all (k n : Int) (s : ByteArray) (w : World) (hE : Env w) : Calls Tryz.prog 106 #[VV k n s] w fun e w' => e = .returned (VV (nmV k n s).k (nmV k n s).n (nmV k n s).s) ∧ Below w.heap.size w w' := by
  unfold nmV
  cases h3 : (k == 1) with
  | true => exact num3 k h3 n s w
  | false =>
  cases h4 : (k == 4) with
  | true => exact num4 k h3 h4 n s w
  | false =>
  cases h0 : (k == 0) with
  | true => exact num0 k h3 h4 h0 n s w
  | false =>
  cases h1 : (k == 3) with
  | true => exact num1 k h3 h4 h0 h1 n s w
  | false =>
  cases h2 : (k == 2) with
  | true => exact num2 k h3 h4 h0 h1 h2 n s w hE
  | false => exact numx k h3 h4 h0 h1 h2 n s w
end Go.Proofs.YtoaejcppfmjhdaaGreatDoor.ov
/- A range over a function or a bound method, whose iterator may have a range over a function of its own. Plain: of any program. Conditions: as the theorem says. -/
namespace Go.Proofs.YtoaejcppfmjhdaaGreatDoor.rb
open Go.RowKit
variable {F : Fence} {n : Nat} {P : Program}
/-- What an iterator says of itself: 'fst' is what it is bound to, 'lb' what it captured. The caller's words abide whatever is done to blocks of the iterator's own that hold no cells. -/
def SeqB {α : Type} (F : Fence) (n : Nat) (P : Program) (gf : Nat) (fst lb : Array Value) (encs : α → Array Value) (Kp : World → World → Prop) (S Sp : List α → Prop) (N : Nat) (w : World) : Prop :=
  ∀ (l : Nat) (J Jx : List α → World → Prop) (W : World), Below w.heap.size w W → OwnFrom W.heap.size J → OwnFrom W.heap.size Jx →
    (∀ pre x W1, J pre W1 → pre.length < N → YieldAt F (n - 1) P l (encs x) W1 fun e W' =>
      KeepsFrom W.heap.size W1 W' ∧ ((e = .returned (.bool true) ∧ J (pre ++ [x]) W' ∧ Kp W1 W') ∨ (e = .returned (.bool false) ∧ Jx (pre ++ [x]) W'))) →
    J [] W →
    CallsIn F n P gf (fst ++ #[.func (.yield l) #[] #[]] ++ lb) W fun e W' => (∃ v, e = .returned v) ∧ ((∃ xs, S xs ∧ J xs W') ∨ (∃ pre, Sp pre ∧ Jx pre W'))
theorem keeps_mono {B B' : Nat} {W W' : World} (h : KeepsFrom B W W') (hB : B ≤ B') : KeepsFrom B' W W' := ⟨h.size, fun k o hk => h.same k o (Nat.le_trans hB hk)⟩
theorem keeps_put {B l : Nat} (W : World) (o : Obj) (h : l < B) : KeepsFrom B W (W.putObj l o) := KeepsFrom.of_grownBy (grownBy_putObj' W l o) (fun j e => by cases e; exact h)
/-- The loop's two blocks. -/
structure Bk (b : Nat) (r : Loop) (W : World) : Prop where
  df : W.heap[b]? = some (.deferred (some []))
  lo : W.heap[b + 1]? = some (.loop r)
theorem Bk.lt {b : Nat} {r : Loop} {W : World} (h : Bk b r W) : b + 1 < W.heap.size := (Array.getElem?_eq_some_iff.1 h.lo).1
theorem Bk.put {b : Nat} {r : Loop} {W : World} (h : Bk b r W) (r' : Loop) : Bk b r' (W.putObj (b + 1) (.loop r')) :=
  ⟨(World.putObj_heap_other (by omega)).trans h.df, World.putObj_heap_same h.lt⟩
theorem Bk.keep {b : Nat} {r : Loop} {W W' : World} (h : Bk b r W) (k : KeepsFrom b W W') : Bk b r W' :=
  ⟨k.same _ _ (Nat.le_refl _) h.df rfl, k.same _ _ (Nat.le_succ _) h.lo rfl⟩
theorem Bk.grow {b B : Nat} {r : Loop} {W W' : World} {row : Option Nat} (h : Bk b r W) (hB : b + 1 < B) (hg : W.grownBy W' row) (hr : ∀ x, row = some x → B ≤ x) : Bk b r W' :=
  ⟨(hg.block _ (by have := h.lt; omega) (fun e => by have := hr _ e.symm; omega)).trans h.df, (hg.block _ h.lt (fun e => by have := hr _ e.symm; omega)).trans h.lo⟩
theorem Bk.made (w : World) (r : Loop) : Bk w.heap.size r ((w.alloc (.deferred (some []))).alloc (.loop r)) :=
  ⟨(Below.heap_alloc _ _ _ (by simp)).trans (World.alloc_heap_new w _), by have := World.alloc_heap_new (w.alloc (.deferred (some []))) (.loop r); rwa [World.size_alloc] at this⟩
theorem range_own {α : Type} {g : Operand} {ps : Array Tmp} {assign body : Code} {Q : Exit → Act → World → Prop} {a : Act} {w : World}
    (hro : F.round = none) (h1 : 1 ≤ n) {gf : Nat} {fst lb : Array Value} (hg : a.eval g = .func (.func gf) fst lb) (hFg : F.fn gf) (eg : ∀ args w, (callFunc gf args).run P w = .ok (.enter gf args) w)
    {encs : α → Array Value} {Kp : World → World → Prop} {S Sp : List α → Prop} {N : Nat} {w0 : World} (hseq : SeqB F (n - 1) P gf fst lb encs Kp S Sp N w0)
    (hKt : ∀ {A B C : World}, Kp A B → Kp B C → Kp A C) (hKb : ∀ (W : World) (l : Nat) (o o' : Obj), w.heap.size ≤ l → W.heap[l]? = some o → o.isCells = false → o.isWalk = false → Kp W (W.putObj l o'))
    (hb0 : Below w0.heap.size w0 w) (hps : ∀ x, (encs x).size = ps.size)
    (I : List α → World → Prop) (Ix : List α → World → Prop) (hI : OwnFrom w.heap.size I) (hIx : OwnFrom w.heap.size Ix) (h0 : I [] w) (Ax : α → Act → World → Prop) (hAx : ∀ x a', OwnFrom w.heap.size (fun (_ : Unit) W => Ax x a' W))
    (hassign : ∀ (l : Nat) (pre : List α) (x : α) (W : World) (K : Act → World → Prop), I pre W → (∀ a' W', KeepsFrom w.heap.size W W' → Kp W W' → I pre W' → Ax x a' W' → K a' W') →
      assign.wpIn (F.inRound l) (n - 1 - 1) P (Exit.then K (fun _ _ _ => False)) { tmps := (ps.zip (encs x)).foldl (fun t (p, v) => t.setIfInBounds p v) a.tmps, defers := [] } W)
    (hbody : ∀ (l : Nat) (pre : List α) (x : α) (a' : Act) (W : World), w.heap.size ≤ l → (∃ r, W.heap[l]? = some (.loop r)) → I pre W → Ax x a' W → pre.length < N →
      body.wpIn (F.inRound l) (n - 1 - 1) P (ownPostG w.heap.size Kp I (fun c xs W' => c = .ret ∧ Ix xs W') (pre ++ [x]) W) a' W)
    (hdone : ∀ (xs : List α) (W : World), S xs → I xs W → W.heap[w.heap.size]? = some (.deferred (some [])) → Q .normal { a with defers := { target := .collected w.heap.size, args := #[] } :: a.defers } W)
    (hstop : ∀ (pre : List α) (W : World), Sp pre → Ix pre W → W.heap[w.heap.size]? = some (.deferred (some [])) → Code.ret.wpIn F n P Q { a with defers := { target := .collected w.heap.size, args := #[] } :: a.defers } W) :
    (Code.rangeFunc g ps assign body).wpIn F n P Q a w := by
  refine wpIn_rangeFunc fun fn hfn => ?_
  rw [hro]
  obtain ⟨b, hb⟩ : ∃ b, w.heap.size = b := ⟨_, rfl⟩
  obtain ⟨rc, hrc⟩ : ∃ rc : Loop, rc = { state := .ready, pending := none, fn, tmps := a.tmps, params := ps, assign, body, defers := w.heap.size } := ⟨_, rfl⟩
  have hmade := Bk.made w rc
  have hI1 : I [] ((w.alloc (.deferred (some []))).alloc (.loop rc)) := hI.alloc _ (hI.alloc _ h0)
  have hB1 : Below w0.heap.size w0 ((w.alloc (.deferred (some []))).alloc (.loop rc)) := hb0.trans ((((Below.refl _ w).alloc (Nat.le_refl _) _).alloc (by simp) _).mono hb0.size)
  have hent := run_enterLoop_outer (P := P) (w := w) fn a.tmps ps assign body
  rw [← hrc] at hent
  have hle : w.heap.size + 1 < ((w.alloc (.deferred (some []))).alloc (.loop rc)).heap.size := by simp
  revert hmade hI1 hB1 hent hle
  generalize (w.alloc (.deferred (some []))).alloc (.loop rc) = W1
  intro hmade hI1 hB1 hent hle
  refine ⟨_, _, W1, { target := .fn (.func gf) lb, args := fst ++ #[.func (.yield (w.heap.size + 1)) #[] #[]] }, W1, gf, fst ++ #[.func (.yield (w.heap.size + 1)) #[] #[]] ++ lb, W1, hent, ?_, ?_, ?_, fun _ => h1, ?_⟩
  · simp only [resolve, hg]
    simp [go_sem]
  · intro f' hf'; simp [Target.leads] at hf'; subst hf'; exact hFg
  · simp [invoke, go_sem, eg]
  refine (hseq (w.heap.size + 1) (fun pre W => I pre W ∧ Bk w.heap.size rc W) (fun pre W => Ix pre W ∧ Bk w.heap.size { rc with state := .done, pending := some .ret } W) W1 hB1
    (fun s A B row hs hg' hr => ⟨hI s A B row hs.1 hg' (fun x e => ⟨by have := (hr x e).1; omega, (hr x e).2⟩), hs.2.grow hle hg' (fun x e => (hr x e).1)⟩)
    (fun s A B row hs hg' hr => ⟨hIx s A B row hs.1 hg' (fun x e => ⟨by have := (hr x e).1; omega, (hr x e).2⟩), hs.2.grow hle hg' (fun x e => (hr x e).1)⟩)
    ?_ ⟨hI1, hmade⟩).mono ?_
  · rintro pre x W ⟨hi, hk⟩ hlen
    have hy := run_yield (P := P) (args := encs x) hk.lo (by rw [hrc]; exact hps x)
    refine ⟨_, _, _, _, hy, ?_⟩
    rw [hrc]
    refine roundIn_of_wpIn hfn (hassign _ pre x W _ hi ?_)
    rw [← hrc]
    intro a' Wa hkfa hkpa hia hax
    have hka := hk.keep hkfa
    refine ⟨_, run_beginRound hka.lo (by rw [hrc]), ?_⟩
    have hk2 := hka.put { rc with state := .busy }
    have hi2 : I pre (Wa.putObj (w.heap.size + 1) (.loop { rc with state := .busy })) := hI.putObj _ hia (Nat.le_succ _) hka.lo rfl
    have hx2 : Ax x a' (Wa.putObj (w.heap.size + 1) (.loop { rc with state := .busy })) := (hAx x a').putObj (s := ()) _ hax (Nat.le_succ _) hka.lo rfl
    have hp2 : Kp W (Wa.putObj (w.heap.size + 1) (.loop { rc with state := .busy })) := hKt hkpa (hKb _ _ _ _ (Nat.le_succ _) hka.lo rfl rfl)
    have hkk : KeepsFrom W1.heap.size W (Wa.putObj (w.heap.size + 1) (.loop { rc with state := .busy })) := (keeps_mono hkfa (by omega)).trans (keeps_put Wa _ hle)
    have hbb : ∀ c, c = body → c.wpIn (F.inRound (w.heap.size + 1)) (n - 1 - 1) P (ownPostG w.heap.size Kp I (fun c xs W' => c = .ret ∧ Ix xs W') (pre ++ [x]) (Wa.putObj (w.heap.size + 1) (.loop { rc with state := .busy }))) a' (Wa.putObj (w.heap.size + 1) (.loop { rc with state := .busy })) := fun c e => by
      subst e
      exact hbody (w.heap.size + 1) pre x a' _ (Nat.le_succ _) ⟨_, hk2.lo⟩ hi2 hx2 hlen
    refine wpIn_mono (hbb rc.body (by rw [hrc])) ?_
    rintro e a3 W3 hp
    cases e with
    | normal =>
      obtain ⟨hkf, hkp, hi3⟩ := hp
      have hk3 := hk2.keep hkf
      have er : ({ ({ rc with state := .busy } : Loop) with state := if (none : Option Code).isNone then .ready else .done, pending := none } : Loop) = rc := by rw [hrc]; rfl
      have hr := run_endRound (P := P) none hk3.lo
      have hk4 := hk3.put rc
      rw [er] at hr
      exact ⟨_, _, hr, (hkk.trans (keeps_mono hkf (by omega))).trans (keeps_put W3 _ hle), .inl ⟨rfl, ⟨hI.putObj _ hi3 (Nat.le_succ _) hk3.lo rfl, hk4⟩, hKt (hKt hp2 hkp) (hKb _ _ _ _ (Nat.le_succ _) hk3.lo rfl rfl)⟩⟩
    | ret =>
      obtain ⟨hkf, -, hi3⟩ := hp
      have hk3 := hk2.keep hkf
      exact ⟨_, _, run_endRound (P := P) (some .ret) hk3.lo, (hkk.trans (keeps_mono hkf (by omega))).trans (keeps_put W3 _ hle), .inr ⟨rfl, hIx.putObj _ hi3 (Nat.le_succ _) hk3.lo rfl, hk3.put _⟩⟩
    | exit id => exact absurd hp.2.1 (by intro h; cases h)
    | goto t => exact absurd hp.2.1 (by intro h; cases h)
    | panic ch => exact hp.elim
    | outgrown => exact hp.elim
  · rintro e W2 ⟨⟨v, rfl⟩, ⟨xs, hS, hi, hk⟩ | ⟨pre, hSp, hi, hk⟩⟩
    · have hr := run_endLoop (P := P) hk.lo (by rw [hrc]; simp)
      exact ⟨none, _, by rw [hr, hrc], hdone xs _ hS (hI.putObj _ hi (Nat.le_succ _) hk.lo rfl) (hk.put _).df⟩
    · have hr := run_endLoop (P := P) hk.lo (by simp)
      exact ⟨some .ret, _, hr, hstop pre _ hSp (hIx.putObj _ hi (Nat.le_succ _) hk.lo rfl) (hk.put _).df⟩
end Go.Proofs.YtoaejcppfmjhdaaGreatDoor.rb
/- Package eval: the values of a box, as an iterator. Conditions: as each theorem says. -/
namespace Go.Proofs.YtoaejcppfmjhdaaGreatDoor.ov
open Go.RowKit Go.Shelf
open ev (VV)
attribute [local go_sem] Oper.semAt_some
set_option maxRecDepth 100000 in
set_option maxHeartbeats 1600000 in
theorem rows_g (mb : Option Nat) (fc fr tc tr : Int) (h1 : 0 ≤ fr) (h2 : 0 ≤ tr) (h3 : tr ≤ 1000000) (h4 : fr ≤ 1000000) (w : World) : Calls Tryz.prog 200 #[.agg #[.map mb, .int .i64 fc, .int .i64 fr, .int .i64 tc, .int .i64 tr]] w fun e w' => e = .returned (.int .i64 (tr - fr + 1)) ∧ Below w.heap.size w w' := by
  go_enter Tryz.func200, Tryz.ntmps200
  go_wp2_with fail
  go_ret
  exact ⟨rfl, (Below.refl _ _).alloc (Nat.le_refl _) _⟩
set_option maxRecDepth 100000 in
set_option maxHeartbeats 1600000 in
theorem cols_g (mb : Option Nat) (fc fr tc tr : Int) (h1 : 0 ≤ fc) (h2 : 0 ≤ tc) (h3 : tc ≤ 1000000) (h4 : fc ≤ 1000000) (w : World) : Calls Tryz.prog 202 #[.agg #[.map mb, .int .i64 fc, .int .i64 fr, .int .i64 tc, .int .i64 tr]] w fun e w' => e = .returned (.int .i64 (tc - fc + 1)) ∧ Below w.heap.size w w' := by
  go_enter Tryz.func202, Tryz.ntmps202
  go_wp2_with fail
  go_ret
  exact ⟨rfl, (Below.refl _ _).alloc (Nat.le_refl _) _⟩
set_option maxRecDepth 100000 in
set_option maxHeartbeats 1600000 in
theorem at_g (mb : Option Nat) (fc fr tc tr : Int) (r c : Int) (h1 : 0 ≤ fc) (h2 : 0 ≤ fr) (h3 : fc ≤ 1000000) (h4 : fr ≤ 1000000) (hr : 0 ≤ r) (hr' : r ≤ 1000000) (hc : 0 ≤ c) (hc' : c ≤ 1000000) (k m : Int) (z : ByteArray) (w : World)
    (HL : Hid (∀ wx, Below w.heap.size w wx → (Instr.lookup 68 (.map mb) (.agg #[.int .i64 (fc + c - 1), .int .i64 (fr + r - 1)]) false).run Tryz.prog wx = .ok (VV k m z) wx)) :
    Calls Tryz.prog 251 #[.agg #[.map mb, .int .i64 fc, .int .i64 fr, .int .i64 tc, .int .i64 tr], .int .i64 r, .int .i64 c] w fun e w' => e = .returned (VV k m z) ∧ Below w.heap.size w w' := by
  obtain ⟨hA, hR⟩ := ev.two_new w (.cells #[.map mb, .int .i64 fc, .int .i64 fr, .int .i64 tc, .int .i64 tr] 185) (.cells #[.int .i64 0, .int .i64 0, .string nul] 31)
  have hbW : Below w.heap.size w ((w.alloc (.cells #[.map mb, .int .i64 fc, .int .i64 fr, .int .i64 tc, .int .i64 tr] 185)).alloc (.cells #[.int .i64 0, .int .i64 0, .string nul] 31)) := ((Below.refl _ _).alloc (Nat.le_refl _) _).alloc (by simp) _
  have hl := HL.out _ hbW
  clear hA HL
  obtain ⟨c0, c1, c2⟩ := ev.cells3v hR
  have f0 := ev.frz hR
  have HB : Hid (Below w.heap.size w ((w.alloc (.cells #[.map mb, .int .i64 fc, .int .i64 fr, .int .i64 tc, .int .i64 tr] 185)).alloc (.cells #[.int .i64 0, .int .i64 0, .string nul] 31))) := hbW
  clear hbW hR
  go_enter Tryz.func251, Tryz.ntmps251
  go_wp2_with fail
  exact bodyPost_ret (v := VV k m z) (by simp [results, Tryz.results251, go_sem]) rfl ⟨rfl, by (repeat (first | exact HB.out | exact Below.refl _ _ | (refine Below.setCell ?_ (by first | omega | (simp <;> omega)) _) | (refine Below.alloc ?_ (by first | omega | (simp <;> omega)) _)))⟩
/-- A cell's value with its number. -/
structure Nv where
  i : Int
  k : Int
  n : Int
  s : ByteArray
abbrev Nv.enc (x : Nv) : Array Value := #[.int .i64 x.i, VV x.k x.n x.s]
def uptoN (X : Nat → Nv) (n : Nat) : List Nv := (List.range n).map X
theorem uptoN_succ (X : Nat → Nv) (n : Nat) : uptoN X (n + 1) = uptoN X n ++ [X n] := by simp [uptoN, List.range_succ]
theorem uptoN_len (X : Nat → Nv) (n : Nat) : (uptoN X n).length = n := by simp [uptoN]
theorem uptoN_pre (X : Nat → Nv) {m n : Nat} (h : m ≤ n) : uptoN X m <+: uptoN X n := by
  obtain ⟨d, rfl⟩ : ∃ d, n = m + d := ⟨n - m, by omega⟩
  clear h
  induction d with
  | zero => exact List.prefix_rfl
  | succ d ih => rw [← Nat.add_assoc, uptoN_succ]; exact ih.trans (List.prefix_append _ _)
theorem cells5 {W : World} {b : Nat} {a0 a1 a2 a3 a4 : Value} {t : TypeId} (h : W.heap[b]? = some (.cells #[a0, a1, a2, a3, a4] t (0, 0))) : W.cell? ⟨b, 0, none⟩ = some a0 ∧ W.cell? ⟨b, 1, none⟩ = some a1 ∧ W.cell? ⟨b, 2, none⟩ = some a2 ∧ W.cell? ⟨b, 3, none⟩ = some a3 ∧ W.cell? ⟨b, 4, none⟩ = some a4 := by
  refine ⟨?_, ?_, ?_, ?_, ?_⟩ <;> simp [World.cell?, h]
/-- Kept: what lay below, and the blocks of iterators' own variables. -/
structure KC (n : Nat) (W W' : World) : Prop where
  below : Below n W W'
  keep : ∀ (b : Nat) (cs : Array Value) (t : TypeId), t = 180 ∨ t = 185 → W.heap[b]? = some (.cells cs t (0, 0)) → W'.heap[b]? = some (.cells cs t (0, 0))
set_option maxRecDepth 100000 in
set_option maxHeartbeats 4000000 in
theorem values_in (n : Nat) (hn : 1 ≤ n) (mb : Option Nat) (fc fr tr : Int) (R : Nat) (h1 : 1 ≤ fc) (h3 : fc ≤ 1000) (h2 : 1 ≤ fr) (h4 : fr ≤ 1000) (hR : tr - fr + 1 = R) (hR' : R ≤ 1000) (X : Nat → Nv) (hX : ∀ i, i < R → (X i).i = i + 1) (w : World)
    (HL : Hid (∀ (i : Nat) wx, i < R → Below w.heap.size w wx → (Instr.lookup 68 (.map mb) (.agg #[.int .i64 fc, .int .i64 (fr + i)]) false).run Tryz.prog wx = .ok (VV (X i).k (X i).n (X i).s) wx))
    (l : Nat) (J Jx : List Nv → World → Prop) (W : World) (hW : Below w.heap.size w W) (hJ : OwnFrom W.heap.size J)
    (hY : ∀ pre x W1, J pre W1 → pre.length < R → YieldAt Fence.wide (n - 1) Tryz.prog l (Nv.enc x) W1 fun e W' =>
      KeepsFrom W.heap.size W1 W' ∧ ((e = .returned (.bool true) ∧ J (pre ++ [x]) W' ∧ KC w.heap.size W1 W') ∨ (e = .returned (.bool false) ∧ Jx (pre ++ [x]) W')))
    (h0 : J [] W) :
    CallsIn Fence.wide n Tryz.prog 253 #[.agg #[.map mb, .int .i64 fc, .int .i64 fr, .int .i64 fc, .int .i64 tr], .func (.yield l) #[] #[]] W fun e W' => (∃ v, e = .returned v) ∧
      ((∃ ys, ys = uptoN X R ∧ J ys W') ∨ (∃ pre, pre <+: uptoN X R ∧ Jx pre W')) := by
  refine callsIn_of_wp Tryz.func253 rfl trivial ?_ rfl
  simp only [Tryz.ntmps253, List.size_toArray, List.length_cons, List.length_nil, Nat.reduceAdd, Nat.reduceSub, Array.replicate_succ, Array.replicate_zero, List.push_toArray, List.append_toArray, List.nil_append, List.cons_append]
  have HR : Hid (∀ wx, Calls Tryz.prog 200 #[.agg #[.map mb, .int .i64 fc, .int .i64 fr, .int .i64 fc, .int .i64 tr]] wx fun e w' => e = .returned (.int .i64 R) ∧ Below wx.heap.size wx w') := fun wx => by rw [← hR]; exact rows_g mb fc fr fc tr (by omega) (by omega) (by omega) (by omega) wx
  have HC : Hid (∀ wx, Calls Tryz.prog 202 #[.agg #[.map mb, .int .i64 fc, .int .i64 fr, .int .i64 fc, .int .i64 tr]] wx fun e w' => e = .returned (.int .i64 1) ∧ Below wx.heap.size wx w') := fun wx => by have := cols_g mb fc fr fc tr (by omega) (by omega) (by omega) (by omega) wx; rw [show fc - fc + 1 = 1 by omega] at this; exact this
  have HA : Hid (∀ (i : Nat) wx, i < R → Below w.heap.size w wx → Calls Tryz.prog 251 #[.agg #[.map mb, .int .i64 fc, .int .i64 fr, .int .i64 fc, .int .i64 tr], .int .i64 ((i : Int) + 1), .int .i64 1] wx fun e w' => e = .returned (VV (X i).k (X i).n (X i).s) ∧ Below wx.heap.size wx w') := fun i wx hi hb =>
    at_g mb fc fr fc tr _ _ (by omega) (by omega) (by omega) (by omega) (by omega) (by omega) (by omega) (by omega) _ _ _ wx (fun wy hy => by rw [show fc + 1 - 1 = fc by omega, show fr + ((i : Int) + 1) - 1 = fr + i by omega]; exact HL.out i wy hi (bnext hb hy hb.size))
  have hB0 : Below w.heap.size w (W.alloc (.cells #[.map mb, .int .i64 fc, .int .i64 fr, .int .i64 fc, .int .i64 tr] 185)) := hW.alloc hW.size _
  have hG0 := heap_alloc_new W (.cells #[.map mb, .int .i64 fc, .int .i64 fr, .int .i64 fc, .int .i64 tr] 185)
  have hJ0 : J [] (W.alloc (.cells #[.map mb, .int .i64 fc, .int .i64 fr, .int .i64 fc, .int .i64 tr] 185)) := hJ [] W _ none h0 (World.grownBy_alloc W _ none) (fun r e => by cases e)
  gi_wp2
  refine ⟨trivial, ?_⟩
  refine (callsIn_wide.2 (HR.out _)).mono ?_
  rintro e w1 ⟨rfl, hb1⟩
  have hB1 := bnext hB0 hb1 hB0.size
  have hG1 := (hb1.block _ (fm.lt_blk hG0)).trans hG0
  have hJ1 : J [] w1 := hJ _ _ _ none hJ0 (grown_of hb1) (fun r e => by cases e)
  clear hB0 hG0 hJ0 hb1
  have hd : 1 ≤ n := hn
  gi_wp2_with fail
  gi_loopw [4, 9] (fun n4 n9 wr => ∃ j : Nat, j ≤ R ∧ n4 = .int .i64 j ∧ n9 = .int .i64 j ∧ J (uptoN X j) wr ∧ wr.heap[W.heap.size]? = some (.cells #[.map mb, .int .i64 fc, .int .i64 fr, .int .i64 fc, .int .i64 tr] 185 (0, 0)) ∧ Below w.heap.size w wr) (fun _ i _ => R - (intOf i).toNat)
  case atStart => exact ⟨0, Nat.zero_le _, rfl, rfl, hJ1, hG1, hB1⟩
  case round =>
    obtain ⟨j, hj, rfl, rfl, hJs, hGs, hbs⟩ := hrel
    by_cases hlt : j < R
    · have hlt' : (j : Int) < (R : Int) := by omega
      have hj0 : (0 : Int) ≤ (j : Int) := by omega
      have hjR : (R : Int) ≤ 1000 := by omega
      obtain ⟨g0, g1, g2, g3, g4⟩ := cells5 hGs
      gi_wp2_with fail
      refine ⟨trivial, ?_⟩
      refine (callsIn_wide.2 (HC.out _)).mono ?_
      rintro e w2 ⟨rfl, hb2⟩
      have hJ2 : J (uptoN X j) w2 := hJ _ _ _ none hJs (grown_of hb2) (fun r e => by cases e)
      have hG2 := (hb2.block _ (fm.lt_blk hGs)).trans hGs
      have hB2 := bnext hbs hb2 hbs.size
      clear g0 g1 g2 g3 g4 hJs hGs hbs hb2 hJ1 hG1 hB1
      gi_wp2_with fail
      gi_loopw [4, 14] (fun n4 n14 wr2 => wr2.heap[W.heap.size]? = some (.cells #[.map mb, .int .i64 fc, .int .i64 fr, .int .i64 fc, .int .i64 tr] 185 (0, 0)) ∧ Below w.heap.size w wr2 ∧ ((n14 = .int .i64 0 ∧ n4 = .int .i64 j ∧ J (uptoN X j) wr2) ∨ (n14 = .int .i64 1 ∧ n4 = .int .i64 ((j : Int) + 1) ∧ J (uptoN X (j + 1)) wr2))) (fun _ i _ => 1 - (intOf i).toNat)
      case atStart => exact ⟨hG2, hB2, .inl ⟨rfl, rfl, hJ2⟩⟩
      case round =>
        clear hG2 hB2 hJ2
        obtain ⟨hGs, hbs, ⟨rfl, rfl, hJs⟩ | ⟨rfl, rfl, hJs⟩⟩ := hrel
        · obtain ⟨g0, g1, g2, g3, g4⟩ := cells5 hGs
          gi_wp2_with fail
          refine ⟨trivial, ?_⟩
          refine (callsIn_wide.2 (HA.out j _ hlt hbs)).mono ?_
          rintro e w3 ⟨rfl, hb3⟩
          have hJ3 : J (uptoN X j) w3 := hJ _ _ _ none hJs (grown_of hb3) (fun r e => by cases e)
          have hG3 := (hb3.block _ (fm.lt_blk hGs)).trans hGs
          have hB3 := bnext hbs hb3 hbs.size
          clear g0 g1 g2 g3 g4 hJs hGs hbs hb3
          obtain ⟨fn, tmps, assign, body, hy, hRd⟩ := hY _ (X j) w3 hJ3 (by rw [uptoN_len]; exact hlt)
          dsimp only [Nv.enc] at hy
          rw [hX j hlt] at hy
          gi_wp2_with fail
          refine hRd.mono ?_
          intro e W3 hcase
          obtain ⟨b, rfl, hcb⟩ := yes_no hcase.2
          clear hy hRd hcase
          rcases hcb with ⟨rfl, hJ4, hk4⟩ | ⟨rfl, hJx4⟩
          · gi_wp2_with fail
            exact ⟨⟨hk4.keep _ _ _ (.inr rfl) hG3, hB3.trans hk4.below, .inr ⟨rfl, rfl, by rw [uptoN_succ]; exact hJ4⟩⟩, by simp [intOf]⟩
          · gi_wp2_with fail
            refine bodyPost_ret (results_none rfl _ _ _) rfl ?_
            exact ⟨⟨_, rfl⟩, .inr ⟨_, by rw [← uptoN_succ]; exact uptoN_pre X (by omega), hJx4⟩⟩
        · gi_wp2_with fail
          exact ⟨⟨j + 1, hlt, by simp, by simp, hJs, hGs, hbs⟩, by simp [intOf]; omega⟩
    · obtain rfl : j = R := by omega
      gi_wp2
      go_end0
      exact ⟨⟨_, rfl⟩, .inl ⟨_, rfl, hJs⟩⟩
/-- The values of a column's cells, as an iterator. -/
theorem values_stops (n : Nat) (hn : 1 ≤ n) (mb : Option Nat) (fc fr tr : Int) (R : Nat) (h1 : 1 ≤ fc) (h3 : fc ≤ 1000) (h2 : 1 ≤ fr) (h4 : fr ≤ 1000) (hR : tr - fr + 1 = R) (hR' : R ≤ 1000) (X : Nat → Nv) (hX : ∀ i, i < R → (X i).i = i + 1) (w : World)
    (HL : Hid (∀ (i : Nat) wx, i < R → Below w.heap.size w wx → (Instr.lookup 68 (.map mb) (.agg #[.int .i64 fc, .int .i64 (fr + i)]) false).run Tryz.prog wx = .ok (VV (X i).k (X i).n (X i).s) wx)) :
    rb.SeqB Fence.wide n Tryz.prog 253 #[.agg #[.map mb, .int .i64 fc, .int .i64 fr, .int .i64 fc, .int .i64 tr]] #[] Nv.enc (KC w.heap.size) (fun ys => ys = uptoN X R) (fun pre => pre <+: uptoN X R) (uptoN X R).length w := fun l J Jx W hW hJ _ hY h0 =>
  values_in n hn mb fc fr tr R h1 h3 h2 h4 hR hR' X hX w HL l J Jx W hW hJ (fun pre x W1 q1 q2 => hY pre x W1 q1 (by rw [uptoN_len]; exact q2)) h0
end Go.Proofs.YtoaejcppfmjhdaaGreatDoor.ov
/- Package eval: what comes of the arguments of a call, boxes among them. Conditions: as each theorem says. -/
namespace Go.Proofs.YtoaejcppfmjhdaaGreatDoor.ov
open Go.RowKit Go.Shelf
open ev (VV)
attribute [local go_sem] Oper.semAt_some
/-- An argument: a value, or a box of one column. -/
structure Ag where
  box : Bool
  k : Int
  n : Int
  s : ByteArray
  mb : Option Nat
  fc : Int
  fr : Int
  tc : Int
  tr : Int
  R : Nat
  X : Nat → Nv
abbrev Ag.g (x : Ag) : Array Value := #[.map x.mb, .int .i64 x.fc, .int .i64 x.fr, .int .i64 x.tc, .int .i64 x.tr]
abbrev nvI (v : Nv) : It := ⟨v.k, v.n, v.s, true⟩
def agL (x : Ag) : List It := if x.box then (uptoN x.X x.R).map nvI else [⟨x.k, x.n, x.s, false⟩]
def flatA (A : Nat → Ag) (n : Nat) : List It := (List.range n).flatMap fun i => agL (A i)
theorem flatA_succ (A : Nat → Ag) (n : Nat) : flatA A (n + 1) = flatA A n ++ agL (A n) := by simp [flatA, List.range_succ]
theorem flatA_pre (A : Nat → Ag) {m n : Nat} (h : m ≤ n) : flatA A m <+: flatA A n := by
  obtain ⟨d, rfl⟩ : ∃ d, n = m + d := ⟨n - m, by omega⟩
  clear h
  induction d with
  | zero => exact List.prefix_rfl
  | succ d ih => rw [← Nat.add_assoc, flatA_succ]; exact ih.trans (List.prefix_append _ _)
/-- The marks of loops that have ended, as deferred calls. -/
structure Mk (lo : Nat) (rs : List Nat) (W : World) : Prop where
  at' : ∀ r ∈ rs, lo ≤ r ∧ W.heap[r]? = some (.deferred (some []))
  nd : rs.Nodup
abbrev mks (rs : List Nat) : List Deferred := rs.map fun r => ({ target := .collected r, args := #[] } : Deferred)
theorem Mk.nil (lo : Nat) (W : World) : Mk lo [] W := ⟨fun _ h => absurd h List.not_mem_nil, List.nodup_nil⟩
theorem Mk.next {lo : Nat} {rs : List Nat} {W W' : World} (h : Mk lo rs W) (hb : Below W.heap.size W W') : Mk lo rs W' :=
  ⟨fun r hr => ⟨(h.at' r hr).1, (hb.block _ (fm.lt_blk (h.at' r hr).2)).trans (h.at' r hr).2⟩, h.nd⟩
theorem Mk.keep {lo : Nat} {rs : List Nat} {W W' : World} (h : Mk lo rs W) (hb : KeepsFrom lo W W') : Mk lo rs W' :=
  ⟨fun r hr => ⟨(h.at' r hr).1, hb.same _ _ (h.at' r hr).1 (h.at' r hr).2 rfl⟩, h.nd⟩
theorem no_panic {F : Fence} {n : Nat} {P : Program} {c : Code} {K : Act → World → Prop} {Q : Exit → Act → World → Prop} {a : Act} {w : World} (h : c.wpIn F n P (Exit.then K (fun _ _ _ => False)) a w) : c.wpIn F n P (Exit.then K Q) a w :=
  wpIn_mono h (fun e a w hq => by cases e <;> first | exact hq | exact hq.elim)
theorem KC.trans {n : Nat} {A B C : World} (h : KC n A B) (k : KC n B C) : KC n A C := ⟨h.below.trans k.below, fun b cs t ht e => k.keep b cs t ht (h.keep b cs t ht e)⟩
theorem KC.of {n : Nat} {W W' : World} (h : Below W.heap.size W W') (hn : n ≤ W.heap.size) : KC n W W' := ⟨h.mono hn, fun b _ _ _ e => (h.block b (fm.lt_blk e)).trans e⟩
theorem KC.put {n : Nat} {w : World} (hn : n ≤ w.heap.size) (W : World) (l : Nat) (o o' : Obj) (hl : w.heap.size ≤ l) (h : W.heap[l]? = some o) (h1 : o.isCells = false) (h2 : o.isWalk = false) : KC n W (W.putObj l o') :=
  ⟨belowK_b hn W l o o' hl h h1 h2, fun b cs t _ e => ((grownBy_putObj' W l o').block b (fm.lt_blk e) (fun q => by cases q; rw [h] at e; cases e; cases h1)).trans e⟩
theorem round_any {n n' l l' : Nat} {P : Program} {f : FuncId} {tmps : Array Value} {assign body : Code} {w : World} {R : Ending → World → Prop} (h : RoundIn Fence.wide n P l f tmps assign body w R) : RoundIn (Fence.wide.inRound l') n' P l f tmps assign body w R := ⟨h.1, fun c cs _ => h.2 c cs (by first | trivial | simp [Fence.room, Fence.wide] | (intro d h; cases h))⟩
theorem keeps_of {B : Nat} {W W' : World} (h : Below W.heap.size W W') : KeepsFrom B W W' := ⟨h.size, fun k _ _ hk _ => (h.block k (fm.lt_blk hk)).trans hk⟩
/-- What lies in cells stays where blocks without cells are turned. -/
theorem cells_stay {W W' : World} {row : Option Nat} {b : Nat} {cs : Array Value} {t : TypeId} (h : W.heap[b]? = some (.cells cs t (0, 0))) (hg : W.grownBy W' row) (hr : ∀ r, row = some r → ∃ o : Obj, W.heap[r]? = some o ∧ o.isCells = false) : W'.heap[b]? = some (.cells cs t (0, 0)) :=
  (hg.block b (fm.lt_blk h) (fun e => by obtain ⟨o, ho, hc⟩ := hr b e.symm; rw [h] at ho; cases ho; cases hc)).trans h
theorem Mk.grow {lo B : Nat} {rs : List Nat} {W W' : World} {row : Option Nat} (h : Mk lo rs W) (hB : ∀ r ∈ rs, r < B) (hg : W.grownBy W' row) (hr : ∀ x, row = some x → B ≤ x) : Mk lo rs W' :=
  ⟨fun r m => ⟨(h.at' r m).1, (hg.block r (fm.lt_blk (h.at' r m).2) (fun e => by have := hr _ e.symm; have := hB r m; omega)).trans (h.at' r m).2⟩, h.nd⟩
/-- Leaving a function whose deferred calls are marks. -/
theorem leaves_marks {F : Fence} {n : Nat} {P : Program} {fn : Func} {tmps : Array Value} {R : Ending → World → Prop} (lo : Nat) (u : FrameMode) (hu : u ≠ .run) (Z : World → Prop) (hZ : ∀ W r o o', Z W → lo ≤ r → W.heap[r]? = some o → o.isCells = false → Z (W.putObj r o'))
    (hR : ∀ W, Z W → LeavesIn F n P fn tmps R [] u W) : ∀ (rs : List Nat) (W : World), Mk lo rs W → Z W → LeavesInM F n P fn tmps R (mks rs) u W
  | [], W, _, hz => hR W hz
  | r :: rs, W, hm, hz => by
    obtain ⟨h1, h2⟩ := hm.at' r (by simp)
    refine ⟨hu, .inl ⟨r, _, rfl, run_takeDeferred h2, leaves_marks lo u hu Z hZ hR rs _ ⟨fun x hx => ?_, (List.nodup_cons.1 hm.nd).2⟩ (hZ W r _ _ hz h1 h2 rfl)⟩⟩
    obtain ⟨g1, g2⟩ := hm.at' x (by simp [hx])
    refine ⟨g1, (World.putObj_heap_other (fun e => ?_)).trans g2⟩
    subst e
    exact (List.nodup_cons.1 hm.nd).1 hx
set_option maxRecDepth 100000 in
set_option maxHeartbeats 4000000 in
theorem items_all (m : Nat) (hm : 2 ≤ m) (M : Value) (p : Option Addr) (q c : Nat) (hq : q ≤ 1000000) (A : Nat → Ag) (w : World) (Bc : Nat) (hBc : w.heap[Bc]? = some (.cells #[M, .slice p q c] 123 (0, 0)))
    (HG : Hid (∀ (i : Nat) wx, i < q → Below w.heap.size w wx → Calls Tryz.prog 266 #[.agg #[M, .slice p q c], .int .i64 i] wx fun e w' => e = .returned (.tuple #[.agg (A i).g, .bool (A i).box]) ∧ Below wx.heap.size wx w'))
    (HV : Hid (∀ (i : Nat) wx, i < q → (A i).box = false → Below w.heap.size w wx → Calls Tryz.prog 243 #[.agg #[M, .slice p q c], .int .i64 i] wx fun e w' => e = .returned (VV (A i).k (A i).n (A i).s) ∧ Below wx.heap.size wx w'))
    (HS : Hid (∀ i, i < q → (A i).box = true → rb.SeqB Fence.wide (m - 1) Tryz.prog 253 #[.agg (A i).g] #[] Nv.enc (KC w.heap.size) (fun ys => ys = uptoN (A i).X (A i).R) (fun pre => pre <+: uptoN (A i).X (A i).R) (uptoN (A i).X (A i).R).length w))
    (l : Nat) (J Jx : List It → World → Prop) (W : World) (hW : Below w.heap.size w W) (hJ : OwnFrom W.heap.size J) (hJx : OwnFrom W.heap.size Jx)
    (hY : ∀ pre x W1, J pre W1 → pre.length < (flatA A q).length → YieldAt Fence.wide (m - 1) Tryz.prog l (It.enc x) W1 fun e W' =>
      KeepsFrom W.heap.size W1 W' ∧ ((e = .returned (.bool true) ∧ J (pre ++ [x]) W' ∧ KC w.heap.size W1 W') ∨ (e = .returned (.bool false) ∧ Jx (pre ++ [x]) W')))
    (h0 : J [] W) :
    CallsIn Fence.wide m Tryz.prog 265 #[.func (.yield l) #[] #[], .pointer (some ⟨Bc, 0, none⟩)] W fun e W' => (∃ v, e = .returned v) ∧
      ((∃ ys, ys = flatA A q ∧ J ys W') ∨ (∃ pre, pre <+: flatA A q ∧ Jx pre W')) := by
  have hB0 := hW.alloc hW.size (.cells #[.func (.yield l) #[] #[]] 180)
  have hb0 := (hW.block _ (fm.lt_blk hBc)).trans hBc
  have hbc := (hB0.block _ (fm.lt_blk hBc)).trans hBc
  have c0 : (W.alloc (.cells #[.func (.yield l) #[] #[]] 180)).cell? ⟨Bc, 0, none⟩ = some M := by simp [World.cell?, hbc]
  have c1 : (W.alloc (.cells #[.func (.yield l) #[] #[]] 180)).cell? ⟨Bc, 1, none⟩ = some (.slice p q c) := by simp [World.cell?, hbc]
  have hJ0 : J [] (W.alloc (.cells #[.func (.yield l) #[] #[]] 180)) := hJ [] W _ none h0 (World.grownBy_alloc W _ none) (fun r e => by cases e)
  have hY0 := heap_alloc_new W (.cells #[.func (.yield l) #[] #[]] 180)
  refine callsIn_of_wp_marks Tryz.func265 rfl trivial ?_
  simp only [Tryz.ntmps265, List.size_toArray, List.length_cons, List.length_nil, Nat.reduceAdd, Nat.reduceSub, Array.replicate_succ, Array.replicate_zero, List.push_toArray, List.append_toArray, List.nil_append, List.cons_append]
  gi_wp2
  refine wpIn_loop (fun a' wr => ∃ (j : Nat) (rs : List Nat) (v3 v4 v5 v6 v7 v12 v13 v14 v15 v16 v17 v18 v19 v20 v21 v22 v23 v24 v25 v26 v27 v28 v29 v30 v31 v32 v33 v34 v35 v36 : Value), a' = ⟨#[.func (.yield l) #[] #[], .pointer (some ⟨Bc, 0, none⟩), .pointer (some ⟨W.heap.size, 0, none⟩), v3, v4, v5, v6, v7, .pointer (some ⟨Bc, 1, none⟩), .slice p q c, .int .i64 q, .int .i64 j, v12, v13, v14, v15, v16, v17, v18, v19, v20, v21, v22, v23, v24, v25, v26, v27, v28, v29, v30, v31, v32, v33, v34, v35, v36], mks rs⟩ ∧ j ≤ q ∧ J (flatA A j) wr ∧ wr.heap[W.heap.size]? = some (.cells #[.func (.yield l) #[] #[]] 180 (0, 0)) ∧ Below w.heap.size w wr ∧ Mk W.heap.size rs wr) (fun a' _ => q - (intOf (a'.tmps.getD 11 undef)).toNat) ⟨0, [], _, _, _, _, _, _, _, _, _, _, _, _, _, _, _, _, _, _, _, _, _, _, _, _, _, _, _, _, _, _, rfl, Nat.zero_le _, hJ0, hY0, hB0, Mk.nil _ _⟩ ?_
  clear hB0 hb0 hbc c0 c1 hJ0 hY0 h0
  rintro a' wr ⟨j, rs, v3, v4, v5, v6, v7, v12, v13, v14, v15, v16, v17, v18, v19, v20, v21, v22, v23, v24, v25, v26, v27, v28, v29, v30, v31, v32, v33, v34, v35, v36, rfl, hj, hJs, hYs, hbs, hMs⟩
  by_cases hlt : j < q
  · have hlt' : (j : Int) < (q : Int) := by omega
    have hbc1 := (hbs.block _ (fm.lt_blk hBc)).trans hBc
    have d0 : wr.cell? ⟨Bc, 0, none⟩ = some M := by simp [World.cell?, hbc1]
    have d1 : wr.cell? ⟨Bc, 1, none⟩ = some (.slice p q c) := by simp [World.cell?, hbc1]
    have HGj : Hid (∀ wx, Below w.heap.size w wx → Calls Tryz.prog 266 #[.agg #[M, .slice p q c], .int .i64 j] wx fun e w' => e = .returned (.tuple #[.agg (A j).g, .bool (A j).box]) ∧ Below wx.heap.size wx w') := fun wx hb => HG.out j wx hlt hb
    have HVj : Hid (∀ wx, (A j).box = false → Below w.heap.size w wx → Calls Tryz.prog 243 #[.agg #[M, .slice p q c], .int .i64 j] wx fun e w' => e = .returned (VV (A j).k (A j).n (A j).s) ∧ Below wx.heap.size wx w') := fun wx h hb => HV.out j wx hlt h hb
    have HSj := HS.out j hlt
    have hfs := flatA_succ A j
    have hpre := flatA_pre A (show j + 1 ≤ q from hlt)
    generalize A j = aj at HGj HVj HSj hfs
    obtain ⟨bx, ak, an, az, mb, fc, fr, tc, tr, R, X⟩ := aj
    dsimp only [Ag.g] at HGj HVj HSj
    have HSJ := show Hid _ from HSj
    clear HSj HG HV HS
    gi_wp2_with fail
    refine ⟨trivial, fun _ => by omega, ?_⟩
    refine (callsIn_wide.2 (HGj.out wr hbs)).mono ?_
    rintro e w1 ⟨rfl, hb1⟩
    have hb2 : Below w1.heap.size w1 (w1.alloc (.cells #[.map mb, .int .i64 fc, .int .i64 fr, .int .i64 tc, .int .i64 tr] 185)) := (Below.refl _ _).alloc (Nat.le_refl _) _
    have hbw1 := bnext hbs hb1 hbs.size
    have hbs2 := bnext hbw1 hb2 hbw1.size
    have hbc2 := (hbs2.block _ (fm.lt_blk hBc)).trans hBc
    have hb12 := bnext hb1 hb2 hb1.size
    have hY2 := (hb12.block _ (fm.lt_blk hYs)).trans hYs
    have hM2 := hMs.next hb12
    have hJ2 : J (flatA A j) (w1.alloc (.cells #[.map mb, .int .i64 fc, .int .i64 fr, .int .i64 tc, .int .i64 tr] 185)) := hJ _ wr _ none hJs (grown_of hb12) (fun r e => by cases e)
    have hG2 : (w1.alloc (.cells #[.map mb, .int .i64 fc, .int .i64 fr, .int .i64 tc, .int .i64 tr] 185)).heap[w1.heap.size]? = some (.cells #[.map mb, .int .i64 fc, .int .i64 fr, .int .i64 tc, .int .i64 tr] 185 (0, 0)) := heap_alloc_new _ _
    have e0 : (w1.alloc (.cells #[.map mb, .int .i64 fc, .int .i64 fr, .int .i64 tc, .int .i64 tr] 185)).cell? ⟨Bc, 0, none⟩ = some M := by simp [World.cell?, hbc2]
    have e1 : (w1.alloc (.cells #[.map mb, .int .i64 fc, .int .i64 fr, .int .i64 tc, .int .i64 tr] 185)).cell? ⟨Bc, 1, none⟩ = some (.slice p q c) := by simp [World.cell?, hbc2]
    have y0 : (w1.alloc (.cells #[.map mb, .int .i64 fc, .int .i64 fr, .int .i64 tc, .int .i64 tr] 185)).cell? ⟨W.heap.size, 0, none⟩ = some (.func (.yield l) #[] #[]) := by simp [World.cell?, hY2]
    have hwl : W.heap.size ≤ w1.heap.size := by have := fm.lt_blk hYs; have := hb1.size; omega
    clear d0 d1 hbc1 hJs hYs hbs hMs hb1 hb2 hbw1 hb12
    cases bx with
    | false =>
      gi_wp2_with fail
      have hfs' : flatA A (j + 1) = flatA A j ++ [⟨ak, an, az, false⟩] := by rw [hfs]; rfl
      generalize w1.alloc (.cells #[.map mb, .int .i64 fc, .int .i64 fr, .int .i64 tc, .int .i64 tr] 185) = V1 at *
      have hmx : Tryz.prog.follows .mixedOrders = true := by kernel_rfl
      have hd : 1 ≤ m := by omega
      have hf243 : Fence.wide.fn 243 := trivial
      have HVk : Hid (∀ wx, Below w.heap.size w wx → Calls Tryz.prog 243 #[.agg #[M, .slice p q c], .int .i64 j] wx fun e w' => e = .returned (VV ak an az) ∧ Below wx.heap.size wx w') := fun wx hb => HVj.out wx (by trivial) hb
      clear HVj HGj
      have HN : Hid (∀ w3, Below V1.drew.heap.size V1.drew w3 → w3.cell? ⟨W.heap.size, 0, none⟩ = some (.func (.yield l) #[] #[]) ∧ w3.heap[W.heap.size]? = some (.cells #[.func (.yield l) #[] #[]] 180 (0, 0)) ∧ Below w.heap.size w w3 ∧ Mk W.heap.size rs w3 ∧ ∃ fn tmps assign body, (Instr.yield l #[VV ak an az, .bool false]).run Tryz.prog w3 = .ok (.round l fn tmps assign body) w3 ∧ RoundIn Fence.wide (m - 1) Tryz.prog l fn tmps assign body w3 fun e W' => KeepsFrom W.heap.size w3 W' ∧ ((e = .returned (.bool true) ∧ J (flatA A j ++ [⟨ak, an, az, false⟩]) W' ∧ KC w.heap.size w3 W') ∨ (e = .returned (.bool false) ∧ Jx (flatA A j ++ [⟨ak, an, az, false⟩]) W'))) := fun w3 hb3 => by
        have hY3 := (hb3.block _ (fm.lt_blk hY2)).trans hY2
        have hb3' : Below V1.heap.size V1 w3 := ((Below.refl _ _).drew).trans hb3
        have hJ3 : J (flatA A j) w3 := hJ _ V1 _ none hJ2 (grown_of hb3') (fun r e => by cases e)
        obtain ⟨fn, tmps, assign, body, hy, hR⟩ := hY _ (⟨ak, an, az, false⟩ : It) w3 hJ3 (by have := hpre.length_le; rw [hfs'] at this; simp at this; omega)
        exact ⟨by simp [World.cell?, hY3], hY3, bnext hbs2 hb3' hbs2.size, hM2.next hb3', fn, tmps, assign, body, hy, hR⟩
      clear hY
      refine no_panic ?_
      gi_region_with_o (first | (gi_at_call 243; refine (callsIn_wide.2 (HVk.out _ hbs2.drew)).mono ?_; rintro e w3 ⟨rfl, hb3⟩; obtain ⟨y3, hY3, hbw3, hM3, fn, tmps, assign, body, hy, hR⟩ := HN.out w3 hb3) | (refine hR.mono ?_; intro e W3 hcase; have hkf := hcase.1; obtain ⟨b, rfl, hcb⟩ := yes_no hcase.2))
      all_goals
        rcases hcb with ⟨rfl, hJ4, hk4⟩ | ⟨rfl, hJx4⟩
        · gi_wp2_with fail
          exact ⟨⟨j + 1, rs, ⟨by simp, rfl⟩, hlt, by rw [hfs']; exact hJ4, hk4.keep _ _ _ (.inl rfl) hY3, hbw3.trans hk4.below, hM3.keep hkf⟩, by simp [intOf]; omega⟩
        · gi_wp2_with fail
          exact leaves_marks W.heap.size .returning (by simp) (fun W' => Jx (flatA A j ++ [⟨ak, an, az, false⟩]) W') (fun W' r o o' hz h1 h2 h3 => hJx.putObj _ hz h1 h2 h3) (fun W' hz => ⟨_, results_none rfl _ _ _, ⟨_, rfl⟩, .inr ⟨_, by rw [← hfs']; exact hpre, hz⟩⟩) rs W3 (hM3.keep hkf) hJx4
    | true =>
      obtain ⟨g0, g1, g2, g3, g4⟩ := cells5 hG2
      gi_wp2_with fail
      clear g0 g1 g2 g3 g4
      generalize w1.alloc (.cells #[.map mb, .int .i64 fc, .int .i64 fr, .int .i64 tc, .int .i64 tr] 185) = V1 at *
      have hfs' : flatA A (j + 1) = flatA A j ++ (uptoN X R).map nvI := by rw [hfs]; rfl
      have hlen0 : (flatA A j).length + R ≤ (flatA A q).length := by have := hpre.length_le; rw [hfs'] at this; simpa [uptoN_len] using this
      have hVW : W.heap.size ≤ V1.heap.size := by have := fm.lt_blk hY2; omega
      have hrs : ∀ r ∈ rs, r < V1.heap.size := fun r hr => fm.lt_blk (hM2.at' r hr).2
      refine rb.range_own (α := Nv) rfl (by omega) (gf := 253) (fst := #[.agg #[.map mb, .int .i64 fc, .int .i64 fr, .int .i64 tc, .int .i64 tr]]) (lb := #[]) rfl trivial (fun args w => by kernel_rfl) (HSJ.out trivial) (fun h k => KC.trans h k) (fun W' l' o o' => KC.put hbs2.size W' l' o o') hbs2 (fun _ => rfl)
        (fun pre W' => J (flatA A j ++ pre.map nvI) W' ∧ W'.heap[W.heap.size]? = some (.cells #[.func (.yield l) #[] #[]] 180 (0, 0)) ∧ Below w.heap.size w W' ∧ Mk W.heap.size rs W')
        (fun pre W' => Jx (flatA A j ++ pre.map nvI) W' ∧ Mk W.heap.size rs W')
        (fun s A' B' row hs hg hr => ⟨hJ _ A' B' row hs.1 hg (fun r e => ⟨Nat.le_trans hVW (hr r e).1, (hr r e).2⟩), cells_stay hs.2.1 hg (fun r e => (hr r e).2), ownFrom_below (β := Unit) (Nat.le_refl _) hbs2.size () A' B' row hs.2.2.1 hg hr, hs.2.2.2.grow hrs hg (fun r e => (hr r e).1)⟩)
        (fun s A' B' row hs hg hr => ⟨hJx _ A' B' row hs.1 hg (fun r e => ⟨Nat.le_trans hVW (hr r e).1, (hr r e).2⟩), hs.2.grow hrs hg (fun r e => (hr r e).1)⟩)
        ⟨by simpa using hJ2, hY2, hbs2, hM2⟩
        (fun x a' W' => ∃ bv, a' = ⟨#[.func (.yield l) #[] #[], .pointer (some ⟨Bc, 0, none⟩), .pointer (some ⟨W.heap.size, 0, none⟩), .int .i64 j, .pointer (some ⟨w1.heap.size, 0, none⟩), .bool true, v6, .pointer (some ⟨bv, 0, none⟩), .pointer (some ⟨Bc, 1, none⟩), .slice p q c, .int .i64 q, .int .i64 j, .bool true, .int .i64 j, .tuple #[.agg #[.map mb, .int .i64 fc, .int .i64 fr, .int .i64 tc, .int .i64 tr], .bool true], .agg #[M, .slice p q c], .int .i64 j, .tuple #[.agg #[.map mb, .int .i64 fc, .int .i64 fr, .int .i64 tc, .int .i64 tr], .bool true], .agg #[.map mb, .int .i64 fc, .int .i64 fr, .int .i64 tc, .int .i64 tr], .bool true, .bool true, .bool false, v22, v23, v24, v25, v26, v27, .agg #[.map mb, .int .i64 fc, .int .i64 fr, .int .i64 tc, .int .i64 tr], .func (.func 253) #[.agg #[.map mb, .int .i64 fc, .int .i64 fr, .int .i64 tc, .int .i64 tr]] #[], .int .i64 x.i, VV x.k x.n x.s, v32, v33, v34, v35, v36], []⟩ ∧ W'.heap[bv]? = some (.cells #[.int .i64 x.k, .int .i64 x.n, .string x.s] 31 (0, 0)))
        (fun x a' s A' B' row hs hg hr => by obtain ⟨bv, h1, h2⟩ := hs; exact ⟨bv, h1, cells_stay h2 hg (fun r e => (hr r e).2)⟩)
        ?_ ?_ ?_ ?_
      · intro l' pre x W' K hi hK
        have hbA : Below W'.heap.size W' (W'.alloc (.cells #[.int .i64 x.k, .int .i64 x.n, .string x.s] 31)) := (Below.refl _ _).alloc (Nat.le_refl _) _
        gi_wp2_with fail
        exact hK _ _ (keeps_of hbA) (KC.of hbA hi.2.2.1.size) ⟨hJ _ W' _ none hi.1 (grown_of hbA) (fun r e => by cases e), (hbA.block _ (fm.lt_blk hi.2.1)).trans hi.2.1, bnext hi.2.2.1 hbA hi.2.2.1.size, hi.2.2.2.next hbA⟩ ⟨W'.heap.size, rfl, heap_alloc_new _ _⟩
      · rintro l' pre x a' W' hl' hr' ⟨hJ5, hY5, hB5, hM5⟩ ⟨bv, rfl, hbv⟩ hlen
        rw [uptoN_len] at hlen
        obtain ⟨fn, tmps, assign, body, hy, hRd⟩ := hY _ (nvI x) W' hJ5 (by simp; omega)
        dsimp only [It.enc, nvI] at hy
        have y5 : W'.cell? ⟨W.heap.size, 0, none⟩ = some (.func (.yield l) #[] #[]) := by simp [World.cell?, hY5]
        obtain ⟨b0, b1, b2⟩ := ev.cells3v hbv
        gi_wp2_with fail
        refine ⟨fun h => by simp [Fence.wide] at h, ?_⟩
        refine (round_any hRd).mono ?_
        intro e W3 hcase
        have hkf := hcase.1
        obtain ⟨b, rfl, hcb⟩ := yes_no hcase.2
        clear hy hRd hcase
        rcases hcb with ⟨rfl, hJ6, hk6⟩ | ⟨rfl, hJx6⟩
        · gi_wp2_with fail
          exact ⟨rb.keeps_mono hkf hVW, hk6, by simpa using hJ6, hk6.keep _ _ _ (.inl rfl) hY5, hB5.trans hk6.below, hM5.keep hkf⟩
        · gi_wp2_with fail
          exact ⟨rb.keeps_mono hkf hVW, rfl, by simpa using hJx6, hM5.keep hkf⟩
      · rintro xs W' rfl ⟨hJ5, hY5, hB5, hM5⟩ hD
        have hM6 : Mk W.heap.size (V1.heap.size :: rs) W' := ⟨fun r hr => by
          rcases List.mem_cons.1 hr with rfl | hr
          · exact ⟨hVW, hD⟩
          · exact hM5.at' r hr, List.nodup_cons.2 ⟨fun hm => Nat.lt_irrefl _ (hrs _ hm), hM5.nd⟩⟩
        gi_wp2_with fail
        exact ⟨⟨j + 1, V1.heap.size :: rs, _, _, _, _, _, _, _, _, _, _, _, _, _, _, _, _, _, _, _, _, _, _, _, _, _, _, _, _, _, _, rfl, hlt, by rw [hfs']; exact hJ5, hY5, hB5, hM6⟩, by simp [intOf]; omega⟩
      · rintro pre W' hSp ⟨hJ5, hM5⟩ hD
        have hM6 : Mk W.heap.size (V1.heap.size :: rs) W' := ⟨fun r hr => by
          rcases List.mem_cons.1 hr with rfl | hr
          · exact ⟨hVW, hD⟩
          · exact hM5.at' r hr, List.nodup_cons.2 ⟨fun hm => Nat.lt_irrefl _ (hrs _ hm), hM5.nd⟩⟩
        gi_wp2_with fail
        exact leaves_marks W.heap.size .returning (by simp) (fun W' => Jx (flatA A j ++ pre.map nvI) W') (fun W' r o o' hz h1 h2 h3 => hJx.putObj _ hz h1 h2 h3) (fun W' hz => ⟨_, results_none rfl _ _ _, ⟨_, rfl⟩, .inr ⟨_, (show flatA A j ++ pre.map nvI <+: flatA A (j + 1) from by obtain ⟨t, ht⟩ := hSp; exact ⟨t.map nvI, by rw [hfs', ← ht]; simp⟩).trans hpre, hz⟩⟩) (V1.heap.size :: rs) W' hM6 hJ5
  · obtain rfl : j = q := by omega
    gi_wp2_with fail
    exact leaves_marks W.heap.size .returning (by simp) (fun W' => J (flatA A j) W') (fun W' r o o' hz h1 h2 h3 => hJ.putObj _ hz h1 h2 h3) (fun W' hz => ⟨_, results_none rfl _ _ _, ⟨_, rfl⟩, .inl ⟨_, rfl, hz⟩⟩) rs wr hMs hJs
/-- What comes of a call's arguments, boxes among them, as an iterator. -/
theorem items_seq (m : Nat) (hm : 2 ≤ m) (M : Value) (p : Option Addr) (q c : Nat) (hq : q ≤ 1000000) (A : Nat → Ag) (w : World) (Bc : Nat) (hBc : w.heap[Bc]? = some (.cells #[M, .slice p q c] 123 (0, 0)))
    (HG : Hid (∀ (i : Nat) wx, i < q → Below w.heap.size w wx → Calls Tryz.prog 266 #[.agg #[M, .slice p q c], .int .i64 i] wx fun e w' => e = .returned (.tuple #[.agg (A i).g, .bool (A i).box]) ∧ Below wx.heap.size wx w'))
    (HV : Hid (∀ (i : Nat) wx, i < q → (A i).box = false → Below w.heap.size w wx → Calls Tryz.prog 243 #[.agg #[M, .slice p q c], .int .i64 i] wx fun e w' => e = .returned (VV (A i).k (A i).n (A i).s) ∧ Below wx.heap.size wx w'))
    (HS : Hid (∀ i, i < q → (A i).box = true → rb.SeqB Fence.wide (m - 1) Tryz.prog 253 #[.agg (A i).g] #[] Nv.enc (KC w.heap.size) (fun ys => ys = uptoN (A i).X (A i).R) (fun pre => pre <+: uptoN (A i).X (A i).R) (uptoN (A i).X (A i).R).length w)) :
    rb.SeqB Fence.wide m Tryz.prog 265 #[] #[.pointer (some ⟨Bc, 0, none⟩)] It.enc (KC w.heap.size) (fun ys => ys = flatA A q) (fun pre => pre <+: flatA A q) (flatA A q).length w := fun l J Jx W hW hJ hJx hY h0 =>
  items_all m hm M p q c hq A w Bc hBc HG HV HS l J Jx W hW hJ hJx hY h0
end Go.Proofs.YtoaejcppfmjhdaaGreatDoor.ov
/- Package eval: a loop over what comes of the arguments of a call, as numbers. Conditions: as each theorem says. -/
namespace Go.Proofs.YtoaejcppfmjhdaaGreatDoor.ov
open Go.RowKit Go.Shelf
open ev (VV fin3 cells3v frz blk_else)
attribute [local go_sem] Oper.semAt_some
def ctN (k : Int) : Bool := k == 1
theorem KC.refl (n : Nat) (W : World) : KC n W W := ⟨Below.refl _ _, fun _ _ _ _ h => h⟩
theorem KC.set {n : Nat} {W W' : World} {b : Nat} {cs : Array Value} {t : TypeId} (h : Below n W W') (hb : W.heap[b]? = some (.cells cs t (0, 0))) (ht : t ≠ 180 ∧ t ≠ 185) (he : ∀ i, i ≠ b → W'.heap[i]? = W.heap[i]?) : KC n W W' :=
  ⟨h, fun i v u hu e => (he i (fun q => by rw [q, hb] at e; injection e with e; injection e with e1 e2; rcases hu with rfl | rfl; exact ht.1 e2; exact ht.2 e2)).trans e⟩
theorem KC.app {n : Nat} {W w1 : World} {base k B t : Nat} {v v' u : Value} {xs : List Value} {tmp : Obj} (hr : W.ownsRow base 3 1 v k xs) (hg : (W.alloc tmp).grownBy w1 v.ownBlock) (hB : Boxed w1 B t u) (ht : t ≠ 180 ∧ t ≠ 185) (h : Below n W (w1.setCell ⟨B, 0, none⟩ v')) : KC n W (w1.setCell ⟨B, 0, none⟩ v') :=
  ⟨h, fun i x y hy e => by
    have h3 : y ≠ 3 := by rcases hy with rfl | rfl <;> decide
    have h1 : w1.heap[i]? = some (.cells x y (0, 0)) := (hg.block i (by simp; have := fm.lt_blk e; omega) (blk_not_row e h3 hr)).trans ((Below.heap_alloc _ _ _ (fm.lt_blk e)).trans e)
    exact (blk_else (fun q => by rw [q, hB] at h1; injection h1 with h1; injection h1 with e1 e2; rcases hy with rfl | rfl; exact ht.1 e2; exact ht.2 e2)).trans h1⟩
set_option maxRecDepth 100000 in
set_option maxHeartbeats 8000000 in
theorem over_nm (rd : Int → Int → ByteArray → V3) (xs : List It) (hlen : xs.length ≤ 1000000) (lb : Array Value) (Kw pc pr pw : Nat) (r : V3) (w : World)
    (hc : Boxed w pc 147 (.func (.func 235) #[] #[])) (hr : Boxed w pr 60 (.func (.func 106) #[] #[])) (hw : Boxed w pw 178 (.func (.func Kw) #[] #[]))
    (hE : Hid (∀ v wx, Sem.run Tryz.prog (callFunc Kw #[v]) wx = .ok (.enter Kw #[v]) wx))
    (hseq : rb.SeqB Fence.wide 4 Tryz.prog 265 #[] lb It.enc (KC w.heap.size) (fun ys => ys = xs) (fun pre => pre <+: xs) xs.length w)
    (HI : Hid (∀ k n s wx, Calls Tryz.prog 170 #[VV k n s] wx fun e w' => e = .returned (.bool (k == 4)) ∧ Below wx.heap.size wx w'))
    (HT : Hid (∀ k wx, Calls Tryz.prog 235 #[.int .i64 k] wx fun e w' => e = .returned (.bool (ctN k)) ∧ Below wx.heap.size wx w'))
    (HR : Hid (∀ k n s wx, Below w.heap.size w wx → Calls Tryz.prog 106 #[VV k n s] wx fun e w' => e = .returned (VV (rd k n s).k (rd k n s).n (rd k n s).s) ∧ Below wx.heap.size wx w'))
    (hbad : Hid (∀ pre x, pre ++ [x] <+: xs → (∀ y ∈ pre, good rd ctN y = true) → good rd ctN x = false → r = rd x.k x.n x.s))
    (HW : Hid ((∀ y ∈ xs, good rd ctN y = true) → ∀ wx v, Below w.heap.size w wx → wx.ownsRow w.heap.size 3 1 v (ovN rd ctN xs).length ((ovN rd ctN xs).map (Value.int .i64)) → Calls Tryz.prog Kw #[v] wx fun e w' => e = .returned (VV r.k r.n r.s) ∧ Below wx.heap.size wx w')) :
    Calls Tryz.prog 267 #[.func (.func 265) #[] lb, .pointer (some ⟨pc, 0, none⟩), .pointer (some ⟨pr, 0, none⟩), .pointer (some ⟨pw, 0, none⟩)] w fun e w' => e = .returned (VV r.k r.n r.s) ∧ Below w.heap.size w w' := by
  obtain ⟨i0, hi, hz0, hz1, hz2⟩ := info_parts info3
  refine (callsIn_wide (n := 5)).1 ?_
  refine callsIn_of_wp_marks Tryz.func267 rfl trivial ?_ rfl
  simp only [Tryz.ntmps267, List.size_toArray, List.length_cons, List.length_nil, Nat.reduceAdd, Nat.reduceSub, Array.replicate_succ, Array.replicate_zero, List.push_toArray, List.append_toArray, List.nil_append, List.cons_append]
  gi_wp2
  have hA : ((w.alloc (.cells #[.int .i64 0, .int .i64 0, .string nul] 31)).alloc (.cells #[.slice none 0 0] 218)).heap[w.heap.size]? = some (.cells #[.int .i64 0, .int .i64 0, .string nul] 31 (0, 0)) := (((Below.refl (w.heap.size + 1) _).alloc (by simp) _).block w.heap.size (by omega)).trans (heap_alloc_new w _)
  have bO := Boxed.new (w.alloc (.cells #[.int .i64 0, .int .i64 0, .string nul] 31)) 218 (.slice none 0 0)
  rw [World.size_alloc] at bO
  have hB0 : Below w.heap.size w ((w.alloc (.cells #[.int .i64 0, .int .i64 0, .string nul] 31)).alloc (.cells #[.slice none 0 0] 218)) := ((Below.refl _ w).alloc (Nat.le_refl _) _).alloc (by simp) _
  have hsz : ((w.alloc (.cells #[.int .i64 0, .int .i64 0, .string nul] 31)).alloc (.cells #[.slice none 0 0] 218)).heap.size = w.heap.size + 2 := by simp
  obtain ⟨W0, hW0⟩ : ∃ W0, (w.alloc (.cells #[.int .i64 0, .int .i64 0, .string nul] 31)).alloc (.cells #[.slice none 0 0] 218) = W0 := ⟨_, rfl⟩
  rw [hW0] at hA bO hB0 hsz ⊢
  clear hW0
  refine rb.range_own rfl (by omega) (gf := 265) (fst := #[]) (lb := lb) rfl trivial (enters_of Tryz.func265 (by kernel_rfl) rfl)
    hseq (fun h k => KC.trans h k) (KC.put (by omega)) hB0 (fun _ => rfl)
    (OI rd ctN w) (OX rd ctN w .ret) (OI.own rd _ w (by omega)) (OX.own rd _ w .ret (by omega))
    ⟨⟨⟨by simp, hA⟩, _, bO, World.ownsRow_nil _ _ _ _, trivial⟩, hB0⟩
    (fun x a' W => ∃ Bx, w.heap.size + 1 < Bx ∧ W.heap[Bx]? = some (.cells #[.int .i64 x.k, .int .i64 x.n, .string x.s] 31 (0, 0)) ∧ a' = { tmps := #[.func (.func 265) #[] lb, .pointer (some ⟨pc, 0, none⟩), .pointer (some ⟨pr, 0, none⟩), .pointer (some ⟨pw, 0, none⟩), undef, .pointer (some ⟨w.heap.size, 0, none⟩), .pointer (some ⟨w.heap.size + 1, 0, none⟩), .pointer (some ⟨Bx, 0, none⟩), .bool x.b, .func (.func 265) #[] lb, VV x.k x.n x.s, .bool x.b, undef, undef, undef, undef, undef, undef, undef, undef, undef, undef, undef, undef, undef, undef, undef, undef, undef, undef, undef, undef, undef, undef, undef, undef, undef, undef, undef], defers := [] })
    (fun x a' _ X Y row hs hg hr => by obtain ⟨Bx, e1, e2, e3⟩ := hs; exact ⟨Bx, e1, blk_own (β := Unit) _ _ _ () X Y row e2 hg (fun r e => (hr r e).2), e3⟩)
    ?assign ?body ?done ?stop
  case assign =>
    rintro l pre x W K ⟨⟨⟨hp, hA1⟩, v, bO1, hr1, -⟩, hB1⟩ hK
    gi_wp2
    have hq2 := heap_alloc_new W (.cells #[.int .i64 x.k, .int .i64 x.n, .string x.s] 31)
    have hBW := (Below.refl W.heap.size W).alloc (Nat.le_refl _) (.cells #[.int .i64 x.k, .int .i64 x.n, .string x.s] 31)
    exact hK _ _ ((below_keeps hBW).from _) (KC.of hBW hB1.size) ⟨⟨⟨hp, (hBW.block _ (fm.lt_blk hA1)).trans hA1⟩, v, (hBW.block _ bO1.lt).trans bO1, own_below hr1 hBW, trivial⟩, bnext hB1 hBW hB1.size⟩ ⟨W.heap.size, bO1.lt, hq2, rfl⟩
  case body =>
    rintro l pre ⟨k, n, s, b⟩ a' W hl ⟨rl, hrl⟩ ⟨⟨⟨hp, hA1⟩, v, bO1, hr1, -⟩, hB1⟩ ⟨Bx, hBx, bX, rfl⟩ hlt
    dsimp only at bX ⊢
    have hc1 := Boxed.cell ((hB1.block _ hc.lt).trans hc)
    have hrr1 := Boxed.cell ((hB1.block _ hr.lt).trans hr)
    obtain ⟨x0, x1, x2⟩ := cells3v bX
    have hWW : KC w.heap.size W W := KC.refl _ _
    have hKW := KeepsOthers.refl W
    cases b with
    | false =>
      gi_wp2_with fail
      refine ⟨trivial, ?_⟩
      gi_wp2_with fail
      refine ⟨fun _ h => (by cases h), ?_⟩
      gi_wp2_with fail
      refine ⟨trivial, ?_⟩
      refine (CallsIn.inRound l (callsIn_wide.2 (HR.out k n s _ hB1))).mono ?_
      rintro e w1 ⟨rfl, hb1⟩
      obtain ⟨R, hR⟩ : ∃ R, rd k n s = R := ⟨_, rfl⟩
      rw [hR]
      obtain ⟨rk, rn, rs⟩ := R
      dsimp only
      have bX1 := (hb1.block _ (fm.lt_blk bX)).trans bX
      obtain ⟨y0, y1, y2⟩ := cells3v bX1
      have fX := frz bX1
      clear x0 x1 x2
      gi_wp2_with fail
      refine ⟨trivial, ?_⟩
      obtain ⟨w2, hw2, hq2, hk2, he2, hko2⟩ := set3_ex bX1 (.int .i64 rk) (.int .i64 rn) (.string rs)
      rw [hw2]
      clear hw2 y0 y1 y2 fX
      refine (CallsIn.inRound l (callsIn_wide.2 (HI.out rk rn rs w2))).mono ?_
      rintro e w3 ⟨rfl, hb3⟩
      have hX3 := (hb3.block _ (fm.lt_blk hq2)).trans hq2
      have hW2 : Below w.heap.size w w2 := (bnext hB1 hb1 hB1.size).trans (hk2 _ (by omega))
      have hwW3 : Below w.heap.size w w3 := bnext hW2 hb3 hW2.size
      have hW3 : KC w.heap.size W w3 := ((hWW.trans (KC.of hb1 hB1.size)).trans (KC.set (hk2 _ (by omega)) bX1 (by decide) he2)).trans (KC.of hb3 hW2.size)
      have hKo3 : KeepsOthers W w3 := ((hKW.trans (below_keeps hb1)).trans hko2).trans (below_keeps hb3)
      have hA3 : w3.heap[w.heap.size]? = some (.cells #[.int .i64 0, .int .i64 0, .string nul] 31 (0, 0)) := by
        have h2 : w2.heap[w.heap.size]? = some (.cells #[.int .i64 0, .int .i64 0, .string nul] 31 (0, 0)) := by rw [he2 _ (by omega), hb1.block _ (fm.lt_blk hA1)]; exact hA1
        exact (hb3.block _ (fm.lt_blk h2)).trans h2
      have bO3 : Boxed w3 (w.heap.size + 1) 218 v := by
        have h2 : w2.heap[w.heap.size + 1]? = some (.cells #[v] 218 (0, 0)) := by rw [he2 _ (by omega), hb1.block _ bO1.lt]; exact bO1
        exact (hb3.block _ (fm.lt_blk h2)).trans h2
      have hr3 := own_below (own_keep (own_below hr1 hb1) bX1 (by decide) he2) hb3
      have hpl := ovN_len rd ctN pre
      have hsk : skp ctN ⟨k, n, s, false⟩ = false := rfl
      obtain ⟨y0, y1, y2⟩ := cells3v hX3
      cases h4 : (rk == 4) with
      | true =>
        have hg : good rd ctN ⟨k, n, s, false⟩ = false := by unfold good; rw [hsk]; dsimp only; rw [hR]; simp [h4]
        obtain ⟨z0, z1, z2⟩ := cells3v hA3
        have fA := frz hA3
        gi_wp2_with fail
        obtain ⟨w4, hw4, hq4, hk4, he4, hko4⟩ := set3_ex hA3 (.int .i64 rk) (.int .i64 rn) (.string rs)
        rw [hw4]
        exact ⟨(hKo3.trans hko4).from _, rfl, ⟨rfl, pre, ⟨k, n, s, false⟩, rfl, hp, hg, by dsimp only; rw [hR]; exact hq4⟩, hwW3.trans (hk4 _ (Nat.le_refl _))⟩
      | false =>
        have hg : good rd ctN ⟨k, n, s, false⟩ = true := by unfold good; rw [hsk]; dsimp only; rw [hR]; simp [h4]
        have hcO := bO3.cell
        gi_wp2_with (gi_at_builtin; refine wpListIn_append_own _ rfl _ _ 218 rfl w.heap.size 3 i0 (.int .i64 0) 1 8 Tryz.underlying218 hi hz0 hz1 hz2 rfl (by decide) _ _ _ rfl (hr3.alloc _) ⟨w3.heap.size, 0, none⟩ 1 1 [.int .i64 rn] rfl rfl (cell_one_new _ _ _) (by simp [Value.oneCell']) (by unfold maxLen; omega) (by omega) (by have := hwW3.size; simp; omega) ?_; intro v' w5 hown' hgrow _; obtain ⟨g', cap', rfl⟩ := ownsRow_succ hown'; have hA5 : w5.heap[w.heap.size]? = some (.cells #[.int .i64 0, .int .i64 0, .string nul] 31 (0, 0)) := (hgrow.block _ (by simp; have := fm.lt_blk hA3; omega) (blk_not_row hA3 (by decide) hr3)).trans ((Below.heap_alloc _ _ _ (fm.lt_blk hA3)).trans hA3); obtain ⟨hv1, hv2, hr2, hk6, hb6⟩ := bO3.appended (by decide) hr3 hwW3.size (by omega) hown' hgrow; have hc5 := hv1.cell; have hf5 := hv1.frozen)
        exact ⟨(hKo3.trans hk6).from _, hW3.trans (KC.app hr3 hgrow hv1 (by decide) hb6), ⟨⟨⟨fun y hy => (List.mem_append.1 hy).elim (hp y) (fun e => by simp at e; subst e; exact hg), (blk_else (by omega)).trans hA5⟩, _, hv2, by rw [ovN_take hsk]; dsimp only; rw [hR]; simpa using hr2, trivial⟩, hwW3.trans hb6⟩⟩
    | true =>
      gi_wp2_with fail
      refine ⟨trivial, ?_⟩
      refine (CallsIn.inRound l (callsIn_wide.2 (HI.out k n s W))).mono ?_
      rintro e Wa ⟨rfl, hba⟩
      have hBa : Below w.heap.size w Wa := bnext hB1 hba hB1.size
      have hAa := (hba.block _ (fm.lt_blk hA1)).trans hA1
      have bOa : Boxed Wa (w.heap.size + 1) 218 v := (hba.block _ bO1.lt).trans bO1
      have hra := own_below hr1 hba
      have bXa := (hba.block _ (fm.lt_blk bX)).trans bX
      have hca := Boxed.cell ((hBa.block _ hc.lt).trans hc)
      have hrra := Boxed.cell ((hBa.block _ hr.lt).trans hr)
      have hWWa : KC w.heap.size W Wa := KC.of hba hB1.size
      have hKWa := below_keeps hba
      have hszW := hB1.size
      obtain ⟨x0a, x1a, x2a⟩ := cells3v bXa
      clear x0 x1 x2 hc1 hrr1
      cases hk4 : (k == 4) with
      | true =>
        gi_wp2_with fail
        refine ⟨fun _ h => (by cases h), ?_⟩
        gi_wp2_with fail
        refine ⟨trivial, ?_⟩
        refine (CallsIn.inRound l (callsIn_wide.2 (HR.out k n s _ hBa))).mono ?_
        rintro e w1 ⟨rfl, hb1⟩
        obtain ⟨R, hR⟩ : ∃ R, rd k n s = R := ⟨_, rfl⟩
        rw [hR]
        obtain ⟨rk, rn, rs⟩ := R
        dsimp only
        have bX1 := (hb1.block _ (fm.lt_blk bXa)).trans bXa
        obtain ⟨y0, y1, y2⟩ := cells3v bX1
        have fX := frz bX1
        clear x0a x1a x2a
        gi_wp2_with fail
        refine ⟨trivial, ?_⟩
        obtain ⟨w2, hw2, hq2, hk2, he2, hko2⟩ := set3_ex bX1 (.int .i64 rk) (.int .i64 rn) (.string rs)
        rw [hw2]
        clear hw2 y0 y1 y2 fX
        refine (CallsIn.inRound l (callsIn_wide.2 (HI.out rk rn rs w2))).mono ?_
        rintro e w3 ⟨rfl, hb3⟩
        have hX3 := (hb3.block _ (fm.lt_blk hq2)).trans hq2
        have hW2 : Below w.heap.size w w2 := (bnext hBa hb1 hBa.size).trans (hk2 _ (by omega))
        have hwW3 : Below w.heap.size w w3 := bnext hW2 hb3 hW2.size
        have hW3 : KC w.heap.size W w3 := ((hWWa.trans (KC.of hb1 hBa.size)).trans (KC.set (hk2 _ (by omega)) bX1 (by decide) he2)).trans (KC.of hb3 hW2.size)
        have hKo3 : KeepsOthers W w3 := ((hKWa.trans (below_keeps hb1)).trans hko2).trans (below_keeps hb3)
        have hA3 : w3.heap[w.heap.size]? = some (.cells #[.int .i64 0, .int .i64 0, .string nul] 31 (0, 0)) := by
          have h2 : w2.heap[w.heap.size]? = some (.cells #[.int .i64 0, .int .i64 0, .string nul] 31 (0, 0)) := by rw [he2 _ (by omega), hb1.block _ (fm.lt_blk hAa)]; exact hAa
          exact (hb3.block _ (fm.lt_blk h2)).trans h2
        have bO3 : Boxed w3 (w.heap.size + 1) 218 v := by
          have h2 : w2.heap[w.heap.size + 1]? = some (.cells #[v] 218 (0, 0)) := by rw [he2 _ (by omega), hb1.block _ bOa.lt]; exact bOa
          exact (hb3.block _ (fm.lt_blk h2)).trans h2
        have hr3 := own_below (own_keep (own_below hra hb1) bX1 (by decide) he2) hb3
        have hpl := ovN_len rd ctN pre
        have hsk : skp ctN ⟨k, n, s, true⟩ = false := by unfold skp; dsimp only; rw [hk4]; rfl
        obtain ⟨y0, y1, y2⟩ := cells3v hX3
        cases h4 : (rk == 4) with
        | true =>
          have hg : good rd ctN ⟨k, n, s, true⟩ = false := by unfold good; rw [hsk]; dsimp only; rw [hR]; simp [h4]
          obtain ⟨z0, z1, z2⟩ := cells3v hA3
          have fA := frz hA3
          gi_wp2_with fail
          obtain ⟨w4, hw4, hq4, hk4, he4, hko4⟩ := set3_ex hA3 (.int .i64 rk) (.int .i64 rn) (.string rs)
          rw [hw4]
          exact ⟨(hKo3.trans hko4).from _, rfl, ⟨rfl, pre, ⟨k, n, s, true⟩, rfl, hp, hg, by dsimp only; rw [hR]; exact hq4⟩, hwW3.trans (hk4 _ (Nat.le_refl _))⟩
        | false =>
          have hg : good rd ctN ⟨k, n, s, true⟩ = true := by unfold good; rw [hsk]; dsimp only; rw [hR]; simp [h4]
          have hcO := bO3.cell
          gi_wp2_with (gi_at_builtin; refine wpListIn_append_own _ rfl _ _ 218 rfl w.heap.size 3 i0 (.int .i64 0) 1 8 Tryz.underlying218 hi hz0 hz1 hz2 rfl (by decide) _ _ _ rfl (hr3.alloc _) ⟨w3.heap.size, 0, none⟩ 1 1 [.int .i64 rn] rfl rfl (cell_one_new _ _ _) (by simp [Value.oneCell']) (by unfold maxLen; omega) (by omega) (by have := hwW3.size; simp; omega) ?_; intro v' w5 hown' hgrow _; obtain ⟨g', cap', rfl⟩ := ownsRow_succ hown'; have hA5 : w5.heap[w.heap.size]? = some (.cells #[.int .i64 0, .int .i64 0, .string nul] 31 (0, 0)) := (hgrow.block _ (by simp; have := fm.lt_blk hA3; omega) (blk_not_row hA3 (by decide) hr3)).trans ((Below.heap_alloc _ _ _ (fm.lt_blk hA3)).trans hA3); obtain ⟨hv1, hv2, hr2, hk6, hb6⟩ := bO3.appended (by decide) hr3 hwW3.size (by omega) hown' hgrow; have hc5 := hv1.cell; have hf5 := hv1.frozen)
          exact ⟨(hKo3.trans hk6).from _, hW3.trans (KC.app hr3 hgrow hv1 (by decide) hb6), ⟨⟨⟨fun y hy => (List.mem_append.1 hy).elim (hp y) (fun e => by simp at e; subst e; exact hg), (blk_else (by omega)).trans hA5⟩, _, hv2, by rw [ovN_take hsk]; dsimp only; rw [hR]; simpa using hr2, trivial⟩, hwW3.trans hb6⟩⟩
      | false =>
        gi_wp2_with fail
        refine ⟨trivial, ?_⟩
        refine (CallsIn.inRound l (callsIn_wide.2 (HT.out k Wa))).mono ?_
        rintro e Wb ⟨rfl, hbb⟩
        have hBb : Below w.heap.size w Wb := bnext hBa hbb hBa.size
        have hAb := (hbb.block _ (fm.lt_blk hAa)).trans hAa
        have bOb : Boxed Wb (w.heap.size + 1) 218 v := (hbb.block _ bOa.lt).trans bOa
        have hrb := own_below hra hbb
        have bXb := (hbb.block _ (fm.lt_blk bXa)).trans bXa
        have hrrb := Boxed.cell ((hBb.block _ hr.lt).trans hr)
        have hWWb : KC w.heap.size W Wb := hWWa.trans (KC.of hbb hBa.size)
        have hKWb := hKWa.trans (below_keeps hbb)
        obtain ⟨x0b, x1b, x2b⟩ := cells3v bXb
        clear x0a x1a x2a hca hrra
        cases hct : ctN k with
        | true =>
          gi_wp2_with fail
          refine ⟨trivial, ?_⟩
          refine (CallsIn.inRound l (callsIn_wide.2 (HR.out k n s _ hBb))).mono ?_
          rintro e w1 ⟨rfl, hb1⟩
          obtain ⟨R, hR⟩ : ∃ R, rd k n s = R := ⟨_, rfl⟩
          rw [hR]
          obtain ⟨rk, rn, rs⟩ := R
          dsimp only
          have bX1 := (hb1.block _ (fm.lt_blk bXb)).trans bXb
          obtain ⟨y0, y1, y2⟩ := cells3v bX1
          have fX := frz bX1
          clear x0b x1b x2b
          gi_wp2_with fail
          refine ⟨trivial, ?_⟩
          obtain ⟨w2, hw2, hq2, hk2, he2, hko2⟩ := set3_ex bX1 (.int .i64 rk) (.int .i64 rn) (.string rs)
          rw [hw2]
          clear hw2 y0 y1 y2 fX
          refine (CallsIn.inRound l (callsIn_wide.2 (HI.out rk rn rs w2))).mono ?_
          rintro e w3 ⟨rfl, hb3⟩
          have hX3 := (hb3.block _ (fm.lt_blk hq2)).trans hq2
          have hW2 : Below w.heap.size w w2 := (bnext hBb hb1 hBb.size).trans (hk2 _ (by omega))
          have hwW3 : Below w.heap.size w w3 := bnext hW2 hb3 hW2.size
          have hW3 : KC w.heap.size W w3 := ((hWWb.trans (KC.of hb1 hBb.size)).trans (KC.set (hk2 _ (by omega)) bX1 (by decide) he2)).trans (KC.of hb3 hW2.size)
          have hKo3 : KeepsOthers W w3 := ((hKWb.trans (below_keeps hb1)).trans hko2).trans (below_keeps hb3)
          have hA3 : w3.heap[w.heap.size]? = some (.cells #[.int .i64 0, .int .i64 0, .string nul] 31 (0, 0)) := by
            have h2 : w2.heap[w.heap.size]? = some (.cells #[.int .i64 0, .int .i64 0, .string nul] 31 (0, 0)) := by rw [he2 _ (by omega), hb1.block _ (fm.lt_blk hAb)]; exact hAb
            exact (hb3.block _ (fm.lt_blk h2)).trans h2
          have bO3 : Boxed w3 (w.heap.size + 1) 218 v := by
            have h2 : w2.heap[w.heap.size + 1]? = some (.cells #[v] 218 (0, 0)) := by rw [he2 _ (by omega), hb1.block _ bOb.lt]; exact bOb
            exact (hb3.block _ (fm.lt_blk h2)).trans h2
          have hr3 := own_below (own_keep (own_below hrb hb1) bX1 (by decide) he2) hb3
          have hpl := ovN_len rd ctN pre
          have hsk : skp ctN ⟨k, n, s, true⟩ = false := by unfold skp; dsimp only; rw [hk4, hct]; rfl
          obtain ⟨y0, y1, y2⟩ := cells3v hX3
          cases h4 : (rk == 4) with
          | true =>
            have hg : good rd ctN ⟨k, n, s, true⟩ = false := by unfold good; rw [hsk]; dsimp only; rw [hR]; simp [h4]
            obtain ⟨z0, z1, z2⟩ := cells3v hA3
            have fA := frz hA3
            gi_wp2_with fail
            obtain ⟨w4, hw4, hq4, hk4, he4, hko4⟩ := set3_ex hA3 (.int .i64 rk) (.int .i64 rn) (.string rs)
            rw [hw4]
            exact ⟨(hKo3.trans hko4).from _, rfl, ⟨rfl, pre, ⟨k, n, s, true⟩, rfl, hp, hg, by dsimp only; rw [hR]; exact hq4⟩, hwW3.trans (hk4 _ (Nat.le_refl _))⟩
          | false =>
            have hg : good rd ctN ⟨k, n, s, true⟩ = true := by unfold good; rw [hsk]; dsimp only; rw [hR]; simp [h4]
            have hcO := bO3.cell
            gi_wp2_with (gi_at_builtin; refine wpListIn_append_own _ rfl _ _ 218 rfl w.heap.size 3 i0 (.int .i64 0) 1 8 Tryz.underlying218 hi hz0 hz1 hz2 rfl (by decide) _ _ _ rfl (hr3.alloc _) ⟨w3.heap.size, 0, none⟩ 1 1 [.int .i64 rn] rfl rfl (cell_one_new _ _ _) (by simp [Value.oneCell']) (by unfold maxLen; omega) (by omega) (by have := hwW3.size; simp; omega) ?_; intro v' w5 hown' hgrow _; obtain ⟨g', cap', rfl⟩ := ownsRow_succ hown'; have hA5 : w5.heap[w.heap.size]? = some (.cells #[.int .i64 0, .int .i64 0, .string nul] 31 (0, 0)) := (hgrow.block _ (by simp; have := fm.lt_blk hA3; omega) (blk_not_row hA3 (by decide) hr3)).trans ((Below.heap_alloc _ _ _ (fm.lt_blk hA3)).trans hA3); obtain ⟨hv1, hv2, hr2, hk6, hb6⟩ := bO3.appended (by decide) hr3 hwW3.size (by omega) hown' hgrow; have hc5 := hv1.cell; have hf5 := hv1.frozen)
            exact ⟨(hKo3.trans hk6).from _, hW3.trans (KC.app hr3 hgrow hv1 (by decide) hb6), ⟨⟨⟨fun y hy => (List.mem_append.1 hy).elim (hp y) (fun e => by simp at e; subst e; exact hg), (blk_else (by omega)).trans hA5⟩, _, hv2, by rw [ovN_take hsk]; dsimp only; rw [hR]; simpa using hr2, trivial⟩, hwW3.trans hb6⟩⟩
        | false =>
          have hsk : skp ctN ⟨k, n, s, true⟩ = true := by unfold skp; dsimp only; rw [hk4, hct]; rfl
          have hg : good rd ctN ⟨k, n, s, true⟩ = true := by unfold good; rw [hsk]; rfl
          gi_wp2_with fail
          exact ⟨hKWb.from _, hWWb, ⟨⟨⟨fun y hy => (List.mem_append.1 hy).elim (hp y) (fun e => by simp at e; subst e; exact hg), hAb⟩, v, bOb, by rw [ovN_skip hsk]; exact hrb, trivial⟩, hBb⟩⟩
  case done =>
    rintro ys W rfl ⟨⟨⟨hp, hA1⟩, v, bO1, hr1, -⟩, hB1⟩ hK
    rw [hsz] at hK ⊢
    have hcw := Boxed.cell ((hB1.block _ hw.lt).trans hw)
    have hcO := bO1.cell
    have en := hE.out v W
    gi_wp2_with fail
    refine ⟨trivial, ?_⟩
    refine (callsIn_wide.2 (HW.out hp W v hB1 hr1)).mono ?_
    rintro e w1 ⟨rfl, hb1⟩
    have hA3 := (hb1.block _ (fm.lt_blk hA1)).trans hA1
    have hK1 := (hb1.block _ (fm.lt_blk hK)).trans hK
    have hB3 := bnext hB1 hb1 hB1.size
    obtain ⟨z0, z1, z2⟩ := cells3v hA3
    have fA := frz hA3
    clear en hcw hcO
    gi_wp2_with fail
    obtain ⟨w4, hw4, hq4, hk4, he4, hko4⟩ := set3_ex hA3 (.int .i64 r.k) (.int .i64 r.n) (.string r.s)
    rw [hw4]
    have hK4 := hko4.same (w.heap.size + 2) _ hK1 rfl
    refine ⟨by simp, .inl ⟨_, _, rfl, run_takeDeferred hK4, ?_⟩⟩
    obtain ⟨d0, d1, d2⟩ := cells3v (w := w4.putObj (w.heap.size + 2) (.deferred none)) (blk_own (β := Unit) _ _ _ () w4 _ (some (w.heap.size + 2)) hq4 (grownBy_putObj' _ (w.heap.size + 2) (.deferred none)) (fun r e => by cases e; exact ⟨_, hK4, rfl⟩))
    refine ⟨VV r.k r.n r.s, ?_, rfl, (hB3.trans (hk4 _ (Nat.le_refl _))).trans (belowK_b (w := w) (Nat.le_refl _) _ (w.heap.size + 2) _ _ (by omega) hK4 rfl rfl)⟩
    simp [results, Tryz.f267, go_sem, d0, d1, d2]
  case stop =>
    rintro pre W hpre ⟨⟨-, q, x, rfl, hq, hx, hA1⟩, hB1⟩ hK
    rw [hsz] at hK ⊢
    have hrx := hbad.out q x hpre hq hx
    rw [← hrx] at hA1
    gi_wp2_with fail
    refine ⟨by simp, .inl ⟨_, _, rfl, run_takeDeferred hK, ?_⟩⟩
    obtain ⟨d0, d1, d2⟩ := cells3v (w := W.putObj (w.heap.size + 2) (.deferred none)) (blk_own (β := Unit) _ _ _ () W _ (some (w.heap.size + 2)) hA1 (grownBy_putObj' _ (w.heap.size + 2) (.deferred none)) (fun r e => by cases e; exact ⟨_, hK, rfl⟩))
    refine ⟨VV r.k r.n r.s, ?_, rfl, hB1.trans (belowK_b (w := w) (Nat.le_refl _) _ (w.heap.size + 2) _ _ (by omega) hK rfl rfl)⟩
    simp [results, Tryz.f267, go_sem, d0, d1, d2]
end Go.Proofs.YtoaejcppfmjhdaaGreatDoor.ov
/- Package eval: how many of the arguments of a call count. Conditions: as each theorem says. -/
namespace Go.Proofs.YtoaejcppfmjhdaaGreatDoor.ov
open Go.RowKit Go.Shelf
open ev (VV fin3 cells3v frz blk_else)
attribute [local go_sem] Oper.semAt_some
/-- How many of them count. -/
def cntI (cn : It → Bool) (xs : List It) : Nat := (xs.filter cn).length
set_option maxRecDepth 100000 in
set_option maxHeartbeats 8000000 in
theorem many_cn (cn : It → Bool) (xs : List It) (hlen : xs.length ≤ 1000000) (lb : Array Value) (Kc pc : Nat) (w : World)
    (hc : Boxed w pc 180 (.func (.func Kc) #[] #[]))
    (hE : Hid (∀ v u wx, Sem.run Tryz.prog (callFunc Kc #[v, u]) wx = .ok (.enter Kc #[v, u]) wx))
    (hseq : rb.SeqB Fence.wide 4 Tryz.prog 265 #[] lb It.enc (KC w.heap.size) (fun ys => ys = xs) (fun pre => pre <+: xs) xs.length w)
    (HC : Hid (∀ x wx, Below w.heap.size w wx → Calls Tryz.prog Kc #[VV x.k x.n x.s, .bool x.b] wx fun e w' => e = .returned (.bool (cn x)) ∧ Below wx.heap.size wx w')) :
    Calls Tryz.prog 239 #[.func (.func 265) #[] lb, .pointer (some ⟨pc, 0, none⟩)] w fun e w' => e = .returned (VV 1 (cntI cn xs) nul) ∧ Below w.heap.size w w' := by
  refine (callsIn_wide (n := 5)).1 ?_
  refine callsIn_of_wp_marks Tryz.func239 rfl trivial ?_ rfl
  simp only [Tryz.ntmps239, List.size_toArray, List.length_cons, List.length_nil, Nat.reduceAdd, Nat.reduceSub, Array.replicate_succ, Array.replicate_zero, List.push_toArray, List.append_toArray, List.nil_append, List.cons_append]
  gi_wp2
  have hA : ((w.alloc (.cells #[.int .i64 0, .int .i64 0, .string nul] 31)).alloc (.cells #[.int .i64 0] 3)).heap[w.heap.size]? = some (.cells #[.int .i64 0, .int .i64 0, .string nul] 31 (0, 0)) := (((Below.refl (w.heap.size + 1) _).alloc (by simp) _).block w.heap.size (by omega)).trans (heap_alloc_new w _)
  have hM : ((w.alloc (.cells #[.int .i64 0, .int .i64 0, .string nul] 31)).alloc (.cells #[.int .i64 0] 3)).heap[w.heap.size + 1]? = some (.cells #[.int .i64 0] 3 (0, 0)) := by have := heap_alloc_new (w.alloc (.cells #[.int .i64 0, .int .i64 0, .string nul] 31)) (.cells #[.int .i64 0] 3); rwa [World.size_alloc] at this
  have hB0 : Below w.heap.size w ((w.alloc (.cells #[.int .i64 0, .int .i64 0, .string nul] 31)).alloc (.cells #[.int .i64 0] 3)) := ((Below.refl _ w).alloc (Nat.le_refl _) _).alloc (by simp) _
  have hsz : ((w.alloc (.cells #[.int .i64 0, .int .i64 0, .string nul] 31)).alloc (.cells #[.int .i64 0] 3)).heap.size = w.heap.size + 2 := by simp
  obtain ⟨W0, hW0⟩ : ∃ W0, (w.alloc (.cells #[.int .i64 0, .int .i64 0, .string nul] 31)).alloc (.cells #[.int .i64 0] 3) = W0 := ⟨_, rfl⟩
  rw [hW0] at hA hM hB0 hsz ⊢
  clear hW0
  refine rb.range_own rfl (by omega) (gf := 265) (fst := #[]) (lb := lb) rfl trivial (enters_of Tryz.func265 (by kernel_rfl) rfl) hseq (fun h k => KC.trans h k) (KC.put (by omega)) hB0 (fun _ => rfl)
    (fun pre W => (W.heap[w.heap.size]? = some (.cells #[.int .i64 0, .int .i64 0, .string nul] 31 (0, 0)) ∧ W.heap[w.heap.size + 1]? = some (.cells #[.int .i64 (cntI cn pre)] 3 (0, 0))) ∧ Below w.heap.size w W)
    (fun _ _ => False)
    (fun s A' B' row hs hg hr => ⟨⟨cells_stay hs.1.1 hg (fun r e => (hr r e).2), cells_stay hs.1.2 hg (fun r e => (hr r e).2)⟩, ownFrom_below (β := Unit) (Nat.le_refl _) hB0.size () A' B' row hs.2 hg hr⟩)
    (fun _ _ _ _ hs _ _ => hs)
    ⟨⟨hA, hM⟩, hB0⟩
    (fun x a' W => ∃ Bx, w.heap.size + 1 < Bx ∧ W.heap[Bx]? = some (.cells #[.int .i64 x.k, .int .i64 x.n, .string x.s] 31 (0, 0)) ∧ a' = ⟨#[.func (.func 265) #[] lb, .pointer (some ⟨pc, 0, none⟩), undef, .pointer (some ⟨w.heap.size, 0, none⟩), .pointer (some ⟨w.heap.size + 1, 0, none⟩), .pointer (some ⟨Bx, 0, none⟩), .bool x.b, .func (.func 265) #[] lb, VV x.k x.n x.s, .bool x.b, undef, undef, undef, undef, undef, undef, undef, undef], []⟩)
    (fun x a' _ X Y row hs hg hr => by obtain ⟨Bx, e1, e2, e3⟩ := hs; exact ⟨Bx, e1, cells_stay e2 hg (fun r e => (hr r e).2), e3⟩)
    ?assign ?body ?done ?stop
  case assign =>
    rintro l pre x W K ⟨⟨hA1, hM1⟩, hB1⟩ hK
    have hBW := (Below.refl W.heap.size W).alloc (Nat.le_refl _) (.cells #[.int .i64 x.k, .int .i64 x.n, .string x.s] 31)
    gi_wp2_with fail
    exact hK _ _ (keeps_of hBW) (KC.of hBW hB1.size) ⟨⟨(hBW.block _ (fm.lt_blk hA1)).trans hA1, (hBW.block _ (fm.lt_blk hM1)).trans hM1⟩, bnext hB1 hBW hB1.size⟩ ⟨W.heap.size, fm.lt_blk hM1, heap_alloc_new _ _, rfl⟩
  case body =>
    rintro l pre x a' W hl hr ⟨⟨hA1, hM1⟩, hB1⟩ ⟨Bx, hBx, bX, rfl⟩ hlt
    have hcc := Boxed.cell ((hB1.block _ hc.lt).trans hc)
    obtain ⟨b0, b1, b2⟩ := cells3v bX
    have en := hE.out (VV x.k x.n x.s) (.bool x.b) W
    gi_wp2_with fail
    refine ⟨trivial, ?_⟩
    refine (CallsIn.inRound l (callsIn_wide.2 (HC.out x W hB1))).mono ?_
    rintro e w1 ⟨rfl, hb1⟩
    have hA2 := (hb1.block _ (fm.lt_blk hA1)).trans hA1
    have hM2 := (hb1.block _ (fm.lt_blk hM1)).trans hM1
    have hB2 := bnext hB1 hb1 hB1.size
    clear hcc b0 b1 b2 en
    have hci : cntI cn pre ≤ pre.length := List.length_filter_le _ _
    cases hcn : cn x with
    | false =>
      gi_wp2_with fail
      exact ⟨keeps_of hb1, KC.of hb1 hB1.size, ⟨hA2, by rw [hM2]; simp [cntI, hcn]⟩, hB2⟩
    | true =>
      have m0 : w1.cell? ⟨w.heap.size + 1, 0, none⟩ = some (.int .i64 (cntI cn pre)) := by simp [World.cell?, hM2]
      have f0 := frz hM2
      gi_wp2_with fail
      exact ⟨(keeps_of hb1).trans ((KeepsOthers.setCell _ _ _).from _), (KC.of hb1 hB1.size).trans (KC.set ((Below.refl _ _).setCell (by show _ ≤ w.heap.size + 1; omega) _) hM2 (by decide) (fun i hi => blk_else hi)), ⟨(blk_else (by omega)).trans hA2, by rw [fm.blk_set hM2]; simp [cntI, hcn]⟩, hB2.setCell (by show _ ≤ w.heap.size + 1; omega) _⟩
  case done =>
    rintro ys W rfl ⟨⟨hA1, hM1⟩, hB1⟩ hK
    rw [hsz] at hK ⊢
    have m0 : W.cell? ⟨w.heap.size + 1, 0, none⟩ = some (.int .i64 (cntI cn ys)) := by simp [World.cell?, hM1]
    gi_wp2_with fail
    refine ⟨trivial, ?_⟩
    refine (callsIn_wide.2 (ev.number_any _ W)).mono ?_
    rintro e w1 ⟨rfl, hb1⟩
    have hA3 := (hb1.block _ (fm.lt_blk hA1)).trans hA1
    have hK1 := (hb1.block _ (fm.lt_blk hK)).trans hK
    have hB3 := bnext hB1 hb1 hB1.size
    obtain ⟨z0, z1, z2⟩ := cells3v hA3
    have fA := frz hA3
    clear m0
    gi_wp2_with fail
    obtain ⟨w4, hw4, hq4, hk4, he4, hko4⟩ := set3_ex hA3 (.int .i64 1) (.int .i64 (cntI cn ys)) (.string nul)
    rw [hw4]
    have hK4 := hko4.same (w.heap.size + 2) _ hK1 rfl
    refine ⟨by simp, .inl ⟨_, _, rfl, run_takeDeferred hK4, ?_⟩⟩
    obtain ⟨d0, d1, d2⟩ := cells3v (w := w4.putObj (w.heap.size + 2) (.deferred none)) (blk_own (β := Unit) _ _ _ () w4 _ (some (w.heap.size + 2)) hq4 (grownBy_putObj' _ (w.heap.size + 2) (.deferred none)) (fun r e => by cases e; exact ⟨_, hK4, rfl⟩))
    refine ⟨VV 1 (cntI cn ys) nul, ?_, rfl, (hB3.trans (hk4 _ (Nat.le_refl _))).trans (belowK_b (w := w) (Nat.le_refl _) _ (w.heap.size + 2) _ _ (by omega) hK4 rfl rfl)⟩
    simp [results, Tryz.f239, go_sem, d0, d1, d2]
  case stop =>
    rintro pre W hpre hf hK
    exact hf.elim
end Go.Proofs.YtoaejcppfmjhdaaGreatDoor.ov
/- Package eval: what is counted. Conditions: as each theorem says. -/
namespace Go.Proofs.YtoaejcppfmjhdaaGreatDoor.ov
open Go.RowKit
open ev (VV fin3 cells3v frz)
def cnF (x : It) : Bool := x.k != 0
def cnC (x : It) : Bool := if x.b then x.k == 1 else !((nmV x.k x.n x.s).k == 4)
set_option maxHeartbeats 1600000 in
theorem filled_any (x : It) (w : World) : Calls Tryz.prog 161 #[VV x.k x.n x.s, .bool x.b] w fun e w' => e = .returned (.bool (cnF x)) ∧ Below w.heap.size w w' := by
  obtain ⟨k, n, s, b⟩ := x
  dsimp only [cnF]
  cases h : (k != 0) with
  | true =>
    have h' : (k == 0) = false := by simpa using h
    go_enter Tryz.func161, Tryz.ntmps161
    go_wp2
    go_ret
    exact ⟨rfl, (Below.refl _ _).alloc (Nat.le_refl _) _⟩
  | false =>
    have h' : (k == 0) = true := by simpa using h
    go_enter Tryz.func161, Tryz.ntmps161
    go_wp2
    go_ret
    exact ⟨rfl, (Below.refl _ _).alloc (Nat.le_refl _) _⟩
set_option maxHeartbeats 1600000 in
theorem counted_any (x : It) (w : World) (hE : Env w) : Calls Tryz.prog 160 #[VV x.k x.n x.s, .bool x.b] w fun e w' => e = .returned (.bool (cnC x)) ∧ Below w.heap.size w w' := by
  obtain ⟨k, n, s, b⟩ := x
  dsimp only [cnC]
  have hb0 : Below w.heap.size w (w.alloc (.cells #[.int .i64 k, .int .i64 n, .string s] 31)) := (Below.refl _ _).alloc (Nat.le_refl _) _
  have HN := number_all k n s _ (hE.alloc (.cells #[.int .i64 k, .int .i64 n, .string s] 31))
  have HI : Hid (∀ k n s wx, Calls Tryz.prog 170 #[VV k n s] wx fun e w' => e = .returned (.bool (k == 4)) ∧ Below wx.heap.size wx w') := ev.isBad_any
  generalize nmV k n s = R at *
  obtain ⟨rk, rn, rs⟩ := R
  dsimp only at HN ⊢
  clear hE
  cases b with
  | true =>
    cases h : (k == 1) with
    | true =>
      go_enter Tryz.func160, Tryz.ntmps160
      go_wp2
      go_ret
      exact ⟨rfl, (Below.refl _ _).alloc (Nat.le_refl _) _⟩
    | false =>
      go_enter Tryz.func160, Tryz.ntmps160
      go_wp2
      go_ret
      exact ⟨rfl, (Below.refl _ _).alloc (Nat.le_refl _) _⟩
  | false =>
    go_enter Tryz.func160, Tryz.ntmps160
    go_wp2_with fail
    refine HN.mono ?_
    rintro e w1 ⟨rfl, hb1⟩
    have hB1 := bnext hb0 hb1 hb0.size
    go_wp2_with fail
    refine (HI.out _ _ _ _).mono ?_
    rintro e w2 ⟨rfl, hb2⟩
    have hB2 := bnext hB1 hb2 hB1.size
    cases h4 : (rk == 4) with
    | true =>
      go_wp2
      go_ret
      exact ⟨rfl, hB2⟩
    | false =>
      go_wp2
      go_ret
      exact ⟨rfl, hB2⟩
end Go.Proofs.YtoaejcppfmjhdaaGreatDoor.ov
/- Package eval: the least of a list. Conditions: as each theorem says. -/
namespace Go.Proofs.YtoaejcppfmjhdaaGreatDoor.ov
open Go.RowKit
open ev (VV fin3 cells3v b2I frz)
/-- The least, the greatest of the numbers up to the n-th. -/
def minF (f : Nat → Int) : Nat → Int
  | 0 => f 0
  | n + 1 => min (minF f n) (f (n + 1))
def maxF (f : Nat → Int) : Nat → Int
  | 0 => f 0
  | n + 1 => max (maxF f n) (f (n + 1))
set_option maxRecDepth 100000 in
set_option maxHeartbeats 1600000 in
theorem min_any (xs : List Int) (base : Nat) (v : Value) (w : World) (h : w.ownsRow base 3 1 v xs.length (xs.map (Value.int .i64))) (hl : xs.length ≤ 1000000) (h1 : 1 ≤ xs.length) :
    Calls Tryz.prog 237 #[v] w fun e w' => e = .returned (.int .i64 (minF (fun i => xs.getD i 0) (xs.length - 1))) ∧ Below w.heap.size w w' := by
  obtain ⟨n, hn⟩ : ∃ n, xs.length = n := ⟨_, rfl⟩
  rcases h.2 with ⟨rfl, h0⟩ | ⟨g, cap, cur, rfl, -, hg, -, -, -, ht⟩
  · omega
  · have HC0 : Hid (∀ i, i < n → w.cell? ⟨g, i, none⟩ = some (.int .i64 (xs.getD i 0))) := fun i hi => by
      have hi' : i < xs.length := by omega
      have q1 : (xs.map (Value.int .i64))[i]? = some (.int .i64 (xs.getD i 0)) := by rw [List.getElem?_map]; simp [hi']
      rw [← ht, List.getElem?_take, if_pos (by omega)] at q1
      simp only [World.cell?, hg]
      simpa using q1
    clear h hg ht
    rw [hn] at hl h1 ⊢
    clear hn
    have HC : Hid (∀ i, i < n → w.cell? ⟨g, i, none⟩ = some (.int .i64 ((fun i => xs.getD i 0) i))) := HC0
    clear HC0
    generalize (fun i => xs.getD i 0) = f at HC ⊢
    have hn1 : ¬ ((n : Int) < 1) := by omega
    have hn0 : (0 : Int) < (n : Int) := by omega
    have hc0 := HC.out 0 (by omega)
    go_enter Tryz.func237, Tryz.ntmps237
    go_wp2_with fail
    clear hc0
    go_loopw [3, 4] (fun m i wr => ∃ j : Nat, m = .int .i64 (minF f j) ∧ i = .int .i64 ((j : Int) + 1) ∧ j < n ∧ wr = w) (fun _ i _ => n - (intOf i).toNat)
    case atStart => exact ⟨0, rfl, rfl, by omega, rfl⟩
    case round =>
      obtain ⟨j, rfl, rfl, hj, rfl⟩ := hrel
      by_cases hlt : j + 1 < n
      · have hlt' : (j : Int) + 1 < (n : Int) := by omega
        have hj0 : (0 : Int) ≤ (j : Int) + 1 := by omega
        have hc := HC.out (j + 1) hlt
        have hs : minF f (j + 1) = min (minF f j) (f (j + 1)) := rfl
        have HS : Hid (minF f (j + 1) = min (minF f j) (f (j + 1))) := hs
        clear hs
        have ht1 : ((j : Int) + 1).toNat = j + 1 := by omega
        generalize minF f j = M at *
        go_wp2_with fail
        exact ⟨⟨j + 1, by rw [HS.out], by simp, hlt, trivial⟩, by simp [intOf]; omega⟩
      · obtain rfl : n = j + 1 := by omega
        go_wp2_with fail
        go_ret
        exact ⟨rfl, Below.refl _ _⟩
set_option maxRecDepth 100000 in
set_option maxHeartbeats 1600000 in
theorem max_any (xs : List Int) (base : Nat) (v : Value) (w : World) (h : w.ownsRow base 3 1 v xs.length (xs.map (Value.int .i64))) (hl : xs.length ≤ 1000000) (h1 : 1 ≤ xs.length) :
    Calls Tryz.prog 238 #[v] w fun e w' => e = .returned (.int .i64 (maxF (fun i => xs.getD i 0) (xs.length - 1))) ∧ Below w.heap.size w w' := by
  obtain ⟨n, hn⟩ : ∃ n, xs.length = n := ⟨_, rfl⟩
  rcases h.2 with ⟨rfl, h0⟩ | ⟨g, cap, cur, rfl, -, hg, -, -, -, ht⟩
  · omega
  · have HC0 : Hid (∀ i, i < n → w.cell? ⟨g, i, none⟩ = some (.int .i64 (xs.getD i 0))) := fun i hi => by
      have hi' : i < xs.length := by omega
      have q1 : (xs.map (Value.int .i64))[i]? = some (.int .i64 (xs.getD i 0)) := by rw [List.getElem?_map]; simp [hi']
      rw [← ht, List.getElem?_take, if_pos (by omega)] at q1
      simp only [World.cell?, hg]
      simpa using q1
    clear h hg ht
    rw [hn] at hl h1 ⊢
    clear hn
    have HC : Hid (∀ i, i < n → w.cell? ⟨g, i, none⟩ = some (.int .i64 ((fun i => xs.getD i 0) i))) := HC0
    clear HC0
    generalize (fun i => xs.getD i 0) = f at HC ⊢
    have hn1 : ¬ ((n : Int) < 1) := by omega
    have hn0 : (0 : Int) < (n : Int) := by omega
    have hc0 := HC.out 0 (by omega)
    go_enter Tryz.func238, Tryz.ntmps238
    go_wp2_with fail
    clear hc0
    go_loopw [3, 4] (fun m i wr => ∃ j : Nat, m = .int .i64 (maxF f j) ∧ i = .int .i64 ((j : Int) + 1) ∧ j < n ∧ wr = w) (fun _ i _ => n - (intOf i).toNat)
    case atStart => exact ⟨0, rfl, rfl, by omega, rfl⟩
    case round =>
      obtain ⟨j, rfl, rfl, hj, rfl⟩ := hrel
      by_cases hlt : j + 1 < n
      · have hlt' : (j : Int) + 1 < (n : Int) := by omega
        have hj0 : (0 : Int) ≤ (j : Int) + 1 := by omega
        have hc := HC.out (j + 1) hlt
        have hs : maxF f (j + 1) = max (maxF f j) (f (j + 1)) := rfl
        have HS : Hid (maxF f (j + 1) = max (maxF f j) (f (j + 1))) := hs
        clear hs
        have ht1 : ((j : Int) + 1).toNat = j + 1 := by omega
        generalize maxF f j = M at *
        go_wp2_with fail
        exact ⟨⟨j + 1, by rw [HS.out], by simp, hlt, trivial⟩, by simp [intOf]; omega⟩
      · obtain rfl : n = j + 1 := by omega
        go_wp2_with fail
        go_ret
        exact ⟨rfl, Below.refl _ _⟩
/-- A list's own, or 0. -/
def leastL (xs : List Int) : Int := if xs.length = 0 then 0 else minF (fun i => xs.getD i 0) (xs.length - 1)
set_option maxRecDepth 100000 in
set_option maxHeartbeats 1600000 in
theorem least_any (xs : List Int) (base : Nat) (v : Value) (w : World) (h : w.ownsRow base 3 1 v xs.length (xs.map (Value.int .i64))) (hl : xs.length ≤ 1000000) :
    Calls Tryz.prog 156 #[v] w fun e w' => e = .returned (VV 1 (leastL xs) nul) ∧ Below w.heap.size w w' := by
  have hb0 : Below w.heap.size w (w.alloc (.cells #[.int .i64 0, .int .i64 0, .string nul] 31)) := (Below.refl _ _).alloc (Nat.le_refl _) _
  have hq0 := heap_alloc_new w (.cells #[.int .i64 0, .int .i64 0, .string nul] 31)
  have hrow := own_below h hb0
  have HNM : Hid (∀ n wx, Calls Tryz.prog 44 #[.int .i64 n] wx fun e w' => e = .returned (VV 1 n nul) ∧ Below wx.heap.size wx w') := ev.number_any
  have HMN : Hid (1 ≤ xs.length → Calls Tryz.prog 237 #[v] (w.alloc (.cells #[.int .i64 0, .int .i64 0, .string nul] 31)) fun e w' => e = .returned (.int .i64 (minF (fun i => xs.getD i 0) (xs.length - 1))) ∧ Below (w.alloc (.cells #[.int .i64 0, .int .i64 0, .string nul] 31)).heap.size (w.alloc (.cells #[.int .i64 0, .int .i64 0, .string nul] 31)) w') := fun h1 => min_any xs base v _ hrow hl h1
  have HF : Hid (∀ wx, Below (w.alloc (.cells #[.int .i64 0, .int .i64 0, .string nul] 31)).heap.size (w.alloc (.cells #[.int .i64 0, .int .i64 0, .string nul] 31)) wx → wx.heap[w.heap.size]? = some (.cells #[.int .i64 0, .int .i64 0, .string nul] 31 (0, 0)) ∧ Below w.heap.size w wx) := fun wx hb => ⟨(hb.block _ (fm.lt_blk hq0)).trans hq0, bnext hb0 hb hb0.size⟩
  have hv : ∃ p c, v = .slice p xs.length c := by
    rcases h.2 with ⟨rfl, h0⟩ | ⟨g, cap, cur, rfl, -⟩
    · exact ⟨none, 0, by rw [h0]⟩
    · exact ⟨_, _, rfl⟩
  unfold leastL
  generalize minF (fun i => xs.getD i 0) (xs.length - 1) = M at *
  obtain ⟨p, c, rfl⟩ := hv
  generalize xs.length = n at *
  clear h hrow hb0 hq0
  by_cases h0 : n = 0
  · subst h0
    rw [if_pos rfl]
    go_enter Tryz.func156, Tryz.ntmps156
    go_wp2_with fail
    refine (HNM.out _ _).mono ?_
    rintro e w1 ⟨rfl, hb1⟩
    obtain ⟨hq, hb⟩ := HF.out _ hb1
    have HQ : Hid (w1.heap[w.heap.size]? = some (.cells #[.int .i64 0, .int .i64 0, .string nul] 31 (0, 0))) := hq
    have HB : Hid (Below w.heap.size w w1) := hb
    clear hq hb hb1 HF HMN
    obtain ⟨c0, c1, c2⟩ := cells3v HQ.out
    have f0 := frz HQ.out
    go_wp2_with fail
    refine fin3 HQ.out (Q := bodyPost _ _ _ _ _) ?_
    clear c0 c1 c2 f0
    intro w9 hq9 hk9
    obtain ⟨d0, d1, d2⟩ := cells3v hq9
    exact bodyPost_ret (v := VV 1 0 nul) (by simp [results, Tryz.results156, go_sem, d0, d1, d2]) rfl ⟨rfl, HB.out.trans (hk9 _ (by omega))⟩
  · rw [if_neg h0]
    have hn0 : ((n : Int) == 0) = false := by simp; omega
    go_enter Tryz.func156, Tryz.ntmps156
    go_wp2_with fail
    refine (HMN.out (by omega)).mono ?_
    rintro e w0 ⟨rfl, hb0⟩
    have HB0 : Hid (Below (w.alloc (.cells #[.int .i64 0, .int .i64 0, .string nul] 31)).heap.size (w.alloc (.cells #[.int .i64 0, .int .i64 0, .string nul] 31)) w0) := hb0
    clear hb0
    go_wp2_with fail
    refine (HNM.out _ _).mono ?_
    rintro e w1 ⟨rfl, hb1⟩
    obtain ⟨hq, hb⟩ := HF.out _ (bnext HB0.out hb1 HB0.out.size)
    have HQ : Hid (w1.heap[w.heap.size]? = some (.cells #[.int .i64 0, .int .i64 0, .string nul] 31 (0, 0))) := hq
    have HB : Hid (Below w.heap.size w w1) := hb
    clear hq hb hb1 HF HMN HB0
    obtain ⟨c0, c1, c2⟩ := cells3v HQ.out
    have f0 := frz HQ.out
    go_wp2_with fail
    refine fin3 HQ.out (Q := bodyPost _ _ _ _ _) ?_
    clear c0 c1 c2 f0
    intro w9 hq9 hk9
    obtain ⟨d0, d1, d2⟩ := cells3v hq9
    exact bodyPost_ret (v := VV 1 M nul) (by simp [results, Tryz.results156, go_sem, d0, d1, d2]) rfl ⟨rfl, HB.out.trans (hk9 _ (by omega))⟩
/-- A list's own, or 0. -/
def greatestL (xs : List Int) : Int := if xs.length = 0 then 0 else maxF (fun i => xs.getD i 0) (xs.length - 1)
set_option maxRecDepth 100000 in
set_option maxHeartbeats 1600000 in
theorem greatest_any (xs : List Int) (base : Nat) (v : Value) (w : World) (h : w.ownsRow base 3 1 v xs.length (xs.map (Value.int .i64))) (hl : xs.length ≤ 1000000) :
    Calls Tryz.prog 157 #[v] w fun e w' => e = .returned (VV 1 (greatestL xs) nul) ∧ Below w.heap.size w w' := by
  have hb0 : Below w.heap.size w (w.alloc (.cells #[.int .i64 0, .int .i64 0, .string nul] 31)) := (Below.refl _ _).alloc (Nat.le_refl _) _
  have hq0 := heap_alloc_new w (.cells #[.int .i64 0, .int .i64 0, .string nul] 31)
  have hrow := own_below h hb0
  have HNM : Hid (∀ n wx, Calls Tryz.prog 44 #[.int .i64 n] wx fun e w' => e = .returned (VV 1 n nul) ∧ Below wx.heap.size wx w') := ev.number_any
  have HMN : Hid (1 ≤ xs.length → Calls Tryz.prog 238 #[v] (w.alloc (.cells #[.int .i64 0, .int .i64 0, .string nul] 31)) fun e w' => e = .returned (.int .i64 (maxF (fun i => xs.getD i 0) (xs.length - 1))) ∧ Below (w.alloc (.cells #[.int .i64 0, .int .i64 0, .string nul] 31)).heap.size (w.alloc (.cells #[.int .i64 0, .int .i64 0, .string nul] 31)) w') := fun h1 => max_any xs base v _ hrow hl h1
  have HF : Hid (∀ wx, Below (w.alloc (.cells #[.int .i64 0, .int .i64 0, .string nul] 31)).heap.size (w.alloc (.cells #[.int .i64 0, .int .i64 0, .string nul] 31)) wx → wx.heap[w.heap.size]? = some (.cells #[.int .i64 0, .int .i64 0, .string nul] 31 (0, 0)) ∧ Below w.heap.size w wx) := fun wx hb => ⟨(hb.block _ (fm.lt_blk hq0)).trans hq0, bnext hb0 hb hb0.size⟩
  have hv : ∃ p c, v = .slice p xs.length c := by
    rcases h.2 with ⟨rfl, h0⟩ | ⟨g, cap, cur, rfl, -⟩
    · exact ⟨none, 0, by rw [h0]⟩
    · exact ⟨_, _, rfl⟩
  unfold greatestL
  generalize maxF (fun i => xs.getD i 0) (xs.length - 1) = M at *
  obtain ⟨p, c, rfl⟩ := hv
  generalize xs.length = n at *
  clear h hrow hb0 hq0
  by_cases h0 : n = 0
  · subst h0
    rw [if_pos rfl]
    go_enter Tryz.func157, Tryz.ntmps157
    go_wp2_with fail
    refine (HNM.out _ _).mono ?_
    rintro e w1 ⟨rfl, hb1⟩
    obtain ⟨hq, hb⟩ := HF.out _ hb1
    have HQ : Hid (w1.heap[w.heap.size]? = some (.cells #[.int .i64 0, .int .i64 0, .string nul] 31 (0, 0))) := hq
    have HB : Hid (Below w.heap.size w w1) := hb
    clear hq hb hb1 HF HMN
    obtain ⟨c0, c1, c2⟩ := cells3v HQ.out
    have f0 := frz HQ.out
    go_wp2_with fail
    refine fin3 HQ.out (Q := bodyPost _ _ _ _ _) ?_
    clear c0 c1 c2 f0
    intro w9 hq9 hk9
    obtain ⟨d0, d1, d2⟩ := cells3v hq9
    exact bodyPost_ret (v := VV 1 0 nul) (by simp [results, Tryz.results157, go_sem, d0, d1, d2]) rfl ⟨rfl, HB.out.trans (hk9 _ (by omega))⟩
  · rw [if_neg h0]
    have hn0 : ((n : Int) == 0) = false := by simp; omega
    go_enter Tryz.func157, Tryz.ntmps157
    go_wp2_with fail
    refine (HMN.out (by omega)).mono ?_
    rintro e w0 ⟨rfl, hb0⟩
    have HB0 : Hid (Below (w.alloc (.cells #[.int .i64 0, .int .i64 0, .string nul] 31)).heap.size (w.alloc (.cells #[.int .i64 0, .int .i64 0, .string nul] 31)) w0) := hb0
    clear hb0
    go_wp2_with fail
    refine (HNM.out _ _).mono ?_
    rintro e w1 ⟨rfl, hb1⟩
    obtain ⟨hq, hb⟩ := HF.out _ (bnext HB0.out hb1 HB0.out.size)
    have HQ : Hid (w1.heap[w.heap.size]? = some (.cells #[.int .i64 0, .int .i64 0, .string nul] 31 (0, 0))) := hq
    have HB : Hid (Below w.heap.size w w1) := hb
    clear hq hb hb1 HF HMN HB0
    obtain ⟨c0, c1, c2⟩ := cells3v HQ.out
    have f0 := frz HQ.out
    go_wp2_with fail
    refine fin3 HQ.out (Q := bodyPost _ _ _ _ _) ?_
    clear c0 c1 c2 f0
    intro w9 hq9 hk9
    obtain ⟨d0, d1, d2⟩ := cells3v hq9
    exact bodyPost_ret (v := VV 1 M nul) (by simp [results, Tryz.results157, go_sem, d0, d1, d2]) rfl ⟨rfl, HB.out.trans (hk9 _ (by omega))⟩
end Go.Proofs.YtoaejcppfmjhdaaGreatDoor.ov
