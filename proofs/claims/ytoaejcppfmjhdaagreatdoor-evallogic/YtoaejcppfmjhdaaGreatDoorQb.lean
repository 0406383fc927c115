/- Package value: Truth. Conditions: the package variables hold what the program lays. -/
import Derived.Test.YtoaejcppfmjhdaaGreatDoorQa
import Derived.Test.YtoaejcppfmjhdaaGreatDoorRead
import Derived.Maps.AppendAt
import Derived.Test.YtoaejcppfmjhdaaGreatDoorWt
namespace Go.Proofs.YtoaejcppfmjhdaaGreatDoor.ov
open Go.RowKit
open ev (VV fin3 cells3v b2I frz)
theorem truthV (b : Bool) (w : World) : Calls Tryz.prog 112 #[.bool b] w fun e w' => e = .returned (VV 3 (b2I b) nul) ∧ Below w.heap.size w w' := by
  cases b with
  | true =>
    go_enter Tryz.func112, Tryz.ntmps112
    go_wp2_with fail
    exact bodyPost_ret (v := VV 3 1 nul) (by simp [results, Tryz.results112, go_sem]) rfl ⟨rfl, (Below.refl _ _).alloc (Nat.le_refl _) _⟩
  | false =>
    go_enter Tryz.func112, Tryz.ntmps112
    go_wp2_with fail
    exact bodyPost_ret (v := VV 3 0 nul) (by simp [results, Tryz.results112, go_sem]) rfl ⟨rfl, (Below.refl _ _).alloc (Nat.le_refl _) _⟩
theorem truthF (w : World) : Calls Tryz.prog 112 #[.bool false] w fun e w' => e = .returned (VV 3 0 nul) ∧ Below w.heap.size w w' := truthV false w
/-- What a text is as a truth. -/
def txT (s : ByteArray) : V3 := if ((rd s).1 == 3) = true then ⟨(rd s).1, (rd s).2.1, (rd s).2.2⟩ else ⟨4, 2, nul⟩
set_option maxHeartbeats 1600000 in
theorem readAs3 (s : ByteArray) (w : World) (hE : Env w) : Calls Tryz.prog 147 #[.int .i64 3, .string s] w fun e w' => e = .returned (VV (txT s).k (txT s).n (txT s).s) ∧ Below w.heap.size w w' := by
  have hb0 : Below w.heap.size w (w.alloc (.cells #[.int .i64 0, .int .i64 0, .string nul] 31)) := (Below.refl _ _).alloc (Nat.le_refl _) _
  have HRD := read_any s _ (hE.alloc (.cells #[.int .i64 0, .int .i64 0, .string nul] 31))
  have HR : Hid (∀ w1, Below (w.alloc (.cells #[.int .i64 0, .int .i64 0, .string nul] 31)).heap.size (w.alloc (.cells #[.int .i64 0, .int .i64 0, .string nul] 31)) w1 → w1.heap[w.heap.size]? = some (.cells #[.int .i64 0, .int .i64 0, .string nul] 31 (0, 0)) ∧ Below w.heap.size w w1) := fun w1 hb => ⟨(hb.block _ (by simp)).trans (heap_alloc_new w _), bnext hb0 hb hb0.size⟩
  unfold txT
  generalize rd s = R at *
  obtain ⟨rk, rn, rs⟩ := R
  dsimp only at HRD ⊢
  clear hE hb0
  cases h3 : (rk == 3) with
  | true =>
    simp only [if_true]
    go_enter Tryz.func147, Tryz.ntmps147
    go_wp2_with fail
    refine HRD.mono ?_
    rintro e w1 ⟨rfl, hb1⟩
    have hba : Below w1.heap.size w1 (w1.alloc (.cells #[.int .i64 rk, .int .i64 rn, .string rs] 31)) := (Below.refl _ _).alloc (Nat.le_refl _) _
    obtain ⟨hq, hb⟩ := HR.out _ (bnext hb1 hba hb1.size)
    have HQ : Hid ((w1.alloc (.cells #[.int .i64 rk, .int .i64 rn, .string rs] 31)).heap[w.heap.size]? = some (.cells #[.int .i64 0, .int .i64 0, .string nul] 31 (0, 0))) := hq
    have HB : Hid (Below w.heap.size w (w1.alloc (.cells #[.int .i64 rk, .int .i64 rn, .string rs] 31))) := hb
    obtain ⟨v0, v1, v2⟩ := cells3v (heap_alloc_new w1 (.cells #[.int .i64 rk, .int .i64 rn, .string rs] 31))
    clear hq hb hb1 hba HR
    obtain ⟨c0, c1, c2⟩ := cells3v HQ.out
    have f0 := frz HQ.out
    go_wp2_with fail
    refine fin3 HQ.out (Q := bodyPost _ _ _ _ _) ?_
    clear c0 c1 c2 f0
    intro w9 hq9 hk9
    obtain ⟨d0, d1, d2⟩ := cells3v hq9
    exact bodyPost_ret (v := VV rk rn rs) (by simp [results, Tryz.results147, go_sem, d0, d1, d2]) rfl ⟨rfl, HB.out.trans (hk9 _ (by omega))⟩
  | false =>
    simp only [Bool.false_eq_true, if_false]
    go_enter Tryz.func147, Tryz.ntmps147
    go_wp2_with fail
    refine HRD.mono ?_
    rintro e w1 ⟨rfl, hb1⟩
    have hba : Below w1.heap.size w1 (w1.alloc (.cells #[.int .i64 rk, .int .i64 rn, .string rs] 31)) := (Below.refl _ _).alloc (Nat.le_refl _) _
    have HB1 : Hid (Below (w.alloc (.cells #[.int .i64 0, .int .i64 0, .string nul] 31)).heap.size (w.alloc (.cells #[.int .i64 0, .int .i64 0, .string nul] 31)) (w1.alloc (.cells #[.int .i64 rk, .int .i64 rn, .string rs] 31))) := bnext hb1 hba hb1.size
    obtain ⟨v0, v1, v2⟩ := cells3v (heap_alloc_new w1 (.cells #[.int .i64 rk, .int .i64 rn, .string rs] 31))
    clear hb1 hba
    go_wp2_with fail
    refine (bad_any _ _).mono ?_
    rintro e w2 ⟨rfl, hb2⟩
    obtain ⟨hq, hb⟩ := HR.out _ (bnext HB1.out hb2 HB1.out.size)
    have HQ : Hid (w2.heap[w.heap.size]? = some (.cells #[.int .i64 0, .int .i64 0, .string nul] 31 (0, 0))) := hq
    have HB : Hid (Below w.heap.size w w2) := hb
    clear hq hb hb2 HR HB1 v0 v1 v2
    obtain ⟨c0, c1, c2⟩ := cells3v HQ.out
    have f0 := frz HQ.out
    go_wp2_with fail
    refine fin3 HQ.out (Q := bodyPost _ _ _ _ _) ?_
    clear c0 c1 c2 f0
    intro w9 hq9 hk9
    obtain ⟨d0, d1, d2⟩ := cells3v hq9
    exact bodyPost_ret (v := VV 4 2 nul) (by simp [results, Tryz.results147, go_sem, d0, d1, d2]) rfl ⟨rfl, HB.out.trans (hk9 _ (by omega))⟩
/-- A value as a truth. -/
def trV (k n : Int) (s : ByteArray) : V3 :=
  if (k == 3) = true then ⟨k, n, s⟩ else if (k == 4) = true then ⟨k, n, s⟩ else if (k == 0) = true then ⟨3, 0, nul⟩ else if (k == 1) = true then ⟨3, b2I (n != 0), nul⟩ else if (k == 2) = true then txT s else ⟨4, 2, nul⟩
set_option maxHeartbeats 1600000 in
theorem tru3 (k : Int) (h3 : (k == 3) = true) (n : Int) (s : ByteArray) (w : World) : Calls Tryz.prog 241 #[VV k n s] w fun e w' => e = .returned (VV k n s) ∧ Below w.heap.size w w' := by
  obtain ⟨hA, hR⟩ := ev.two_new w (.cells #[.int .i64 k, .int .i64 n, .string s] 31) (.cells #[.int .i64 0, .int .i64 0, .string nul] 31)
  have hbW : Below w.heap.size w ((w.alloc (.cells #[.int .i64 k, .int .i64 n, .string s] 31)).alloc (.cells #[.int .i64 0, .int .i64 0, .string nul] 31)) := ((Below.refl _ _).alloc (Nat.le_refl _) _).alloc (by simp) _
  obtain ⟨W, hW⟩ : ∃ W, (w.alloc (.cells #[.int .i64 k, .int .i64 n, .string s] 31)).alloc (.cells #[.int .i64 0, .int .i64 0, .string nul] 31) = W := ⟨_, rfl⟩
  have hAA := hA
  rw [hW] at hAA hR hbW
  obtain ⟨a0, a1, a2⟩ := cells3v hA
  have HBW : Hid (Below w.heap.size w W) := hbW
  have HRW : Hid (W.heap[w.heap.size + 1]? = some (.cells #[.int .i64 0, .int .i64 0, .string nul] 31 (0, 0))) := hR
  have HWW : Hid ((w.alloc (.cells #[.int .i64 k, .int .i64 n, .string s] 31)).alloc (.cells #[.int .i64 0, .int .i64 0, .string nul] 31) = W) := hW
  clear hA hAA hR hW hbW
  have HQ : Hid (((w.alloc (.cells #[.int .i64 k, .int .i64 n, .string s] 31)).alloc (.cells #[.int .i64 0, .int .i64 0, .string nul] 31)).heap[w.heap.size + 1]? = some (.cells #[.int .i64 0, .int .i64 0, .string nul] 31 (0, 0))) := by rw [HWW.out]; exact HRW.out
  have HB : Hid (Below w.heap.size w ((w.alloc (.cells #[.int .i64 k, .int .i64 n, .string s] 31)).alloc (.cells #[.int .i64 0, .int .i64 0, .string nul] 31))) := by rw [HWW.out]; exact HBW.out
  clear HBW HRW HWW
  go_enter Tryz.func241, Tryz.ntmps241
  go_wp2_with fail
  exact bodyPost_ret (v := VV k n s) (by simp [results, Tryz.results241, go_sem]) rfl ⟨rfl, by (repeat (first | exact Below.refl _ _ | assumption | (refine Below.setCell ?_ (by first | omega | (simp <;> omega)) _) | (refine Below.alloc ?_ (by first | omega | (simp <;> omega)) _)))⟩
set_option maxHeartbeats 1600000 in
theorem tru4 (k : Int) (h3 : (k == 3) = false) (h4 : (k == 4) = true) (n : Int) (s : ByteArray) (w : World) : Calls Tryz.prog 241 #[VV k n s] w fun e w' => e = .returned (VV k n s) ∧ Below w.heap.size w w' := by
  obtain ⟨hA, hR⟩ := ev.two_new w (.cells #[.int .i64 k, .int .i64 n, .string s] 31) (.cells #[.int .i64 0, .int .i64 0, .string nul] 31)
  have hbW : Below w.heap.size w ((w.alloc (.cells #[.int .i64 k, .int .i64 n, .string s] 31)).alloc (.cells #[.int .i64 0, .int .i64 0, .string nul] 31)) := ((Below.refl _ _).alloc (Nat.le_refl _) _).alloc (by simp) _
  obtain ⟨W, hW⟩ : ∃ W, (w.alloc (.cells #[.int .i64 k, .int .i64 n, .string s] 31)).alloc (.cells #[.int .i64 0, .int .i64 0, .string nul] 31) = W := ⟨_, rfl⟩
  have hAA := hA
  rw [hW] at hAA hR hbW
  obtain ⟨a0, a1, a2⟩ := cells3v hA
  have HBW : Hid (Below w.heap.size w W) := hbW
  have HRW : Hid (W.heap[w.heap.size + 1]? = some (.cells #[.int .i64 0, .int .i64 0, .string nul] 31 (0, 0))) := hR
  have HWW : Hid ((w.alloc (.cells #[.int .i64 k, .int .i64 n, .string s] 31)).alloc (.cells #[.int .i64 0, .int .i64 0, .string nul] 31) = W) := hW
  clear hA hAA hR hW hbW
  have HQ : Hid (((w.alloc (.cells #[.int .i64 k, .int .i64 n, .string s] 31)).alloc (.cells #[.int .i64 0, .int .i64 0, .string nul] 31)).heap[w.heap.size + 1]? = some (.cells #[.int .i64 0, .int .i64 0, .string nul] 31 (0, 0))) := by rw [HWW.out]; exact HRW.out
  have HB : Hid (Below w.heap.size w ((w.alloc (.cells #[.int .i64 k, .int .i64 n, .string s] 31)).alloc (.cells #[.int .i64 0, .int .i64 0, .string nul] 31))) := by rw [HWW.out]; exact HBW.out
  clear HBW HRW HWW
  go_enter Tryz.func241, Tryz.ntmps241
  go_wp2_with fail
  exact bodyPost_ret (v := VV k n s) (by simp [results, Tryz.results241, go_sem]) rfl ⟨rfl, by (repeat (first | exact Below.refl _ _ | assumption | (refine Below.setCell ?_ (by first | omega | (simp <;> omega)) _) | (refine Below.alloc ?_ (by first | omega | (simp <;> omega)) _)))⟩
set_option maxHeartbeats 1600000 in
theorem tru0 (k : Int) (h3 : (k == 3) = false) (h4 : (k == 4) = false) (h0 : (k == 0) = true) (n : Int) (s : ByteArray) (w : World) : Calls Tryz.prog 241 #[VV k n s] w fun e w' => e = .returned (VV 3 0 nul) ∧ Below w.heap.size w w' := by
  obtain ⟨hA, hR⟩ := ev.two_new w (.cells #[.int .i64 k, .int .i64 n, .string s] 31) (.cells #[.int .i64 0, .int .i64 0, .string nul] 31)
  have hbW : Below w.heap.size w ((w.alloc (.cells #[.int .i64 k, .int .i64 n, .string s] 31)).alloc (.cells #[.int .i64 0, .int .i64 0, .string nul] 31)) := ((Below.refl _ _).alloc (Nat.le_refl _) _).alloc (by simp) _
  obtain ⟨W, hW⟩ : ∃ W, (w.alloc (.cells #[.int .i64 k, .int .i64 n, .string s] 31)).alloc (.cells #[.int .i64 0, .int .i64 0, .string nul] 31) = W := ⟨_, rfl⟩
  have hAA := hA
  rw [hW] at hAA hR hbW
  obtain ⟨a0, a1, a2⟩ := cells3v hA
  have HBW : Hid (Below w.heap.size w W) := hbW
  have HRW : Hid (W.heap[w.heap.size + 1]? = some (.cells #[.int .i64 0, .int .i64 0, .string nul] 31 (0, 0))) := hR
  have HWW : Hid ((w.alloc (.cells #[.int .i64 k, .int .i64 n, .string s] 31)).alloc (.cells #[.int .i64 0, .int .i64 0, .string nul] 31) = W) := hW
  clear hA hAA hR hW hbW
  go_enter Tryz.func241, Tryz.ntmps241
  go_wp2_with fail
  rw [HWW.out]
  refine (truthF _).mono ?_
  rintro e w1 ⟨rfl, hb1⟩
  have HQ : Hid (w1.heap[w.heap.size + 1]? = some (.cells #[.int .i64 0, .int .i64 0, .string nul] 31 (0, 0))) := (hb1.block _ (fm.lt_blk HRW.out)).trans HRW.out
  have HB : Hid (Below w.heap.size w w1) := bnext HBW.out hb1 HBW.out.size
  clear hb1 HBW HRW HWW a0 a1 a2
  obtain ⟨c0, c1, c2⟩ := cells3v HQ.out
  have f0 := frz HQ.out
  go_wp2_with fail
  refine fin3 HQ.out (Q := bodyPost _ _ _ _ _) ?_
  clear c0 c1 c2 f0
  intro w9 hq9 hk9
  obtain ⟨d0, d1, d2⟩ := cells3v hq9
  exact bodyPost_ret (v := VV 3 0 nul) (by simp [results, Tryz.results241, go_sem, d0, d1, d2]) rfl ⟨rfl, HB.out.trans (hk9 _ (by omega))⟩
set_option maxHeartbeats 1600000 in
theorem tru1 (k : Int) (h3 : (k == 3) = false) (h4 : (k == 4) = false) (h0 : (k == 0) = false) (h1 : (k == 1) = true) (n : Int) (s : ByteArray) (w : World) : Calls Tryz.prog 241 #[VV k n s] w fun e w' => e = .returned (VV 3 (b2I (n != 0)) nul) ∧ Below w.heap.size w w' := by
  obtain ⟨hA, hR⟩ := ev.two_new w (.cells #[.int .i64 k, .int .i64 n, .string s] 31) (.cells #[.int .i64 0, .int .i64 0, .string nul] 31)
  have hbW : Below w.heap.size w ((w.alloc (.cells #[.int .i64 k, .int .i64 n, .string s] 31)).alloc (.cells #[.int .i64 0, .int .i64 0, .string nul] 31)) := ((Below.refl _ _).alloc (Nat.le_refl _) _).alloc (by simp) _
  obtain ⟨W, hW⟩ : ∃ W, (w.alloc (.cells #[.int .i64 k, .int .i64 n, .string s] 31)).alloc (.cells #[.int .i64 0, .int .i64 0, .string nul] 31) = W := ⟨_, rfl⟩
  have hAA := hA
  rw [hW] at hAA hR hbW
  obtain ⟨a0, a1, a2⟩ := cells3v hA
  have HBW : Hid (Below w.heap.size w W) := hbW
  have HRW : Hid (W.heap[w.heap.size + 1]? = some (.cells #[.int .i64 0, .int .i64 0, .string nul] 31 (0, 0))) := hR
  have HWW : Hid ((w.alloc (.cells #[.int .i64 k, .int .i64 n, .string s] 31)).alloc (.cells #[.int .i64 0, .int .i64 0, .string nul] 31) = W) := hW
  clear hA hAA hR hW hbW
  go_enter Tryz.func241, Tryz.ntmps241
  go_wp2_with fail
  rw [HWW.out]
  refine (truthV _ _).mono ?_
  rintro e w1 ⟨rfl, hb1⟩
  have HQ : Hid (w1.heap[w.heap.size + 1]? = some (.cells #[.int .i64 0, .int .i64 0, .string nul] 31 (0, 0))) := (hb1.block _ (fm.lt_blk HRW.out)).trans HRW.out
  have HB : Hid (Below w.heap.size w w1) := bnext HBW.out hb1 HBW.out.size
  clear hb1 HBW HRW HWW a0 a1 a2
  obtain ⟨c0, c1, c2⟩ := cells3v HQ.out
  have f0 := frz HQ.out
  go_wp2_with fail
  refine fin3 HQ.out (Q := bodyPost _ _ _ _ _) ?_
  clear c0 c1 c2 f0
  intro w9 hq9 hk9
  obtain ⟨d0, d1, d2⟩ := cells3v hq9
  exact bodyPost_ret (v := VV 3 (b2I (n != 0)) nul) (by simp [results, Tryz.results241, go_sem, d0, d1, d2]) rfl ⟨rfl, HB.out.trans (hk9 _ (by omega))⟩
set_option maxHeartbeats 1600000 in
theorem tru2 (k : Int) (h3 : (k == 3) = false) (h4 : (k == 4) = false) (h0 : (k == 0) = false) (h1 : (k == 1) = false) (h2 : (k == 2) = true) (n : Int) (s : ByteArray) (w : World) (hE : Env w) : Calls Tryz.prog 241 #[VV k n s] w fun e w' => e = .returned (VV (txT s).k (txT s).n (txT s).s) ∧ Below w.heap.size w w' := by
  obtain ⟨hA, hR⟩ := ev.two_new w (.cells #[.int .i64 k, .int .i64 n, .string s] 31) (.cells #[.int .i64 0, .int .i64 0, .string nul] 31)
  have hbW : Below w.heap.size w ((w.alloc (.cells #[.int .i64 k, .int .i64 n, .string s] 31)).alloc (.cells #[.int .i64 0, .int .i64 0, .string nul] 31)) := ((Below.refl _ _).alloc (Nat.le_refl _) _).alloc (by simp) _
  obtain ⟨W, hW⟩ : ∃ W, (w.alloc (.cells #[.int .i64 k, .int .i64 n, .string s] 31)).alloc (.cells #[.int .i64 0, .int .i64 0, .string nul] 31) = W := ⟨_, rfl⟩
  have hAA := hA
  rw [hW] at hAA hR hbW
  obtain ⟨a0, a1, a2⟩ := cells3v hA
  have HBW : Hid (Below w.heap.size w W) := hbW
  have HRW : Hid (W.heap[w.heap.size + 1]? = some (.cells #[.int .i64 0, .int .i64 0, .string nul] 31 (0, 0))) := hR
  have HWW : Hid ((w.alloc (.cells #[.int .i64 k, .int .i64 n, .string s] 31)).alloc (.cells #[.int .i64 0, .int .i64 0, .string nul] 31) = W) := hW
  clear hA hAA hR hW hbW
  have HE : Hid (Env W) := hE.next HBW.out
  clear hE
  go_enter Tryz.func241, Tryz.ntmps241
  go_wp2_with fail
  rw [HWW.out]
  refine (readAs3 s W HE.out).mono ?_
  rintro e w1 ⟨rfl, hb1⟩
  have HQ : Hid (w1.heap[w.heap.size + 1]? = some (.cells #[.int .i64 0, .int .i64 0, .string nul] 31 (0, 0))) := (hb1.block _ (fm.lt_blk HRW.out)).trans HRW.out
  have HB : Hid (Below w.heap.size w w1) := bnext HBW.out hb1 HBW.out.size
  clear hb1 HBW HRW HWW a0 a1 a2
  obtain ⟨c0, c1, c2⟩ := cells3v HQ.out
  have f0 := frz HQ.out
  go_wp2_with fail
  refine fin3 HQ.out (Q := bodyPost _ _ _ _ _) ?_
  clear c0 c1 c2 f0
  intro w9 hq9 hk9
  obtain ⟨d0, d1, d2⟩ := cells3v hq9
  exact bodyPost_ret (v := VV (txT s).k (txT s).n (txT s).s) (by simp [results, Tryz.results241, go_sem, d0, d1, d2]) rfl ⟨rfl, HB.out.trans (hk9 _ (by omega))⟩
set_option maxHeartbeats 1600000 in
theorem trux (k : Int) (h3 : (k == 3) = false) (h4 : (k == 4) = false) (h0 : (k == 0) = false) (h1 : (k == 1) = false) (h2 : (k == 2) = false) (n : Int) (s : ByteArray) (w : World) : Calls Tryz.prog 241 #[VV k n s] w fun e w' => e = .returned (VV 4 2 nul) ∧ Below w.heap.size w w' := by
  obtain ⟨hA, hR⟩ := ev.two_new w (.cells #[.int .i64 k, .int .i64 n, .string s] 31) (.cells #[.int .i64 0, .int .i64 0, .string nul] 31)
  have hbW : Below w.heap.size w ((w.alloc (.cells #[.int .i64 k, .int .i64 n, .string s] 31)).alloc (.cells #[.int .i64 0, .int .i64 0, .string nul] 31)) := ((Below.refl _ _).alloc (Nat.le_refl _) _).alloc (by simp) _
  obtain ⟨W, hW⟩ : ∃ W, (w.alloc (.cells #[.int .i64 k, .int .i64 n, .string s] 31)).alloc (.cells #[.int .i64 0, .int .i64 0, .string nul] 31) = W := ⟨_, rfl⟩
  have hAA := hA
  rw [hW] at hAA hR hbW
  obtain ⟨a0, a1, a2⟩ := cells3v hA
  have HBW : Hid (Below w.heap.size w W) := hbW
  have HRW : Hid (W.heap[w.heap.size + 1]? = some (.cells #[.int .i64 0, .int .i64 0, .string nul] 31 (0, 0))) := hR
  have HWW : Hid ((w.alloc (.cells #[.int .i64 k, .int .i64 n, .string s] 31)).alloc (.cells #[.int .i64 0, .int .i64 0, .string nul] 31) = W) := hW
  clear hA hAA hR hW hbW
  go_enter Tryz.func241, Tryz.ntmps241
  go_wp2_with fail
  rw [HWW.out]
  refine (bad_any _ _).mono ?_
  rintro e w1 ⟨rfl, hb1⟩
  have HQ : Hid (w1.heap[w.heap.size + 1]? = some (.cells #[.int .i64 0, .int .i64 0, .string nul] 31 (0, 0))) := (hb1.block _ (fm.lt_blk HRW.out)).trans HRW.out
  have HB : Hid (Below w.heap.size w w1) := bnext HBW.out hb1 HBW.out.size
  clear hb1 HBW HRW HWW a0 a1 a2
  obtain ⟨c0, c1, c2⟩ := cells3v HQ.out
  have f0 := frz HQ.out
  go_wp2_with fail
  refine fin3 HQ.out (Q := bodyPost _ _ _ _ _) ?_
  clear c0 c1 c2 f0
  intro w9 hq9 hk9
  obtain ⟨d0, d1, d2⟩ := cells3v hq9
  exact bodyPost_ret (v := VV 4 2 nul) (by simp [results, Tryz.results241, go_sem, d0, d1, d2]) rfl ⟨rfl, HB.out.trans (hk9 _ (by omega))⟩
theorem truth_all (k n : Int) (s : ByteArray) (w : World) (hE : Env w) : Calls Tryz.prog 241 #[VV k n s] w fun e w' => e = .returned (VV (trV k n s).k (trV k n s).n (trV k n s).s) ∧ Below w.heap.size w w' := by
  unfold trV
  cases h3 : (k == 3) with
  | true => exact tru3 k h3 n s w
  | false =>
  cases h4 : (k == 4) with
  | true => exact tru4 k h3 h4 n s w
  | false =>
  cases h0 : (k == 0) with
  | true => exact tru0 k h3 h4 h0 n s w
  | false =>
  cases h1 : (k == 1) with
  | true => exact tru1 k h3 h4 h0 h1 n s w
  | false =>
  cases h2 : (k == 2) with
  | true => exact tru2 k h3 h4 h0 h1 h2 n s w hE
  | false => exact trux k h3 h4 h0 h1 h2 n s w
end Go.Proofs.YtoaejcppfmjhdaaGreatDoor.ov
/- Package eval: all and some. Conditions: as each theorem says. -/
namespace Go.Proofs.YtoaejcppfmjhdaaGreatDoor.ov
open Go.RowKit
open ev (VV fin3 cells3v b2I frz)
set_option maxRecDepth 100000 in
set_option maxHeartbeats 1600000 in
theorem index_any (xs : List Int) (a : Int) (base : Nat) (v : Value) (w : World) (h : w.ownsRow base 3 1 v xs.length (xs.map (Value.int .i64))) (hl : xs.length ≤ 1000000) :
    Calls Tryz.prog 268 #[v, .int .i64 a] w fun e w' => ∃ j : Int, e = .returned (.int .i64 j) ∧ (decide (0 ≤ j)) = xs.contains a ∧ Below w.heap.size w w' := by
  obtain ⟨n, hn⟩ : ∃ n, xs.length = n := ⟨_, rfl⟩
  rcases h.2 with ⟨rfl, h0⟩ | ⟨g, cap, cur, rfl, -, hg, -, -, -, ht⟩
  · have hx : xs = [] := List.eq_nil_of_length_eq_zero h0
    subst hx
    go_enter Tryz.func268, Tryz.ntmps268
    go_wp2_with fail
    go_loopw [8] (fun i wr => i = .int .i64 0 ∧ wr = w) (fun _ _ => 0)
    case atStart => exact ⟨rfl, rfl⟩
    case round =>
      obtain ⟨rfl, rfl⟩ := hrel
      go_wp2_with fail
      go_ret
      exact ⟨-1, rfl, rfl, Below.refl _ _⟩
  · have HC : Hid (∀ i x, xs[i]? = some x → w.cell? ⟨g, i, none⟩ = some (.int .i64 x)) := fun i x hx => by
      have hi : i < xs.length := (List.getElem?_eq_some_iff.1 hx).1
      have h1 : (xs.map (Value.int .i64))[i]? = some (.int .i64 x) := by rw [List.getElem?_map, hx]; rfl
      rw [← ht, List.getElem?_take, if_pos (by omega)] at h1
      simp only [World.cell?, hg]
      simpa using h1
    clear h hg ht
    rw [hn] at hl ⊢
    have HN : Hid (xs.length = n) := hn
    clear hn
    go_enter Tryz.func268, Tryz.ntmps268
    go_wp2_with fail
    go_loopw [8] (fun i wr => ∃ j : Nat, i = .int .i64 j ∧ j ≤ n ∧ wr = w ∧ ∀ t, t < j → xs[t]? ≠ some a) (fun i _ => n - (intOf i).toNat)
    case atStart => exact ⟨0, rfl, Nat.zero_le _, rfl, fun t ht => absurd ht (Nat.not_lt_zero _)⟩
    case round =>
      obtain ⟨j, rfl, hj, rfl, hd⟩ := hrel
      have HD : Hid (∀ t, t < j → xs[t]? ≠ some a) := hd
      clear hd
      by_cases hlt : j < n
      · have hlt' : (j : Int) < (n : Int) := by omega
        have hj0 : (0 : Int) ≤ (j : Int) := by omega
        have hjx : j < xs.length := by rw [HN.out]; exact hlt
        obtain ⟨x, hx⟩ : ∃ x, xs[j] = x := ⟨_, rfl⟩
        have hxx : xs[j]? = some x := by rw [List.getElem?_eq_getElem hjx, hx]
        have hc := HC.out j x hxx
        cases he : (a == x) with
        | true =>
          have HX : Hid (a ∈ xs) := List.mem_of_getElem? (by rw [hxx, eq_of_beq he])
          clear hx hxx hjx
          go_wp2_with fail
          go_ret
          exact ⟨_, rfl, by rw [List.contains_iff_mem.2 HX.out]; simp, Below.refl _ _⟩
        | false =>
          have HX : Hid (xs[j]? ≠ some a) := by rw [hxx]; intro e; injection e with e; rw [e] at he; simp at he
          clear hx hxx hjx
          go_wp2_with fail
          refine ⟨⟨j + 1, by simp, hlt, ?_, fun t ht => by
            by_cases e : t = j
            · subst e; exact HX.out
            · exact HD.out t (by omega)⟩, by simp [intOf]; omega⟩
          all_goals first | rfl | trivial
      · obtain rfl : j = n := by omega
        go_wp2_with fail
        go_ret
        refine ⟨-1, rfl, ?_, Below.refl _ _⟩
        have : ¬ a ∈ xs := fun hm => by
          obtain ⟨t, ht, he⟩ := List.getElem_of_mem hm
          exact HD.out t (by rw [← HN.out]; exact ht) (by rw [List.getElem?_eq_getElem ht, he])
        rw [show xs.contains a = false from by simpa using this]; rfl
set_option maxHeartbeats 800000 in
theorem contains_any (xs : List Int) (a : Int) (base : Nat) (v : Value) (w : World) (h : w.ownsRow base 3 1 v xs.length (xs.map (Value.int .i64))) (hl : xs.length ≤ 1000000) :
    Calls Tryz.prog 242 #[v, .int .i64 a] w fun e w' => e = .returned (.bool (xs.contains a)) ∧ Below w.heap.size w w' := by
  have HI := index_any xs a base v w h hl
  clear h hl
  go_enter Tryz.func242, Tryz.ntmps242
  go_wp2_with fail
  refine HI.mono ?_
  rintro e w1 ⟨j, rfl, hd, hb⟩
  have HD : Hid ((decide (0 ≤ j)) = xs.contains a) := hd
  clear hd
  go_wp2_with fail
  go_ret
  exact ⟨by rw [← HD.out]; rfl, hb⟩
theorem some_slice {xs : List Int} {base : Nat} {v : Value} {w : World} (h : w.ownsRow base 3 1 v xs.length (xs.map (Value.int .i64))) : ∃ p c, v = .slice p xs.length c := by
  rcases h.2 with ⟨rfl, h0⟩ | ⟨g, cap, cur, rfl, -⟩
  · exact ⟨none, 0, by rw [h0]⟩
  · exact ⟨_, _, rfl⟩
set_option maxRecDepth 100000 in
set_option maxHeartbeats 1600000 in
theorem all_any (xs : List Int) (hx : xs ≠ []) (base : Nat) (v : Value) (w : World) (h : w.ownsRow base 3 1 v xs.length (xs.map (Value.int .i64))) (hl : xs.length ≤ 1000000) :
    Calls Tryz.prog 163 #[v] w fun e w' => e = .returned (VV 3 (b2I (!xs.contains 0)) nul) ∧ Below w.heap.size w w' := by
  have hb0 : Below w.heap.size w (w.alloc (.cells #[.int .i64 0, .int .i64 0, .string nul] 31)) := (Below.refl _ _).alloc (Nat.le_refl _) _
  have HC := contains_any xs 0 base v _ (own_below h hb0) hl
  obtain ⟨p, c, rfl⟩ := some_slice h
  have hne : ¬ ((xs.length : Int) = 0) := by cases xs with | nil => exact absurd rfl hx | cons a l => simp; omega
  have HR : Hid (∀ w1, Below (w.alloc (.cells #[.int .i64 0, .int .i64 0, .string nul] 31)).heap.size (w.alloc (.cells #[.int .i64 0, .int .i64 0, .string nul] 31)) w1 → w1.heap[w.heap.size]? = some (.cells #[.int .i64 0, .int .i64 0, .string nul] 31 (0, 0)) ∧ Below w.heap.size w w1) := fun w1 hb => ⟨(hb.block _ (by simp)).trans (heap_alloc_new w _), bnext hb0 hb hb0.size⟩
  generalize xs.contains 0 = C at *
  generalize xs.length = n at *
  clear h hl hb0 hx
  go_enter Tryz.func163, Tryz.ntmps163
  go_wp2_with fail
  refine HC.mono ?_
  rintro e w1 ⟨rfl, hb1⟩
  have HB1 : Hid (Below (w.alloc (.cells #[.int .i64 0, .int .i64 0, .string nul] 31)).heap.size (w.alloc (.cells #[.int .i64 0, .int .i64 0, .string nul] 31)) w1) := hb1
  clear hb1
  go_wp2_with fail
  refine (ev.truth_any _ _).mono ?_
  rintro e w2 ⟨rfl, hb2⟩
  obtain ⟨hq, hb⟩ := HR.out w2 (bnext HB1.out hb2 HB1.out.size)
  have HB : Hid (Below w.heap.size w w2) := hb
  have HQ : Hid (w2.heap[w.heap.size]? = some (.cells #[.int .i64 0, .int .i64 0, .string nul] 31 (0, 0))) := hq
  obtain ⟨c0, c1, c2⟩ := cells3v hq
  have f0 := frz hq
  clear hq hb hb2 HB1 HR
  go_wp2_with fail
  refine fin3 HQ.out (Q := bodyPost _ _ _ _ _) ?_
  clear c0 c1 c2 f0
  intro w3 hq3 hk3
  obtain ⟨d0, d1, d2⟩ := cells3v hq3
  exact bodyPost_ret (v := VV 3 (b2I (!C)) nul) (by simp [results, Tryz.results163, go_sem, d0, d1, d2]) rfl ⟨rfl, HB.out.trans (hk3 _ (Nat.le_refl _))⟩
set_option maxRecDepth 100000 in
set_option maxHeartbeats 1600000 in
theorem some_any (xs : List Int) (hx : xs ≠ []) (base : Nat) (v : Value) (w : World) (h : w.ownsRow base 3 1 v xs.length (xs.map (Value.int .i64))) (hl : xs.length ≤ 1000000) :
    Calls Tryz.prog 164 #[v] w fun e w' => e = .returned (VV 3 (b2I (xs.contains 1)) nul) ∧ Below w.heap.size w w' := by
  have hb0 : Below w.heap.size w (w.alloc (.cells #[.int .i64 0, .int .i64 0, .string nul] 31)) := (Below.refl _ _).alloc (Nat.le_refl _) _
  have HC := contains_any xs 1 base v _ (own_below h hb0) hl
  obtain ⟨p, c, rfl⟩ := some_slice h
  have hne : ¬ ((xs.length : Int) = 0) := by cases xs with | nil => exact absurd rfl hx | cons a l => simp; omega
  have HR : Hid (∀ w1, Below (w.alloc (.cells #[.int .i64 0, .int .i64 0, .string nul] 31)).heap.size (w.alloc (.cells #[.int .i64 0, .int .i64 0, .string nul] 31)) w1 → w1.heap[w.heap.size]? = some (.cells #[.int .i64 0, .int .i64 0, .string nul] 31 (0, 0)) ∧ Below w.heap.size w w1) := fun w1 hb => ⟨(hb.block _ (by simp)).trans (heap_alloc_new w _), bnext hb0 hb hb0.size⟩
  generalize xs.contains 1 = C at *
  generalize xs.length = n at *
  clear h hl hb0 hx
  go_enter Tryz.func164, Tryz.ntmps164
  go_wp2_with fail
  refine HC.mono ?_
  rintro e w1 ⟨rfl, hb1⟩
  have HB1 : Hid (Below (w.alloc (.cells #[.int .i64 0, .int .i64 0, .string nul] 31)).heap.size (w.alloc (.cells #[.int .i64 0, .int .i64 0, .string nul] 31)) w1) := hb1
  clear hb1
  go_wp2_with fail
  refine (ev.truth_any _ _).mono ?_
  rintro e w2 ⟨rfl, hb2⟩
  obtain ⟨hq, hb⟩ := HR.out w2 (bnext HB1.out hb2 HB1.out.size)
  have HB : Hid (Below w.heap.size w w2) := hb
  have HQ : Hid (w2.heap[w.heap.size]? = some (.cells #[.int .i64 0, .int .i64 0, .string nul] 31 (0, 0))) := hq
  obtain ⟨c0, c1, c2⟩ := cells3v hq
  have f0 := frz hq
  clear hq hb hb2 HB1 HR
  go_wp2_with fail
  refine fin3 HQ.out (Q := bodyPost _ _ _ _ _) ?_
  clear c0 c1 c2 f0
  intro w3 hq3 hk3
  obtain ⟨d0, d1, d2⟩ := cells3v hq3
  exact bodyPost_ret (v := VV 3 (b2I (C)) nul) (by simp [results, Tryz.results164, go_sem, d0, d1, d2]) rfl ⟨rfl, HB.out.trans (hk3 _ (Nat.le_refl _))⟩
end Go.Proofs.YtoaejcppfmjhdaaGreatDoor.ov
/- Truth, as the reference has it. Conditions: the text has at most 2^47 bytes. -/
namespace Go.Proofs.YtoaejcppfmjhdaaGreatDoor.ov
open Go.RowKit
open ev (VV fin3 cells3v b2I frz)
theorem rTruV (b : Bool) (w : World) : Calls Tryz.prog 22 #[.bool b] w fun e w' => e = .returned (VV 3 (b2I b) nul) ∧ Below w.heap.size w w' := by
  cases b with
  | true =>
    go_enter Tryz.func22, Tryz.ntmps22
    go_wp2_with fail
    exact bodyPost_ret (v := VV 3 1 nul) (by simp [results, Tryz.results22, go_sem]) rfl ⟨rfl, (Below.refl _ _).alloc (Nat.le_refl _) _⟩
  | false =>
    go_enter Tryz.func22, Tryz.ntmps22
    go_wp2_with fail
    exact bodyPost_ret (v := VV 3 0 nul) (by simp [results, Tryz.results22, go_sem]) rfl ⟨rfl, (Below.refl _ _).alloc (Nat.le_refl _) _⟩
theorem rTruF (w : World) : Calls Tryz.prog 22 #[.bool false] w fun e w' => e = .returned (VV 3 0 nul) ∧ Below w.heap.size w w' := rTruV false w
theorem rBadV (n : Int) (w : World) : Calls Tryz.prog 23 #[.int .i64 n] w fun e w' => e = .returned (VV 4 n nul) ∧ Below w.heap.size w w' := by
  go_enter Tryz.func23, Tryz.ntmps23
  go_wp2_with fail
  exact bodyPost_ret (v := VV 4 n nul) (by simp [results, Tryz.results23, go_sem]) rfl ⟨rfl, (Below.refl _ _).alloc (Nat.le_refl _) _⟩
set_option maxHeartbeats 1600000 in
theorem rtru3 (k : Int) (h3 : (k == 3) = true) (n : Int) (s : ByteArray) (w : World) : Calls Tryz.prog 24 #[VV k n s] w fun e w' => e = .returned (VV k n s) ∧ Below w.heap.size w w' := by
  obtain ⟨hA, hR⟩ := ev.two_new w (.cells #[.int .i64 k, .int .i64 n, .string s] 31) (.cells #[.int .i64 0, .int .i64 0, .string nul] 31)
  have hbW : Below w.heap.size w ((w.alloc (.cells #[.int .i64 k, .int .i64 n, .string s] 31)).alloc (.cells #[.int .i64 0, .int .i64 0, .string nul] 31)) := ((Below.refl _ _).alloc (Nat.le_refl _) _).alloc (by simp) _
  obtain ⟨W, hW⟩ : ∃ W, (w.alloc (.cells #[.int .i64 k, .int .i64 n, .string s] 31)).alloc (.cells #[.int .i64 0, .int .i64 0, .string nul] 31) = W := ⟨_, rfl⟩
  have hAA := hA
  rw [hW] at hAA hR hbW
  obtain ⟨a0, a1, a2⟩ := cells3v hA
  have HBW : Hid (Below w.heap.size w W) := hbW
  have HRW : Hid (W.heap[w.heap.size + 1]? = some (.cells #[.int .i64 0, .int .i64 0, .string nul] 31 (0, 0))) := hR
  have HWW : Hid ((w.alloc (.cells #[.int .i64 k, .int .i64 n, .string s] 31)).alloc (.cells #[.int .i64 0, .int .i64 0, .string nul] 31) = W) := hW
  clear hA hAA hR hW hbW
  have HQ : Hid (((w.alloc (.cells #[.int .i64 k, .int .i64 n, .string s] 31)).alloc (.cells #[.int .i64 0, .int .i64 0, .string nul] 31)).heap[w.heap.size + 1]? = some (.cells #[.int .i64 0, .int .i64 0, .string nul] 31 (0, 0))) := by rw [HWW.out]; exact HRW.out
  have HB : Hid (Below w.heap.size w ((w.alloc (.cells #[.int .i64 k, .int .i64 n, .string s] 31)).alloc (.cells #[.int .i64 0, .int .i64 0, .string nul] 31))) := by rw [HWW.out]; exact HBW.out
  clear HBW HRW HWW
  go_enter Tryz.func24, Tryz.ntmps24
  go_wp2_with fail
  exact bodyPost_ret (v := VV k n s) (by simp [results, Tryz.results24, go_sem]) rfl ⟨rfl, by (repeat (first | exact Below.refl _ _ | assumption | (refine Below.setCell ?_ (by first | omega | (simp <;> omega)) _) | (refine Below.alloc ?_ (by first | omega | (simp <;> omega)) _)))⟩
set_option maxHeartbeats 1600000 in
theorem rtru4 (k : Int) (h3 : (k == 3) = false) (h4 : (k == 4) = true) (n : Int) (s : ByteArray) (w : World) : Calls Tryz.prog 24 #[VV k n s] w fun e w' => e = .returned (VV k n s) ∧ Below w.heap.size w w' := by
  obtain ⟨hA, hR⟩ := ev.two_new w (.cells #[.int .i64 k, .int .i64 n, .string s] 31) (.cells #[.int .i64 0, .int .i64 0, .string nul] 31)
  have hbW : Below w.heap.size w ((w.alloc (.cells #[.int .i64 k, .int .i64 n, .string s] 31)).alloc (.cells #[.int .i64 0, .int .i64 0, .string nul] 31)) := ((Below.refl _ _).alloc (Nat.le_refl _) _).alloc (by simp) _
  obtain ⟨W, hW⟩ : ∃ W, (w.alloc (.cells #[.int .i64 k, .int .i64 n, .string s] 31)).alloc (.cells #[.int .i64 0, .int .i64 0, .string nul] 31) = W := ⟨_, rfl⟩
  have hAA := hA
  rw [hW] at hAA hR hbW
  obtain ⟨a0, a1, a2⟩ := cells3v hA
  have HBW : Hid (Below w.heap.size w W) := hbW
  have HRW : Hid (W.heap[w.heap.size + 1]? = some (.cells #[.int .i64 0, .int .i64 0, .string nul] 31 (0, 0))) := hR
  have HWW : Hid ((w.alloc (.cells #[.int .i64 k, .int .i64 n, .string s] 31)).alloc (.cells #[.int .i64 0, .int .i64 0, .string nul] 31) = W) := hW
  clear hA hAA hR hW hbW
  have HQ : Hid (((w.alloc (.cells #[.int .i64 k, .int .i64 n, .string s] 31)).alloc (.cells #[.int .i64 0, .int .i64 0, .string nul] 31)).heap[w.heap.size + 1]? = some (.cells #[.int .i64 0, .int .i64 0, .string nul] 31 (0, 0))) := by rw [HWW.out]; exact HRW.out
  have HB : Hid (Below w.heap.size w ((w.alloc (.cells #[.int .i64 k, .int .i64 n, .string s] 31)).alloc (.cells #[.int .i64 0, .int .i64 0, .string nul] 31))) := by rw [HWW.out]; exact HBW.out
  clear HBW HRW HWW
  go_enter Tryz.func24, Tryz.ntmps24
  go_wp2_with fail
  exact bodyPost_ret (v := VV k n s) (by simp [results, Tryz.results24, go_sem]) rfl ⟨rfl, by (repeat (first | exact Below.refl _ _ | assumption | (refine Below.setCell ?_ (by first | omega | (simp <;> omega)) _) | (refine Below.alloc ?_ (by first | omega | (simp <;> omega)) _)))⟩
set_option maxHeartbeats 1600000 in
theorem rtru0 (k : Int) (h3 : (k == 3) = false) (h4 : (k == 4) = false) (h0 : (k == 0) = true) (n : Int) (s : ByteArray) (w : World) : Calls Tryz.prog 24 #[VV k n s] w fun e w' => e = .returned (VV 3 0 nul) ∧ Below w.heap.size w w' := by
  obtain ⟨hA, hR⟩ := ev.two_new w (.cells #[.int .i64 k, .int .i64 n, .string s] 31) (.cells #[.int .i64 0, .int .i64 0, .string nul] 31)
  have hbW : Below w.heap.size w ((w.alloc (.cells #[.int .i64 k, .int .i64 n, .string s] 31)).alloc (.cells #[.int .i64 0, .int .i64 0, .string nul] 31)) := ((Below.refl _ _).alloc (Nat.le_refl _) _).alloc (by simp) _
  obtain ⟨W, hW⟩ : ∃ W, (w.alloc (.cells #[.int .i64 k, .int .i64 n, .string s] 31)).alloc (.cells #[.int .i64 0, .int .i64 0, .string nul] 31) = W := ⟨_, rfl⟩
  have hAA := hA
  rw [hW] at hAA hR hbW
  obtain ⟨a0, a1, a2⟩ := cells3v hA
  have HBW : Hid (Below w.heap.size w W) := hbW
  have HRW : Hid (W.heap[w.heap.size + 1]? = some (.cells #[.int .i64 0, .int .i64 0, .string nul] 31 (0, 0))) := hR
  have HWW : Hid ((w.alloc (.cells #[.int .i64 k, .int .i64 n, .string s] 31)).alloc (.cells #[.int .i64 0, .int .i64 0, .string nul] 31) = W) := hW
  clear hA hAA hR hW hbW
  go_enter Tryz.func24, Tryz.ntmps24
  go_wp2_with fail
  rw [HWW.out]
  refine (rTruF _).mono ?_
  rintro e w1 ⟨rfl, hb1⟩
  have HQ : Hid (w1.heap[w.heap.size + 1]? = some (.cells #[.int .i64 0, .int .i64 0, .string nul] 31 (0, 0))) := (hb1.block _ (fm.lt_blk HRW.out)).trans HRW.out
  have HB : Hid (Below w.heap.size w w1) := bnext HBW.out hb1 HBW.out.size
  clear hb1 HBW HRW HWW a0 a1 a2
  obtain ⟨c0, c1, c2⟩ := cells3v HQ.out
  have f0 := frz HQ.out
  go_wp2_with fail
  refine fin3 HQ.out (Q := bodyPost _ _ _ _ _) ?_
  clear c0 c1 c2 f0
  intro w9 hq9 hk9
  obtain ⟨d0, d1, d2⟩ := cells3v hq9
  exact bodyPost_ret (v := VV 3 0 nul) (by simp [results, Tryz.results24, go_sem, d0, d1, d2]) rfl ⟨rfl, HB.out.trans (hk9 _ (by omega))⟩
set_option maxHeartbeats 1600000 in
theorem rtru1 (k : Int) (h3 : (k == 3) = false) (h4 : (k == 4) = false) (h0 : (k == 0) = false) (h1 : (k == 1) = true) (n : Int) (s : ByteArray) (w : World) : Calls Tryz.prog 24 #[VV k n s] w fun e w' => e = .returned (VV 3 (b2I (n != 0)) nul) ∧ Below w.heap.size w w' := by
  obtain ⟨hA, hR⟩ := ev.two_new w (.cells #[.int .i64 k, .int .i64 n, .string s] 31) (.cells #[.int .i64 0, .int .i64 0, .string nul] 31)
  have hbW : Below w.heap.size w ((w.alloc (.cells #[.int .i64 k, .int .i64 n, .string s] 31)).alloc (.cells #[.int .i64 0, .int .i64 0, .string nul] 31)) := ((Below.refl _ _).alloc (Nat.le_refl _) _).alloc (by simp) _
  obtain ⟨W, hW⟩ : ∃ W, (w.alloc (.cells #[.int .i64 k, .int .i64 n, .string s] 31)).alloc (.cells #[.int .i64 0, .int .i64 0, .string nul] 31) = W := ⟨_, rfl⟩
  have hAA := hA
  rw [hW] at hAA hR hbW
  obtain ⟨a0, a1, a2⟩ := cells3v hA
  have HBW : Hid (Below w.heap.size w W) := hbW
  have HRW : Hid (W.heap[w.heap.size + 1]? = some (.cells #[.int .i64 0, .int .i64 0, .string nul] 31 (0, 0))) := hR
  have HWW : Hid ((w.alloc (.cells #[.int .i64 k, .int .i64 n, .string s] 31)).alloc (.cells #[.int .i64 0, .int .i64 0, .string nul] 31) = W) := hW
  clear hA hAA hR hW hbW
  go_enter Tryz.func24, Tryz.ntmps24
  go_wp2_with fail
  rw [HWW.out]
  refine (rTruV _ _).mono ?_
  rintro e w1 ⟨rfl, hb1⟩
  have HQ : Hid (w1.heap[w.heap.size + 1]? = some (.cells #[.int .i64 0, .int .i64 0, .string nul] 31 (0, 0))) := (hb1.block _ (fm.lt_blk HRW.out)).trans HRW.out
  have HB : Hid (Below w.heap.size w w1) := bnext HBW.out hb1 HBW.out.size
  clear hb1 HBW HRW HWW a0 a1 a2
  obtain ⟨c0, c1, c2⟩ := cells3v HQ.out
  have f0 := frz HQ.out
  go_wp2_with fail
  refine fin3 HQ.out (Q := bodyPost _ _ _ _ _) ?_
  clear c0 c1 c2 f0
  intro w9 hq9 hk9
  obtain ⟨d0, d1, d2⟩ := cells3v hq9
  exact bodyPost_ret (v := VV 3 (b2I (n != 0)) nul) (by simp [results, Tryz.results24, go_sem, d0, d1, d2]) rfl ⟨rfl, HB.out.trans (hk9 _ (by omega))⟩
set_option maxHeartbeats 1600000 in
theorem rtru2 (k : Int) (h3 : (k == 3) = false) (h4 : (k == 4) = false) (h0 : (k == 0) = false) (h1 : (k == 1) = false) (n : Int) (s : ByteArray) (w : World) (hs : s.size ≤ 140737488355328) : Calls Tryz.prog 24 #[VV k n s] w fun e w' => e = .returned (VV (txT s).k (txT s).n (txT s).s) ∧ Below w.heap.size w w' := by
  obtain ⟨hA, hR⟩ := ev.two_new w (.cells #[.int .i64 k, .int .i64 n, .string s] 31) (.cells #[.int .i64 0, .int .i64 0, .string nul] 31)
  have hbW : Below w.heap.size w ((w.alloc (.cells #[.int .i64 k, .int .i64 n, .string s] 31)).alloc (.cells #[.int .i64 0, .int .i64 0, .string nul] 31)) := ((Below.refl _ _).alloc (Nat.le_refl _) _).alloc (by simp) _
  obtain ⟨W, hW⟩ : ∃ W, (w.alloc (.cells #[.int .i64 k, .int .i64 n, .string s] 31)).alloc (.cells #[.int .i64 0, .int .i64 0, .string nul] 31) = W := ⟨_, rfl⟩
  have hAA := hA
  rw [hW] at hAA hR hbW
  obtain ⟨a0, a1, a2⟩ := cells3v hA
  have HBW : Hid (Below w.heap.size w W) := hbW
  have HRW : Hid (W.heap[w.heap.size + 1]? = some (.cells #[.int .i64 0, .int .i64 0, .string nul] 31 (0, 0))) := hR
  have HWW : Hid ((w.alloc (.cells #[.int .i64 k, .int .i64 n, .string s] 31)).alloc (.cells #[.int .i64 0, .int .i64 0, .string nul] 31) = W) := hW
  clear hA hAA hR hW hbW
  have HRD := rread_any s W hs
  unfold txT
  generalize rd s = R at *
  obtain ⟨rk, rn, rs⟩ := R
  dsimp only at HRD ⊢
  clear hs
  cases h3 : (rk == 3) with
  | true =>
    simp only [if_true]
    go_enter Tryz.func24, Tryz.ntmps24
    go_wp2_with fail
    rw [HWW.out]
    refine HRD.mono ?_
    rintro e w1 ⟨rfl, hb1⟩
    have hba : Below w1.heap.size w1 (w1.alloc (.cells #[.int .i64 rk, .int .i64 rn, .string rs] 31)) := (Below.refl _ _).alloc (Nat.le_refl _) _
    have hb := bnext hb1 hba hb1.size
    have HQ : Hid ((w1.alloc (.cells #[.int .i64 rk, .int .i64 rn, .string rs] 31)).heap[w.heap.size + 1]? = some (.cells #[.int .i64 0, .int .i64 0, .string nul] 31 (0, 0))) := (hb.block _ (fm.lt_blk HRW.out)).trans HRW.out
    have HB : Hid (Below w.heap.size w (w1.alloc (.cells #[.int .i64 rk, .int .i64 rn, .string rs] 31))) := bnext HBW.out hb HBW.out.size
    obtain ⟨v0, v1, v2⟩ := cells3v (heap_alloc_new w1 (.cells #[.int .i64 rk, .int .i64 rn, .string rs] 31))
    clear hb hb1 hba HBW HRW HWW a0 a1 a2
    obtain ⟨c0, c1, c2⟩ := cells3v HQ.out
    have f0 := frz HQ.out
    go_wp2_with fail
    refine fin3 HQ.out (Q := bodyPost _ _ _ _ _) ?_
    clear c0 c1 c2 f0
    intro w9 hq9 hk9
    obtain ⟨d0, d1, d2⟩ := cells3v hq9
    exact bodyPost_ret (v := VV rk rn rs) (by simp [results, Tryz.results24, go_sem, d0, d1, d2]) rfl ⟨rfl, HB.out.trans (hk9 _ (by omega))⟩
  | false =>
    simp only [Bool.false_eq_true, if_false]
    go_enter Tryz.func24, Tryz.ntmps24
    go_wp2_with fail
    rw [HWW.out]
    refine HRD.mono ?_
    rintro e w1 ⟨rfl, hb1⟩
    have hba : Below w1.heap.size w1 (w1.alloc (.cells #[.int .i64 rk, .int .i64 rn, .string rs] 31)) := (Below.refl _ _).alloc (Nat.le_refl _) _
    have HB1 : Hid (Below W.heap.size W (w1.alloc (.cells #[.int .i64 rk, .int .i64 rn, .string rs] 31))) := bnext hb1 hba hb1.size
    obtain ⟨v0, v1, v2⟩ := cells3v (heap_alloc_new w1 (.cells #[.int .i64 rk, .int .i64 rn, .string rs] 31))
    clear hb1 hba a0 a1 a2
    go_wp2_with fail
    refine (rBadV _ _).mono ?_
    rintro e w2 ⟨rfl, hb2⟩
    have hb := bnext HB1.out hb2 HB1.out.size
    have HQ : Hid (w2.heap[w.heap.size + 1]? = some (.cells #[.int .i64 0, .int .i64 0, .string nul] 31 (0, 0))) := (hb.block _ (fm.lt_blk HRW.out)).trans HRW.out
    have HB : Hid (Below w.heap.size w w2) := bnext HBW.out hb HBW.out.size
    clear hb hb2 HB1 HBW HRW HWW v0 v1 v2
    obtain ⟨c0, c1, c2⟩ := cells3v HQ.out
    have f0 := frz HQ.out
    go_wp2_with fail
    refine fin3 HQ.out (Q := bodyPost _ _ _ _ _) ?_
    clear c0 c1 c2 f0
    intro w9 hq9 hk9
    obtain ⟨d0, d1, d2⟩ := cells3v hq9
    exact bodyPost_ret (v := VV 4 2 nul) (by simp [results, Tryz.results24, go_sem, d0, d1, d2]) rfl ⟨rfl, HB.out.trans (hk9 _ (by omega))⟩
theorem rtruth_all (k n : Int) (s : ByteArray) (w : World) (hs : s.size ≤ 140737488355328) (hk : k ≠ 2 → k = 0 ∨ k = 1 ∨ k = 3 ∨ k = 4) : Calls Tryz.prog 24 #[VV k n s] w fun e w' => e = .returned (VV (trV k n s).k (trV k n s).n (trV k n s).s) ∧ Below w.heap.size w w' := by
  unfold trV
  cases h3 : (k == 3) with
  | true => exact rtru3 k h3 n s w
  | false =>
  cases h4 : (k == 4) with
  | true => exact rtru4 k h3 h4 n s w
  | false =>
  cases h0 : (k == 0) with
  | true => exact rtru0 k h3 h4 h0 n s w
  | false =>
  cases h1 : (k == 1) with
  | true => exact rtru1 k h3 h4 h0 h1 n s w
  | false =>
  cases h2 : (k == 2) with
  | true => exact rtru2 k h3 h4 h0 h1 n s w hs
  | false =>
    simp at h0 h1 h2 h3 h4
    rcases hk h2 with h | h | h | h
    · exact absurd h h0
    · exact absurd h h1
    · exact absurd h h3
    · exact absurd h h4
end Go.Proofs.YtoaejcppfmjhdaaGreatDoor.ov
