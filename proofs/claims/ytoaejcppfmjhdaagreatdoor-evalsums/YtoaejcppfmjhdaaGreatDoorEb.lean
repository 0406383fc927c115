/- Package eval: its small functions. Conditions: as each theorem says. -/
import Derived.Test.YtoaejcppfmjhdaaGreatDoorHold
import Derived.Test.YtoaejcppfmjhdaaGreatDoorFx
namespace Go.Proofs.YtoaejcppfmjhdaaGreatDoor.ev
open Go.RowKit
/-- A value, as the model has it. -/
abbrev VV (k n : Int) (s : ByteArray) : Value := .agg #[.int .i64 k, .int .i64 n, .string s]
theorem number_any (n : Int) (w : World) : Calls Tryz.prog 44 #[.int .i64 n] w fun e w' => e = .returned (VV 1 n nul) ∧ Below w.heap.size w w' := by
  go_enter Tryz.func44, Tryz.ntmps44
  go_wp2_with fail
  exact bodyPost_ret (v := VV 1 n nul) (by simp [results, Tryz.results44, go_sem]) rfl ⟨rfl, (Below.refl _ _).alloc (Nat.le_refl _) _⟩
theorem text_any (s : ByteArray) (w : World) : Calls Tryz.prog 45 #[.string s] w fun e w' => e = .returned (VV 2 0 s) ∧ Below w.heap.size w w' := by
  go_enter Tryz.func45, Tryz.ntmps45
  go_wp2_with fail
  exact bodyPost_ret (v := VV 2 0 s) (by simp [results, Tryz.results45, go_sem]) rfl ⟨rfl, (Below.refl _ _).alloc (Nat.le_refl _) _⟩
def b2I (b : Bool) : Int := if b = true then 1 else 0
theorem truth_any (b : Bool) (w : World) : Calls Tryz.prog 46 #[.bool b] w fun e w' => e = .returned (VV 3 (b2I b) nul) ∧ Below w.heap.size w w' := by
  cases b with
  | true =>
    go_enter Tryz.func46, Tryz.ntmps46
    go_wp2_with fail
    exact bodyPost_ret (v := VV 3 1 nul) (by simp [results, Tryz.results46, go_sem]) rfl ⟨rfl, (Below.refl _ _).alloc (Nat.le_refl _) _⟩
  | false =>
    go_enter Tryz.func46, Tryz.ntmps46
    go_wp2_with fail
    exact bodyPost_ret (v := VV 3 0 nul) (by simp [results, Tryz.results46, go_sem]) rfl ⟨rfl, (Below.refl _ _).alloc (Nat.le_refl _) _⟩
theorem bad_any (n : Int) (w : World) : Calls Tryz.prog 47 #[.int .i64 n] w fun e w' => e = .returned (VV 4 n nul) ∧ Below w.heap.size w w' := by
  go_enter Tryz.func47, Tryz.ntmps47
  go_wp2_with fail
  exact bodyPost_ret (v := VV 4 n nul) (by simp [results, Tryz.results47, go_sem]) rfl ⟨rfl, (Below.refl _ _).alloc (Nat.le_refl _) _⟩
theorem isBad_any (k n : Int) (s : ByteArray) (w : World) : Calls Tryz.prog 170 #[VV k n s] w fun e w' => e = .returned (.bool (k == 4)) ∧ Below w.heap.size w w' := by
  go_enter Tryz.func170, Tryz.ntmps170
  go_wp2_with fail
  go_ret
  exact ⟨rfl, (Below.refl _ _).alloc (Nat.le_refl _) _⟩
end Go.Proofs.YtoaejcppfmjhdaaGreatDoor.ev
/- Package eval: pieces of a text. Conditions: as each theorem says. -/
namespace Go.Proofs.YtoaejcppfmjhdaaGreatDoor.ev
open Go.RowKit
theorem fin3 {w : World} {b : Nat} {a0 a1 a2 u0 u1 u2 : Value} {t : TypeId} (h : w.heap[b]? = some (.cells #[a0, a1, a2] t (0, 0))) {Q : World → Prop}
    (hq : ∀ w2, w2.heap[b]? = some (.cells #[u0, u1, u2] t (0, 0)) → (∀ B, B ≤ b → Below B w w2) → Q w2) : Q (((w.setCell ⟨b, 0, none⟩ u0).setCell ⟨b, 1, none⟩ u1).setCell ⟨b, 2, none⟩ u2) := by
  have h0 : (w.setCell ⟨b, 0, none⟩ u0).heap[b]? = some (.cells #[u0, a1, a2] t (0, 0)) := by rw [fm.blk_set h]; rfl
  have h1 : ((w.setCell ⟨b, 0, none⟩ u0).setCell ⟨b, 1, none⟩ u1).heap[b]? = some (.cells #[u0, u1, a2] t (0, 0)) := by rw [fm.blk_set h0]; rfl
  have h2 : (((w.setCell ⟨b, 0, none⟩ u0).setCell ⟨b, 1, none⟩ u1).setCell ⟨b, 2, none⟩ u2).heap[b]? = some (.cells #[u0, u1, u2] t (0, 0)) := by rw [fm.blk_set h1]; rfl
  exact hq _ h2 (fun B hB => (((Below.refl _ _).setCell hB _).setCell hB _).setCell hB _)
theorem cells3v {w : World} {b : Nat} {a0 a1 a2 : Value} {t : TypeId} (h : w.heap[b]? = some (.cells #[a0, a1, a2] t (0, 0))) : w.cell? ⟨b, 0, none⟩ = some a0 ∧ w.cell? ⟨b, 1, none⟩ = some a1 ∧ w.cell? ⟨b, 2, none⟩ = some a2 := by simp [World.cell?, h]
/-- So many bytes of a text from a place on. -/
def midT (t : ByteArray) (a b : Int) : ByteArray := (t.extract (min (a - 1) (t.size : Int)).toNat t.size).extract 0 (min b ((t.size - (min (a - 1) (t.size : Int)).toNat : Nat) : Int)).toNat
/-- The last bytes of a text. -/
def rightT (t : ByteArray) (b : Int) : ByteArray := t.extract ((t.size : Int) - min b (t.size : Int)).toNat t.size
set_option maxHeartbeats 800000 in
theorem middle_any (t : ByteArray) (a b : Int) (w : World) (ha : 1 ≤ a) (hb : 0 ≤ b) (ha2 : a ≤ 9223372036854775807) (ht : t.size ≤ 140737488355328) :
    Calls Tryz.prog 186 #[.string t, .int .i64 a, .int .i64 b] w fun e w' => e = .returned (VV 2 0 (midT t a b)) ∧ Below w.heap.size w w' := by
  have HT : Hid (∀ z wx, Calls Tryz.prog 45 #[.string z] wx fun e w' => e = .returned (VV 2 0 z) ∧ Below wx.heap.size wx w') := fun z wx => text_any z wx
  obtain ⟨z, hz⟩ : ∃ z, midT t a b = z := ⟨_, rfl⟩
  rw [hz]
  have HM : Hid ((t.extract (min (a - 1) (t.size : Int)).toNat t.size).extract 0 (min b ((t.size - (min (a - 1) (t.size : Int)).toNat : Nat) : Int)).toNat = z) := hz
  clear hz
  have HQ : Hid (∀ w1, Below (w.alloc (.cells #[.int .i64 0, .int .i64 0, .string nul] 31)).heap.size (w.alloc (.cells #[.int .i64 0, .int .i64 0, .string nul] 31)) w1 → w1.heap[w.heap.size]? = some (.cells #[.int .i64 0, .int .i64 0, .string nul] 31 (0, 0)) ∧ Below w.heap.size w w1) := fun w1 hb =>
    ⟨(hb.block w.heap.size (by simp)).trans (heap_alloc_new w _), bnext ((Below.refl w.heap.size w).alloc (Nat.le_refl _) (.cells #[.int .i64 0, .int .i64 0, .string nul] 31)) hb (by simp)⟩
  go_enter Tryz.func186, Tryz.ntmps186
  go_wp2_with fail
  rw [HM.out]
  refine (HT.out _ _).mono ?_
  rintro e w1 ⟨rfl, hb1⟩
  obtain ⟨hq1, hb2⟩ := HQ.out w1 hb1
  have HB : Hid (Below w.heap.size w w1) := hb2
  have c0 : w1.cell? ⟨w.heap.size, 0, none⟩ = some (.int .i64 0) := by simp [World.cell?, hq1]
  have c1 : w1.cell? ⟨w.heap.size, 1, none⟩ = some (.int .i64 0) := by simp [World.cell?, hq1]
  have c2 : w1.cell? ⟨w.heap.size, 2, none⟩ = some (.string nul) := by simp [World.cell?, hq1]
  have f0 : ∀ o, w1.frozen? ⟨w.heap.size, o, none⟩ = false := fun o => by simp [World.frozen?, hq1]
  clear hb2 hb1 HQ HT HM
  have HQ1 : Hid (w1.heap[w.heap.size]? = some (.cells #[.int .i64 0, .int .i64 0, .string nul] 31 (0, 0))) := hq1
  clear hq1
  go_wp2_with fail
  refine fin3 HQ1.out (Q := bodyPost _ _ _ _ _) ?_
  clear c0 c1 c2 f0
  intro w2 hq2 hk2
  obtain ⟨d0, d1, d2⟩ := cells3v hq2
  exact bodyPost_ret (v := VV 2 0 z) (by simp [results, Tryz.results186, go_sem, d0, d1, d2]) rfl ⟨rfl, HB.out.trans (hk2 _ (Nat.le_refl _))⟩
set_option maxHeartbeats 800000 in
theorem right_any (t : ByteArray) (b : Int) (w : World) (hb : 0 ≤ b) (ht : t.size ≤ 140737488355328) :
    Calls Tryz.prog 188 #[.string t, .int .i64 b] w fun e w' => e = .returned (VV 2 0 (rightT t b)) ∧ Below w.heap.size w w' := by
  have HT : Hid (∀ z wx, Calls Tryz.prog 45 #[.string z] wx fun e w' => e = .returned (VV 2 0 z) ∧ Below wx.heap.size wx w') := fun z wx => text_any z wx
  obtain ⟨z, hz⟩ : ∃ z, rightT t b = z := ⟨_, rfl⟩
  rw [hz]
  have HM : Hid (t.extract ((t.size : Int) - min b (t.size : Int)).toNat t.size = z) := hz
  clear hz
  have HQ : Hid (∀ w1, Below (w.alloc (.cells #[.int .i64 0, .int .i64 0, .string nul] 31)).heap.size (w.alloc (.cells #[.int .i64 0, .int .i64 0, .string nul] 31)) w1 → w1.heap[w.heap.size]? = some (.cells #[.int .i64 0, .int .i64 0, .string nul] 31 (0, 0)) ∧ Below w.heap.size w w1) := fun w1 hb =>
    ⟨(hb.block w.heap.size (by simp)).trans (heap_alloc_new w _), bnext ((Below.refl w.heap.size w).alloc (Nat.le_refl _) (.cells #[.int .i64 0, .int .i64 0, .string nul] 31)) hb (by simp)⟩
  go_enter Tryz.func188, Tryz.ntmps188
  go_wp2_with fail
  rw [HM.out]
  refine (HT.out _ _).mono ?_
  rintro e w1 ⟨rfl, hb1⟩
  obtain ⟨hq1, hb2⟩ := HQ.out w1 hb1
  have HB : Hid (Below w.heap.size w w1) := hb2
  have c0 : w1.cell? ⟨w.heap.size, 0, none⟩ = some (.int .i64 0) := by simp [World.cell?, hq1]
  have c1 : w1.cell? ⟨w.heap.size, 1, none⟩ = some (.int .i64 0) := by simp [World.cell?, hq1]
  have c2 : w1.cell? ⟨w.heap.size, 2, none⟩ = some (.string nul) := by simp [World.cell?, hq1]
  have f0 : ∀ o, w1.frozen? ⟨w.heap.size, o, none⟩ = false := fun o => by simp [World.frozen?, hq1]
  clear hb2 hb1 HQ HT HM
  have HQ1 : Hid (w1.heap[w.heap.size]? = some (.cells #[.int .i64 0, .int .i64 0, .string nul] 31 (0, 0))) := hq1
  clear hq1
  go_wp2_with fail
  refine fin3 HQ1.out (Q := bodyPost _ _ _ _ _) ?_
  clear c0 c1 c2 f0
  intro w2 hq2 hk2
  obtain ⟨d0, d1, d2⟩ := cells3v hq2
  exact bodyPost_ret (v := VV 2 0 z) (by simp [results, Tryz.results188, go_sem, d0, d1, d2]) rfl ⟨rfl, HB.out.trans (hk2 _ (Nat.le_refl _))⟩
end Go.Proofs.YtoaejcppfmjhdaaGreatDoor.ev
