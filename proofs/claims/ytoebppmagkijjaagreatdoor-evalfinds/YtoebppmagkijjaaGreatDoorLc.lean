/- Package eval: which groups do not have a name. Conditions: as each theorem says. -/
import Derived.Test.YtoebppmagkijjaaGreatDoorEf
import Derived.Laws.EntriesVeiled
namespace Go.Proofs.YtoebppmagkijjaaGreatDoor.ev
open Go.RowKit
theorem ofMany_match (w : World) :
    Calls Tryz.prog 113 #[.string ⟨#[77, 65, 84, 67, 72]⟩] w fun e w' => e = .returned noF ∧ Below w.heap.size w w' := by
  go_enter Tryz.func113, Tryz.ntmps113
  go_wp2_with fail
  exact bodyPost_ret (v := noF) (by simp [results, Tryz.results113, go_sem]) rfl ⟨rfl, (Below.refl _ _).alloc (Nat.le_refl _) _⟩
theorem ofMany_lookup (w : World) :
    Calls Tryz.prog 113 #[.string ⟨#[76, 79, 79, 75, 85, 80]⟩] w fun e w' => e = .returned noF ∧ Below w.heap.size w w' := by
  go_enter Tryz.func113, Tryz.ntmps113
  go_wp2_with fail
  exact bodyPost_ret (v := noF) (by simp [results, Tryz.results113, go_sem]) rfl ⟨rfl, (Below.refl _ _).alloc (Nat.le_refl _) _⟩
theorem ofMany_countif (w : World) :
    Calls Tryz.prog 113 #[.string ⟨#[67, 79, 85, 78, 84, 73, 70]⟩] w fun e w' => e = .returned noF ∧ Below w.heap.size w w' := by
  go_enter Tryz.func113, Tryz.ntmps113
  go_wp2_with fail
  exact bodyPost_ret (v := noF) (by simp [results, Tryz.results113, go_sem]) rfl ⟨rfl, (Below.refl _ _).alloc (Nat.le_refl _) _⟩
theorem ofMany_index (w : World) :
    Calls Tryz.prog 113 #[.string ⟨#[73, 78, 68, 69, 88]⟩] w fun e w' => e = .returned noF ∧ Below w.heap.size w w' := by
  go_enter Tryz.func113, Tryz.ntmps113
  go_wp2_with fail
  exact bodyPost_ret (v := noF) (by simp [results, Tryz.results113, go_sem]) rfl ⟨rfl, (Below.refl _ _).alloc (Nat.le_refl _) _⟩
theorem ofChoice_match (w : World) :
    Calls Tryz.prog 114 #[.string ⟨#[77, 65, 84, 67, 72]⟩] w fun e w' => e = .returned noF ∧ Below w.heap.size w w' := by
  go_enter Tryz.func114, Tryz.ntmps114
  go_wp2_with fail
  exact bodyPost_ret (v := noF) (by simp [results, Tryz.results114, go_sem]) rfl ⟨rfl, (Below.refl _ _).alloc (Nat.le_refl _) _⟩
theorem ofChoice_lookup (w : World) :
    Calls Tryz.prog 114 #[.string ⟨#[76, 79, 79, 75, 85, 80]⟩] w fun e w' => e = .returned noF ∧ Below w.heap.size w w' := by
  go_enter Tryz.func114, Tryz.ntmps114
  go_wp2_with fail
  exact bodyPost_ret (v := noF) (by simp [results, Tryz.results114, go_sem]) rfl ⟨rfl, (Below.refl _ _).alloc (Nat.le_refl _) _⟩
theorem ofChoice_countif (w : World) :
    Calls Tryz.prog 114 #[.string ⟨#[67, 79, 85, 78, 84, 73, 70]⟩] w fun e w' => e = .returned noF ∧ Below w.heap.size w w' := by
  go_enter Tryz.func114, Tryz.ntmps114
  go_wp2_with fail
  exact bodyPost_ret (v := noF) (by simp [results, Tryz.results114, go_sem]) rfl ⟨rfl, (Below.refl _ _).alloc (Nat.le_refl _) _⟩
theorem ofChoice_index (w : World) :
    Calls Tryz.prog 114 #[.string ⟨#[73, 78, 68, 69, 88]⟩] w fun e w' => e = .returned noF ∧ Below w.heap.size w w' := by
  go_enter Tryz.func114, Tryz.ntmps114
  go_wp2_with fail
  exact bodyPost_ret (v := noF) (by simp [results, Tryz.results114, go_sem]) rfl ⟨rfl, (Below.refl _ _).alloc (Nat.le_refl _) _⟩
theorem ofNumbers_match (w : World) :
    Calls Tryz.prog 115 #[.string ⟨#[77, 65, 84, 67, 72]⟩] w fun e w' => e = .returned noF ∧ Below w.heap.size w w' := by
  go_enter Tryz.func115, Tryz.ntmps115
  go_wp2_with fail
  exact bodyPost_ret (v := noF) (by simp [results, Tryz.results115, go_sem]) rfl ⟨rfl, (Below.refl _ _).alloc (Nat.le_refl _) _⟩
theorem ofNumbers_lookup (w : World) :
    Calls Tryz.prog 115 #[.string ⟨#[76, 79, 79, 75, 85, 80]⟩] w fun e w' => e = .returned noF ∧ Below w.heap.size w w' := by
  go_enter Tryz.func115, Tryz.ntmps115
  go_wp2_with fail
  exact bodyPost_ret (v := noF) (by simp [results, Tryz.results115, go_sem]) rfl ⟨rfl, (Below.refl _ _).alloc (Nat.le_refl _) _⟩
theorem ofNumbers_countif (w : World) :
    Calls Tryz.prog 115 #[.string ⟨#[67, 79, 85, 78, 84, 73, 70]⟩] w fun e w' => e = .returned noF ∧ Below w.heap.size w w' := by
  go_enter Tryz.func115, Tryz.ntmps115
  go_wp2_with fail
  exact bodyPost_ret (v := noF) (by simp [results, Tryz.results115, go_sem]) rfl ⟨rfl, (Below.refl _ _).alloc (Nat.le_refl _) _⟩
theorem ofNumbers_index (w : World) :
    Calls Tryz.prog 115 #[.string ⟨#[73, 78, 68, 69, 88]⟩] w fun e w' => e = .returned noF ∧ Below w.heap.size w w' := by
  go_enter Tryz.func115, Tryz.ntmps115
  go_wp2_with fail
  exact bodyPost_ret (v := noF) (by simp [results, Tryz.results115, go_sem]) rfl ⟨rfl, (Below.refl _ _).alloc (Nat.le_refl _) _⟩
theorem ofTexts_match (w : World) :
    Calls Tryz.prog 116 #[.string ⟨#[77, 65, 84, 67, 72]⟩] w fun e w' => e = .returned noF ∧ Below w.heap.size w w' := by
  go_enter Tryz.func116, Tryz.ntmps116
  go_wp2_with fail
  exact bodyPost_ret (v := noF) (by simp [results, Tryz.results116, go_sem]) rfl ⟨rfl, (Below.refl _ _).alloc (Nat.le_refl _) _⟩
theorem ofTexts_lookup (w : World) :
    Calls Tryz.prog 116 #[.string ⟨#[76, 79, 79, 75, 85, 80]⟩] w fun e w' => e = .returned noF ∧ Below w.heap.size w w' := by
  go_enter Tryz.func116, Tryz.ntmps116
  go_wp2_with fail
  exact bodyPost_ret (v := noF) (by simp [results, Tryz.results116, go_sem]) rfl ⟨rfl, (Below.refl _ _).alloc (Nat.le_refl _) _⟩
theorem ofTexts_countif (w : World) :
    Calls Tryz.prog 116 #[.string ⟨#[67, 79, 85, 78, 84, 73, 70]⟩] w fun e w' => e = .returned noF ∧ Below w.heap.size w w' := by
  go_enter Tryz.func116, Tryz.ntmps116
  go_wp2_with fail
  exact bodyPost_ret (v := noF) (by simp [results, Tryz.results116, go_sem]) rfl ⟨rfl, (Below.refl _ _).alloc (Nat.le_refl _) _⟩
theorem ofTexts_index (w : World) :
    Calls Tryz.prog 116 #[.string ⟨#[73, 78, 68, 69, 88]⟩] w fun e w' => e = .returned noF ∧ Below w.heap.size w w' := by
  go_enter Tryz.func116, Tryz.ntmps116
  go_wp2_with fail
  exact bodyPost_ret (v := noF) (by simp [results, Tryz.results116, go_sem]) rfl ⟨rfl, (Below.refl _ _).alloc (Nat.le_refl _) _⟩
theorem ofMany_none (w : World) :
    Calls Tryz.prog 113 #[.string ⟨#[78, 79, 78, 69]⟩] w fun e w' => e = .returned noF ∧ Below w.heap.size w w' := by
  go_enter Tryz.func113, Tryz.ntmps113
  go_wp2_with fail
  exact bodyPost_ret (v := noF) (by simp [results, Tryz.results113, go_sem]) rfl ⟨rfl, (Below.refl _ _).alloc (Nat.le_refl _) _⟩
end Go.Proofs.YtoebppmagkijjaaGreatDoor.ev
/- Package eval: the group of the functions that look into boxes. Conditions: as each theorem says. -/
namespace Go.Proofs.YtoebppmagkijjaaGreatDoor.ev
open Go.RowKit
set_option maxHeartbeats 800000 in
theorem ofBoxes_index (w : World) :
    Calls Tryz.prog 117 #[.string ⟨#[73, 78, 68, 69, 88]⟩] w fun e w' => ∃ p q, e = .returned (fnV 3 p q) ∧ Taking w' ⟨#[98, 110, 110]⟩ 203 p q ∧ Below w.heap.size w w' := by
  have HT : Hid (∀ l wx, Calls Tryz.prog 174 #[.string l, .func (.func 203) #[] #[]] wx fun e w' => e = .returned (fnV l.size wx.heap.size (wx.heap.size + 1)) ∧ Taking w' l 203 wx.heap.size (wx.heap.size + 1) ∧ Below wx.heap.size wx w') := fun l wx => taking_any l 203 wx
  have HQ : Hid (∀ w1, Below (w.alloc (.cells #[.int .i64 0, .int .i64 0, .nilFunc] 120)).heap.size (w.alloc (.cells #[.int .i64 0, .int .i64 0, .nilFunc] 120)) w1 → w1.heap[w.heap.size]? = some (.cells #[.int .i64 0, .int .i64 0, .nilFunc] 120 (0, 0)) ∧ Below w.heap.size w w1) := fun w1 hb =>
    ⟨(hb.block w.heap.size (by simp)).trans (heap_alloc_new w _), bnext ((Below.refl w.heap.size w).alloc (Nat.le_refl _) (.cells #[.int .i64 0, .int .i64 0, .nilFunc] 120)) hb (by simp)⟩
  go_enter Tryz.func117, Tryz.ntmps117
  go_wp2_with fail
  refine (HT.out _ _).mono ?_
  rintro e w1 ⟨rfl, ht, hb1⟩
  have HY : Hid (∃ p q, (w.alloc (.cells #[.int .i64 0, .int .i64 0, .nilFunc] 120)).heap.size = p ∧ p + 1 = q) := ⟨_, _, rfl, rfl⟩
  obtain ⟨p, q, hp, hq⟩ := HY.out
  clear HY
  obtain ⟨hq1, hb2⟩ := HQ.out w1 hb1
  rw [hp, hq] at ht
  rw [hp, hq]
  have hpw : w.heap.size < p := by rw [← hp]; simp
  have hqw : w.heap.size < q := by omega
  have HTk : Hid (Taking w1 ⟨#[98, 110, 110]⟩ 203 p q) := ht
  have HB : Hid (Below w.heap.size w w1) := hb2
  have c0 : w1.cell? ⟨w.heap.size, 0, none⟩ = some (.int .i64 0) := by simp [World.cell?, hq1]
  have c1 : w1.cell? ⟨w.heap.size, 1, none⟩ = some (.int .i64 0) := by simp [World.cell?, hq1]
  have c2 : w1.cell? ⟨w.heap.size, 2, none⟩ = some .nilFunc := by simp [World.cell?, hq1]
  have f0 : ∀ o, w1.frozen? ⟨w.heap.size, o, none⟩ = false := fun o => by simp [World.frozen?, hq1]
  clear hb2 hb1 HQ HT ht hp hq
  have HQ1 : Hid (w1.heap[w.heap.size]? = some (.cells #[.int .i64 0, .int .i64 0, .nilFunc] 120 (0, 0))) := hq1
  clear hq1
  go_wp2_with fail
  refine fin3e HQ1.out (Q := bodyPost _ _ _ _ _) ?_
  clear c0 c1 c2 f0
  intro w2 hq2 hk2 he2
  obtain ⟨d0, d1, d2⟩ := cells3v hq2
  exact bodyPost_ret (v := fnV 3 p q) (by simp [results, Tryz.results117, go_sem, d0, d1, d2]) rfl ⟨p, q, rfl, HTk.out.keep he2 (Nat.ne_of_gt hpw) (Nat.ne_of_gt hqw), HB.out.trans (hk2 _ (Nat.le_refl _))⟩
set_option maxHeartbeats 800000 in
theorem ofBoxes_match (w : World) :
    Calls Tryz.prog 117 #[.string ⟨#[77, 65, 84, 67, 72]⟩] w fun e w' => ∃ p q, e = .returned (fnV 2 p q) ∧ Taking w' ⟨#[118, 98]⟩ 205 p q ∧ Below w.heap.size w w' := by
  have HT : Hid (∀ l wx, Calls Tryz.prog 174 #[.string l, .func (.func 205) #[] #[]] wx fun e w' => e = .returned (fnV l.size wx.heap.size (wx.heap.size + 1)) ∧ Taking w' l 205 wx.heap.size (wx.heap.size + 1) ∧ Below wx.heap.size wx w') := fun l wx => taking_any l 205 wx
  have HQ : Hid (∀ w1, Below (w.alloc (.cells #[.int .i64 0, .int .i64 0, .nilFunc] 120)).heap.size (w.alloc (.cells #[.int .i64 0, .int .i64 0, .nilFunc] 120)) w1 → w1.heap[w.heap.size]? = some (.cells #[.int .i64 0, .int .i64 0, .nilFunc] 120 (0, 0)) ∧ Below w.heap.size w w1) := fun w1 hb =>
    ⟨(hb.block w.heap.size (by simp)).trans (heap_alloc_new w _), bnext ((Below.refl w.heap.size w).alloc (Nat.le_refl _) (.cells #[.int .i64 0, .int .i64 0, .nilFunc] 120)) hb (by simp)⟩
  go_enter Tryz.func117, Tryz.ntmps117
  go_wp2_with fail
  refine (HT.out _ _).mono ?_
  rintro e w1 ⟨rfl, ht, hb1⟩
  have HY : Hid (∃ p q, (w.alloc (.cells #[.int .i64 0, .int .i64 0, .nilFunc] 120)).heap.size = p ∧ p + 1 = q) := ⟨_, _, rfl, rfl⟩
  obtain ⟨p, q, hp, hq⟩ := HY.out
  clear HY
  obtain ⟨hq1, hb2⟩ := HQ.out w1 hb1
  rw [hp, hq] at ht
  rw [hp, hq]
  have hpw : w.heap.size < p := by rw [← hp]; simp
  have hqw : w.heap.size < q := by omega
  have HTk : Hid (Taking w1 ⟨#[118, 98]⟩ 205 p q) := ht
  have HB : Hid (Below w.heap.size w w1) := hb2
  have c0 : w1.cell? ⟨w.heap.size, 0, none⟩ = some (.int .i64 0) := by simp [World.cell?, hq1]
  have c1 : w1.cell? ⟨w.heap.size, 1, none⟩ = some (.int .i64 0) := by simp [World.cell?, hq1]
  have c2 : w1.cell? ⟨w.heap.size, 2, none⟩ = some .nilFunc := by simp [World.cell?, hq1]
  have f0 : ∀ o, w1.frozen? ⟨w.heap.size, o, none⟩ = false := fun o => by simp [World.frozen?, hq1]
  clear hb2 hb1 HQ HT ht hp hq
  have HQ1 : Hid (w1.heap[w.heap.size]? = some (.cells #[.int .i64 0, .int .i64 0, .nilFunc] 120 (0, 0))) := hq1
  clear hq1
  go_wp2_with fail
  refine fin3e HQ1.out (Q := bodyPost _ _ _ _ _) ?_
  clear c0 c1 c2 f0
  intro w2 hq2 hk2 he2
  obtain ⟨d0, d1, d2⟩ := cells3v hq2
  exact bodyPost_ret (v := fnV 2 p q) (by simp [results, Tryz.results117, go_sem, d0, d1, d2]) rfl ⟨p, q, rfl, HTk.out.keep he2 (Nat.ne_of_gt hpw) (Nat.ne_of_gt hqw), HB.out.trans (hk2 _ (Nat.le_refl _))⟩
set_option maxHeartbeats 800000 in
theorem ofBoxes_lookup (w : World) :
    Calls Tryz.prog 117 #[.string ⟨#[76, 79, 79, 75, 85, 80]⟩] w fun e w' => ∃ p q, e = .returned (fnV 3 p q) ∧ Taking w' ⟨#[118, 98, 110]⟩ 207 p q ∧ Below w.heap.size w w' := by
  have HT : Hid (∀ l wx, Calls Tryz.prog 174 #[.string l, .func (.func 207) #[] #[]] wx fun e w' => e = .returned (fnV l.size wx.heap.size (wx.heap.size + 1)) ∧ Taking w' l 207 wx.heap.size (wx.heap.size + 1) ∧ Below wx.heap.size wx w') := fun l wx => taking_any l 207 wx
  have HQ : Hid (∀ w1, Below (w.alloc (.cells #[.int .i64 0, .int .i64 0, .nilFunc] 120)).heap.size (w.alloc (.cells #[.int .i64 0, .int .i64 0, .nilFunc] 120)) w1 → w1.heap[w.heap.size]? = some (.cells #[.int .i64 0, .int .i64 0, .nilFunc] 120 (0, 0)) ∧ Below w.heap.size w w1) := fun w1 hb =>
    ⟨(hb.block w.heap.size (by simp)).trans (heap_alloc_new w _), bnext ((Below.refl w.heap.size w).alloc (Nat.le_refl _) (.cells #[.int .i64 0, .int .i64 0, .nilFunc] 120)) hb (by simp)⟩
  go_enter Tryz.func117, Tryz.ntmps117
  go_wp2_with fail
  refine (HT.out _ _).mono ?_
  rintro e w1 ⟨rfl, ht, hb1⟩
  have HY : Hid (∃ p q, (w.alloc (.cells #[.int .i64 0, .int .i64 0, .nilFunc] 120)).heap.size = p ∧ p + 1 = q) := ⟨_, _, rfl, rfl⟩
  obtain ⟨p, q, hp, hq⟩ := HY.out
  clear HY
  obtain ⟨hq1, hb2⟩ := HQ.out w1 hb1
  rw [hp, hq] at ht
  rw [hp, hq]
  have hpw : w.heap.size < p := by rw [← hp]; simp
  have hqw : w.heap.size < q := by omega
  have HTk : Hid (Taking w1 ⟨#[118, 98, 110]⟩ 207 p q) := ht
  have HB : Hid (Below w.heap.size w w1) := hb2
  have c0 : w1.cell? ⟨w.heap.size, 0, none⟩ = some (.int .i64 0) := by simp [World.cell?, hq1]
  have c1 : w1.cell? ⟨w.heap.size, 1, none⟩ = some (.int .i64 0) := by simp [World.cell?, hq1]
  have c2 : w1.cell? ⟨w.heap.size, 2, none⟩ = some .nilFunc := by simp [World.cell?, hq1]
  have f0 : ∀ o, w1.frozen? ⟨w.heap.size, o, none⟩ = false := fun o => by simp [World.frozen?, hq1]
  clear hb2 hb1 HQ HT ht hp hq
  have HQ1 : Hid (w1.heap[w.heap.size]? = some (.cells #[.int .i64 0, .int .i64 0, .nilFunc] 120 (0, 0))) := hq1
  clear hq1
  go_wp2_with fail
  refine fin3e HQ1.out (Q := bodyPost _ _ _ _ _) ?_
  clear c0 c1 c2 f0
  intro w2 hq2 hk2 he2
  obtain ⟨d0, d1, d2⟩ := cells3v hq2
  exact bodyPost_ret (v := fnV 3 p q) (by simp [results, Tryz.results117, go_sem, d0, d1, d2]) rfl ⟨p, q, rfl, HTk.out.keep he2 (Nat.ne_of_gt hpw) (Nat.ne_of_gt hqw), HB.out.trans (hk2 _ (Nat.le_refl _))⟩
set_option maxHeartbeats 800000 in
theorem ofBoxes_countif (w : World) :
    Calls Tryz.prog 117 #[.string ⟨#[67, 79, 85, 78, 84, 73, 70]⟩] w fun e w' => ∃ p q, e = .returned (fnV 2 p q) ∧ Taking w' ⟨#[98, 118]⟩ 209 p q ∧ Below w.heap.size w w' := by
  have HT : Hid (∀ l wx, Calls Tryz.prog 174 #[.string l, .func (.func 209) #[] #[]] wx fun e w' => e = .returned (fnV l.size wx.heap.size (wx.heap.size + 1)) ∧ Taking w' l 209 wx.heap.size (wx.heap.size + 1) ∧ Below wx.heap.size wx w') := fun l wx => taking_any l 209 wx
  have HQ : Hid (∀ w1, Below (w.alloc (.cells #[.int .i64 0, .int .i64 0, .nilFunc] 120)).heap.size (w.alloc (.cells #[.int .i64 0, .int .i64 0, .nilFunc] 120)) w1 → w1.heap[w.heap.size]? = some (.cells #[.int .i64 0, .int .i64 0, .nilFunc] 120 (0, 0)) ∧ Below w.heap.size w w1) := fun w1 hb =>
    ⟨(hb.block w.heap.size (by simp)).trans (heap_alloc_new w _), bnext ((Below.refl w.heap.size w).alloc (Nat.le_refl _) (.cells #[.int .i64 0, .int .i64 0, .nilFunc] 120)) hb (by simp)⟩
  go_enter Tryz.func117, Tryz.ntmps117
  go_wp2_with fail
  refine (HT.out _ _).mono ?_
  rintro e w1 ⟨rfl, ht, hb1⟩
  have HY : Hid (∃ p q, (w.alloc (.cells #[.int .i64 0, .int .i64 0, .nilFunc] 120)).heap.size = p ∧ p + 1 = q) := ⟨_, _, rfl, rfl⟩
  obtain ⟨p, q, hp, hq⟩ := HY.out
  clear HY
  obtain ⟨hq1, hb2⟩ := HQ.out w1 hb1
  rw [hp, hq] at ht
  rw [hp, hq]
  have hpw : w.heap.size < p := by rw [← hp]; simp
  have hqw : w.heap.size < q := by omega
  have HTk : Hid (Taking w1 ⟨#[98, 118]⟩ 209 p q) := ht
  have HB : Hid (Below w.heap.size w w1) := hb2
  have c0 : w1.cell? ⟨w.heap.size, 0, none⟩ = some (.int .i64 0) := by simp [World.cell?, hq1]
  have c1 : w1.cell? ⟨w.heap.size, 1, none⟩ = some (.int .i64 0) := by simp [World.cell?, hq1]
  have c2 : w1.cell? ⟨w.heap.size, 2, none⟩ = some .nilFunc := by simp [World.cell?, hq1]
  have f0 : ∀ o, w1.frozen? ⟨w.heap.size, o, none⟩ = false := fun o => by simp [World.frozen?, hq1]
  clear hb2 hb1 HQ HT ht hp hq
  have HQ1 : Hid (w1.heap[w.heap.size]? = some (.cells #[.int .i64 0, .int .i64 0, .nilFunc] 120 (0, 0))) := hq1
  clear hq1
  go_wp2_with fail
  refine fin3e HQ1.out (Q := bodyPost _ _ _ _ _) ?_
  clear c0 c1 c2 f0
  intro w2 hq2 hk2 he2
  obtain ⟨d0, d1, d2⟩ := cells3v hq2
  exact bodyPost_ret (v := fnV 2 p q) (by simp [results, Tryz.results117, go_sem, d0, d1, d2]) rfl ⟨p, q, rfl, HTk.out.keep he2 (Nat.ne_of_gt hpw) (Nat.ne_of_gt hqw), HB.out.trans (hk2 _ (Nat.le_refl _))⟩
end Go.Proofs.YtoebppmagkijjaaGreatDoor.ev
/- Package eval: a function that looks into boxes, by its name. Conditions: as each theorem says. -/
namespace Go.Proofs.YtoebppmagkijjaaGreatDoor.ev
open Go.RowKit
theorem ix4 (W : World) : (Instr.index 150 (.agg #[.func (.func 113) #[] #[], .func (.func 114) #[] #[], .func (.func 115) #[] #[], .func (.func 116) #[] #[], .func (.func 117) #[] #[]]) (.int .i64 4)).run Tryz.prog W = .ok (.func (.func 117) #[] #[]) W := by simp [Instr.index, go_sem]
set_option maxRecDepth 8000 in
theorem functionOf_index (w : World) :
    Calls Tryz.prog 83 #[.string ⟨#[73, 78, 68, 69, 88]⟩] w fun e w' => ∃ p q, e = .returned (fnV 3 p q) ∧ Taking w' ⟨#[98, 110, 110]⟩ 203 p q ∧ Below w.heap.size w w' := by
  have H1 : Hid (∀ wx, Calls Tryz.prog 113 #[.string ⟨#[73, 78, 68, 69, 88]⟩] wx fun e w' => e = .returned noF ∧ Below wx.heap.size wx w') := ofMany_index
  have H2 : Hid (∀ wx, Calls Tryz.prog 114 #[.string ⟨#[73, 78, 68, 69, 88]⟩] wx fun e w' => e = .returned noF ∧ Below wx.heap.size wx w') := ofChoice_index
  have H3 : Hid (∀ wx, Calls Tryz.prog 115 #[.string ⟨#[73, 78, 68, 69, 88]⟩] wx fun e w' => e = .returned noF ∧ Below wx.heap.size wx w') := ofNumbers_index
  have H4 : Hid (∀ wx, Calls Tryz.prog 116 #[.string ⟨#[73, 78, 68, 69, 88]⟩] wx fun e w' => e = .returned noF ∧ Below wx.heap.size wx w') := ofTexts_index
  have H5 : Hid (∀ wx, Calls Tryz.prog 117 #[.string ⟨#[73, 78, 68, 69, 88]⟩] wx fun e w' => ∃ p q, e = .returned (fnV 3 p q) ∧ Taking w' ⟨#[98, 110, 110]⟩ 203 p q ∧ Below wx.heap.size wx w') := ofBoxes_index
  go_enter Tryz.func83, Tryz.ntmps83
  go_wp2_with fail
  refine wp_loop_rounds 5 ?_
  obtain ⟨w0, hW⟩ : ∃ W, W = (w.alloc (.cells #[.int .i64 0, .int .i64 0, .nilFunc] 120)).alloc (.cells #[.func (.func 113) #[] #[], .func (.func 114) #[] #[], .func (.func 115) #[] #[], .func (.func 116) #[] #[], .func (.func 117) #[] #[]] 150) := ⟨_, rfl⟩
  rw [← hW]
  have HW : Hid (w0 = (w.alloc (.cells #[.int .i64 0, .int .i64 0, .nilFunc] 120)).alloc (.cells #[.func (.func 113) #[] #[], .func (.func 114) #[] #[], .func (.func 115) #[] #[], .func (.func 116) #[] #[], .func (.func 117) #[] #[]] 150)) := hW
  clear hW
  have B0 : Hid (Below w0.heap.size w0 w0) := Below.refl _ _
  refine rounds_step ?_
  intro K0 HK0
  have i0 := ix0 w0
  go_wp2_with fail
  refine (H1.out _).mono ?_
  rintro e v0 ⟨rfl, b0⟩
  clear i0
  have n0 := ne_nil (v0.alloc (.cells #[.int .i64 0, .int .i64 0, .nilFunc] 120))
  have B1 : Hid (Below w0.heap.size w0 (v0.alloc (.cells #[.int .i64 0, .int .i64 0, .nilFunc] 120))) := bstep B0.out b0 B0.out.size
  clear b0
  go_wp2_with fail
  refine HK0.out _ _ ?_
  clear HK0 K0 n0 B0
  obtain ⟨w1, h1⟩ : ∃ W, W = v0.alloc (.cells #[.int .i64 0, .int .i64 0, .nilFunc] 120) := ⟨_, rfl⟩
  rw [← h1] at B1 ⊢
  clear h1
  refine rounds_step ?_
  intro K1 HK1
  have i1 := ix1 w1
  go_wp2_with fail
  refine (H2.out _).mono ?_
  rintro e v1 ⟨rfl, b1⟩
  clear i1
  have n1 := ne_nil (v1.alloc (.cells #[.int .i64 0, .int .i64 0, .nilFunc] 120))
  have B2 : Hid (Below w0.heap.size w0 (v1.alloc (.cells #[.int .i64 0, .int .i64 0, .nilFunc] 120))) := bstep B1.out b1 B1.out.size
  clear b1
  go_wp2_with fail
  refine HK1.out _ _ ?_
  clear HK1 K1 n1 B1
  obtain ⟨w2, h2⟩ : ∃ W, W = v1.alloc (.cells #[.int .i64 0, .int .i64 0, .nilFunc] 120) := ⟨_, rfl⟩
  rw [← h2] at B2 ⊢
  clear h2
  refine rounds_step ?_
  intro K2 HK2
  have i2 := ix2 w2
  go_wp2_with fail
  refine (H3.out _).mono ?_
  rintro e v2 ⟨rfl, b2⟩
  clear i2
  have n2 := ne_nil (v2.alloc (.cells #[.int .i64 0, .int .i64 0, .nilFunc] 120))
  have B3 : Hid (Below w0.heap.size w0 (v2.alloc (.cells #[.int .i64 0, .int .i64 0, .nilFunc] 120))) := bstep B2.out b2 B2.out.size
  clear b2
  go_wp2_with fail
  refine HK2.out _ _ ?_
  clear HK2 K2 n2 B2
  obtain ⟨w3, h3⟩ : ∃ W, W = v2.alloc (.cells #[.int .i64 0, .int .i64 0, .nilFunc] 120) := ⟨_, rfl⟩
  rw [← h3] at B3 ⊢
  clear h3
  refine rounds_step ?_
  intro K3 HK3
  have i3 := ix3 w3
  go_wp2_with fail
  refine (H4.out _).mono ?_
  rintro e v3 ⟨rfl, b3⟩
  clear i3
  have n3 := ne_nil (v3.alloc (.cells #[.int .i64 0, .int .i64 0, .nilFunc] 120))
  have B4 : Hid (Below w0.heap.size w0 (v3.alloc (.cells #[.int .i64 0, .int .i64 0, .nilFunc] 120))) := bstep B3.out b3 B3.out.size
  clear b3
  go_wp2_with fail
  refine HK3.out _ _ ?_
  clear HK3 K3 n3 B3
  obtain ⟨w4, h4⟩ : ∃ W, W = v3.alloc (.cells #[.int .i64 0, .int .i64 0, .nilFunc] 120) := ⟨_, rfl⟩
  rw [← h4] at B4 ⊢
  clear h4
  refine rounds_step ?_
  intro K HK
  have i4 := ix4 w4
  go_wp2_with fail
  refine (H5.out _).mono ?_
  rintro e y3 ⟨p, q, rfl, ht, b4⟩
  clear i4 HK
  have C4 : Below w0.heap.size w0 y3 := bnext B4.out b4 B4.out.size
  have hq1 : y3.heap[w.heap.size]? = some (.cells #[.int .i64 0, .int .i64 0, .nilFunc] 120 (0, 0)) := by
    rw [C4.block _ (by rw [HW.out]; simp; omega), HW.out]
    exact (((Below.refl (w.heap.size + 1) _).alloc (by simp) _).block w.heap.size (by omega)).trans (heap_alloc_new w _)
  have B5 : Hid (Below w.heap.size w y3) := bnext (show Below w.heap.size w w0 by rw [HW.out]; exact ((Below.refl _ _).alloc (Nat.le_refl _) _).alloc (by simp) _) C4 (by rw [HW.out]; simp; omega)
  have hlt : w.heap.size < y3.heap.size := fm.lt_blk hq1
  have HTk : Hid (Taking y3 ⟨#[98, 110, 110]⟩ 203 p q) := ht
  clear C4 b4 B4 HW ht
  obtain ⟨y4, h4⟩ : ∃ W, W = y3.alloc (.cells #[.int .i64 3, .int .i64 3, .func (.func 245) #[] #[.pointer (some ⟨p, 0, none⟩), .pointer (some ⟨q, 0, none⟩)]] 120) := ⟨_, rfl⟩
  have n3 := ne_fn p q y4
  rw [h4] at n3
  have hq4 : y4.heap[w.heap.size]? = some (.cells #[.int .i64 0, .int .i64 0, .nilFunc] 120 (0, 0)) := by
    rw [h4]; exact (((Below.refl y3.heap.size y3).alloc (Nat.le_refl _) _).block _ hlt).trans hq1
  have HQ1 : Hid (y4.heap[w.heap.size]? = some (.cells #[.int .i64 0, .int .i64 0, .nilFunc] 120 (0, 0))) := hq4
  have B6 : Hid (Below w.heap.size w y4) := by rw [h4]; exact B5.out.alloc (Nat.le_of_lt hlt) _
  have HT4 : Hid (Taking y4 ⟨#[98, 110, 110]⟩ 203 p q) := by rw [h4]; exact HTk.out.below ((Below.refl _ _).alloc (Nat.le_refl _) _)
  have c0 : y4.cell? ⟨w.heap.size, 0, none⟩ = some (.int .i64 0) := by simp [World.cell?, hq4]
  have c1 : y4.cell? ⟨w.heap.size, 1, none⟩ = some (.int .i64 0) := by simp [World.cell?, hq4]
  have c2 : y4.cell? ⟨w.heap.size, 2, none⟩ = some .nilFunc := by simp [World.cell?, hq4]
  have f0 : ∀ o, y4.frozen? ⟨w.heap.size, o, none⟩ = false := fun o => by simp [World.frozen?, hq4]
  have H44 : Hid (y3.alloc (.cells #[.int .i64 3, .int .i64 3, .func (.func 245) #[] #[.pointer (some ⟨p, 0, none⟩), .pointer (some ⟨q, 0, none⟩)]] 120) = y4) := h4.symm
  rw [h4] at c0 c1 c2 f0
  have NP : p ≠ w.heap.size := fun h => by have := HTk.out.letters; rw [h, hq1] at this; simp at this
  have NQ : q ≠ w.heap.size := fun h => by have := HTk.out.work; rw [h, hq1] at this; simp at this
  clear hq4 hq1 hlt h4
  go_wp2_with fail
  rw [H44.out] at *
  refine fin3e HQ1.out (Q := bodyPost _ _ _ _ _) ?_
  clear c0 c1 c2 f0
  intro w2 hq2 hk2 he2
  obtain ⟨d0, d1, d2⟩ := cells3v hq2
  exact bodyPost_ret (v := fnV 3 p q) (by simp [results, Tryz.results83, go_sem, d0, d1, d2]) rfl ⟨p, q, rfl, HT4.out.keep he2 NP NQ, B6.out.trans (hk2 _ (Nat.le_refl _))⟩
set_option maxRecDepth 8000 in
theorem functionOf_match (w : World) :
    Calls Tryz.prog 83 #[.string ⟨#[77, 65, 84, 67, 72]⟩] w fun e w' => ∃ p q, e = .returned (fnV 2 p q) ∧ Taking w' ⟨#[118, 98]⟩ 205 p q ∧ Below w.heap.size w w' := by
  have H1 : Hid (∀ wx, Calls Tryz.prog 113 #[.string ⟨#[77, 65, 84, 67, 72]⟩] wx fun e w' => e = .returned noF ∧ Below wx.heap.size wx w') := ofMany_match
  have H2 : Hid (∀ wx, Calls Tryz.prog 114 #[.string ⟨#[77, 65, 84, 67, 72]⟩] wx fun e w' => e = .returned noF ∧ Below wx.heap.size wx w') := ofChoice_match
  have H3 : Hid (∀ wx, Calls Tryz.prog 115 #[.string ⟨#[77, 65, 84, 67, 72]⟩] wx fun e w' => e = .returned noF ∧ Below wx.heap.size wx w') := ofNumbers_match
  have H4 : Hid (∀ wx, Calls Tryz.prog 116 #[.string ⟨#[77, 65, 84, 67, 72]⟩] wx fun e w' => e = .returned noF ∧ Below wx.heap.size wx w') := ofTexts_match
  have H5 : Hid (∀ wx, Calls Tryz.prog 117 #[.string ⟨#[77, 65, 84, 67, 72]⟩] wx fun e w' => ∃ p q, e = .returned (fnV 2 p q) ∧ Taking w' ⟨#[118, 98]⟩ 205 p q ∧ Below wx.heap.size wx w') := ofBoxes_match
  go_enter Tryz.func83, Tryz.ntmps83
  go_wp2_with fail
  refine wp_loop_rounds 5 ?_
  obtain ⟨w0, hW⟩ : ∃ W, W = (w.alloc (.cells #[.int .i64 0, .int .i64 0, .nilFunc] 120)).alloc (.cells #[.func (.func 113) #[] #[], .func (.func 114) #[] #[], .func (.func 115) #[] #[], .func (.func 116) #[] #[], .func (.func 117) #[] #[]] 150) := ⟨_, rfl⟩
  rw [← hW]
  have HW : Hid (w0 = (w.alloc (.cells #[.int .i64 0, .int .i64 0, .nilFunc] 120)).alloc (.cells #[.func (.func 113) #[] #[], .func (.func 114) #[] #[], .func (.func 115) #[] #[], .func (.func 116) #[] #[], .func (.func 117) #[] #[]] 150)) := hW
  clear hW
  have B0 : Hid (Below w0.heap.size w0 w0) := Below.refl _ _
  refine rounds_step ?_
  intro K0 HK0
  have i0 := ix0 w0
  go_wp2_with fail
  refine (H1.out _).mono ?_
  rintro e v0 ⟨rfl, b0⟩
  clear i0
  have n0 := ne_nil (v0.alloc (.cells #[.int .i64 0, .int .i64 0, .nilFunc] 120))
  have B1 : Hid (Below w0.heap.size w0 (v0.alloc (.cells #[.int .i64 0, .int .i64 0, .nilFunc] 120))) := bstep B0.out b0 B0.out.size
  clear b0
  go_wp2_with fail
  refine HK0.out _ _ ?_
  clear HK0 K0 n0 B0
  obtain ⟨w1, h1⟩ : ∃ W, W = v0.alloc (.cells #[.int .i64 0, .int .i64 0, .nilFunc] 120) := ⟨_, rfl⟩
  rw [← h1] at B1 ⊢
  clear h1
  refine rounds_step ?_
  intro K1 HK1
  have i1 := ix1 w1
  go_wp2_with fail
  refine (H2.out _).mono ?_
  rintro e v1 ⟨rfl, b1⟩
  clear i1
  have n1 := ne_nil (v1.alloc (.cells #[.int .i64 0, .int .i64 0, .nilFunc] 120))
  have B2 : Hid (Below w0.heap.size w0 (v1.alloc (.cells #[.int .i64 0, .int .i64 0, .nilFunc] 120))) := bstep B1.out b1 B1.out.size
  clear b1
  go_wp2_with fail
  refine HK1.out _ _ ?_
  clear HK1 K1 n1 B1
  obtain ⟨w2, h2⟩ : ∃ W, W = v1.alloc (.cells #[.int .i64 0, .int .i64 0, .nilFunc] 120) := ⟨_, rfl⟩
  rw [← h2] at B2 ⊢
  clear h2
  refine rounds_step ?_
  intro K2 HK2
  have i2 := ix2 w2
  go_wp2_with fail
  refine (H3.out _).mono ?_
  rintro e v2 ⟨rfl, b2⟩
  clear i2
  have n2 := ne_nil (v2.alloc (.cells #[.int .i64 0, .int .i64 0, .nilFunc] 120))
  have B3 : Hid (Below w0.heap.size w0 (v2.alloc (.cells #[.int .i64 0, .int .i64 0, .nilFunc] 120))) := bstep B2.out b2 B2.out.size
  clear b2
  go_wp2_with fail
  refine HK2.out _ _ ?_
  clear HK2 K2 n2 B2
  obtain ⟨w3, h3⟩ : ∃ W, W = v2.alloc (.cells #[.int .i64 0, .int .i64 0, .nilFunc] 120) := ⟨_, rfl⟩
  rw [← h3] at B3 ⊢
  clear h3
  refine rounds_step ?_
  intro K3 HK3
  have i3 := ix3 w3
  go_wp2_with fail
  refine (H4.out _).mono ?_
  rintro e v3 ⟨rfl, b3⟩
  clear i3
  have n3 := ne_nil (v3.alloc (.cells #[.int .i64 0, .int .i64 0, .nilFunc] 120))
  have B4 : Hid (Below w0.heap.size w0 (v3.alloc (.cells #[.int .i64 0, .int .i64 0, .nilFunc] 120))) := bstep B3.out b3 B3.out.size
  clear b3
  go_wp2_with fail
  refine HK3.out _ _ ?_
  clear HK3 K3 n3 B3
  obtain ⟨w4, h4⟩ : ∃ W, W = v3.alloc (.cells #[.int .i64 0, .int .i64 0, .nilFunc] 120) := ⟨_, rfl⟩
  rw [← h4] at B4 ⊢
  clear h4
  refine rounds_step ?_
  intro K HK
  have i4 := ix4 w4
  go_wp2_with fail
  refine (H5.out _).mono ?_
  rintro e y3 ⟨p, q, rfl, ht, b4⟩
  clear i4 HK
  have C4 : Below w0.heap.size w0 y3 := bnext B4.out b4 B4.out.size
  have hq1 : y3.heap[w.heap.size]? = some (.cells #[.int .i64 0, .int .i64 0, .nilFunc] 120 (0, 0)) := by
    rw [C4.block _ (by rw [HW.out]; simp; omega), HW.out]
    exact (((Below.refl (w.heap.size + 1) _).alloc (by simp) _).block w.heap.size (by omega)).trans (heap_alloc_new w _)
  have B5 : Hid (Below w.heap.size w y3) := bnext (show Below w.heap.size w w0 by rw [HW.out]; exact ((Below.refl _ _).alloc (Nat.le_refl _) _).alloc (by simp) _) C4 (by rw [HW.out]; simp; omega)
  have hlt : w.heap.size < y3.heap.size := fm.lt_blk hq1
  have HTk : Hid (Taking y3 ⟨#[118, 98]⟩ 205 p q) := ht
  clear C4 b4 B4 HW ht
  obtain ⟨y4, h4⟩ : ∃ W, W = y3.alloc (.cells #[.int .i64 2, .int .i64 2, .func (.func 245) #[] #[.pointer (some ⟨p, 0, none⟩), .pointer (some ⟨q, 0, none⟩)]] 120) := ⟨_, rfl⟩
  have n3 := ne_fn p q y4
  rw [h4] at n3
  have hq4 : y4.heap[w.heap.size]? = some (.cells #[.int .i64 0, .int .i64 0, .nilFunc] 120 (0, 0)) := by
    rw [h4]; exact (((Below.refl y3.heap.size y3).alloc (Nat.le_refl _) _).block _ hlt).trans hq1
  have HQ1 : Hid (y4.heap[w.heap.size]? = some (.cells #[.int .i64 0, .int .i64 0, .nilFunc] 120 (0, 0))) := hq4
  have B6 : Hid (Below w.heap.size w y4) := by rw [h4]; exact B5.out.alloc (Nat.le_of_lt hlt) _
  have HT4 : Hid (Taking y4 ⟨#[118, 98]⟩ 205 p q) := by rw [h4]; exact HTk.out.below ((Below.refl _ _).alloc (Nat.le_refl _) _)
  have c0 : y4.cell? ⟨w.heap.size, 0, none⟩ = some (.int .i64 0) := by simp [World.cell?, hq4]
  have c1 : y4.cell? ⟨w.heap.size, 1, none⟩ = some (.int .i64 0) := by simp [World.cell?, hq4]
  have c2 : y4.cell? ⟨w.heap.size, 2, none⟩ = some .nilFunc := by simp [World.cell?, hq4]
  have f0 : ∀ o, y4.frozen? ⟨w.heap.size, o, none⟩ = false := fun o => by simp [World.frozen?, hq4]
  have H44 : Hid (y3.alloc (.cells #[.int .i64 2, .int .i64 2, .func (.func 245) #[] #[.pointer (some ⟨p, 0, none⟩), .pointer (some ⟨q, 0, none⟩)]] 120) = y4) := h4.symm
  rw [h4] at c0 c1 c2 f0
  have NP : p ≠ w.heap.size := fun h => by have := HTk.out.letters; rw [h, hq1] at this; simp at this
  have NQ : q ≠ w.heap.size := fun h => by have := HTk.out.work; rw [h, hq1] at this; simp at this
  clear hq4 hq1 hlt h4
  go_wp2_with fail
  rw [H44.out] at *
  refine fin3e HQ1.out (Q := bodyPost _ _ _ _ _) ?_
  clear c0 c1 c2 f0
  intro w2 hq2 hk2 he2
  obtain ⟨d0, d1, d2⟩ := cells3v hq2
  exact bodyPost_ret (v := fnV 2 p q) (by simp [results, Tryz.results83, go_sem, d0, d1, d2]) rfl ⟨p, q, rfl, HT4.out.keep he2 NP NQ, B6.out.trans (hk2 _ (Nat.le_refl _))⟩
set_option maxRecDepth 8000 in
theorem functionOf_lookup (w : World) :
    Calls Tryz.prog 83 #[.string ⟨#[76, 79, 79, 75, 85, 80]⟩] w fun e w' => ∃ p q, e = .returned (fnV 3 p q) ∧ Taking w' ⟨#[118, 98, 110]⟩ 207 p q ∧ Below w.heap.size w w' := by
  have H1 : Hid (∀ wx, Calls Tryz.prog 113 #[.string ⟨#[76, 79, 79, 75, 85, 80]⟩] wx fun e w' => e = .returned noF ∧ Below wx.heap.size wx w') := ofMany_lookup
  have H2 : Hid (∀ wx, Calls Tryz.prog 114 #[.string ⟨#[76, 79, 79, 75, 85, 80]⟩] wx fun e w' => e = .returned noF ∧ Below wx.heap.size wx w') := ofChoice_lookup
  have H3 : Hid (∀ wx, Calls Tryz.prog 115 #[.string ⟨#[76, 79, 79, 75, 85, 80]⟩] wx fun e w' => e = .returned noF ∧ Below wx.heap.size wx w') := ofNumbers_lookup
  have H4 : Hid (∀ wx, Calls Tryz.prog 116 #[.string ⟨#[76, 79, 79, 75, 85, 80]⟩] wx fun e w' => e = .returned noF ∧ Below wx.heap.size wx w') := ofTexts_lookup
  have H5 : Hid (∀ wx, Calls Tryz.prog 117 #[.string ⟨#[76, 79, 79, 75, 85, 80]⟩] wx fun e w' => ∃ p q, e = .returned (fnV 3 p q) ∧ Taking w' ⟨#[118, 98, 110]⟩ 207 p q ∧ Below wx.heap.size wx w') := ofBoxes_lookup
  go_enter Tryz.func83, Tryz.ntmps83
  go_wp2_with fail
  refine wp_loop_rounds 5 ?_
  obtain ⟨w0, hW⟩ : ∃ W, W = (w.alloc (.cells #[.int .i64 0, .int .i64 0, .nilFunc] 120)).alloc (.cells #[.func (.func 113) #[] #[], .func (.func 114) #[] #[], .func (.func 115) #[] #[], .func (.func 116) #[] #[], .func (.func 117) #[] #[]] 150) := ⟨_, rfl⟩
  rw [← hW]
  have HW : Hid (w0 = (w.alloc (.cells #[.int .i64 0, .int .i64 0, .nilFunc] 120)).alloc (.cells #[.func (.func 113) #[] #[], .func (.func 114) #[] #[], .func (.func 115) #[] #[], .func (.func 116) #[] #[], .func (.func 117) #[] #[]] 150)) := hW
  clear hW
  have B0 : Hid (Below w0.heap.size w0 w0) := Below.refl _ _
  refine rounds_step ?_
  intro K0 HK0
  have i0 := ix0 w0
  go_wp2_with fail
  refine (H1.out _).mono ?_
  rintro e v0 ⟨rfl, b0⟩
  clear i0
  have n0 := ne_nil (v0.alloc (.cells #[.int .i64 0, .int .i64 0, .nilFunc] 120))
  have B1 : Hid (Below w0.heap.size w0 (v0.alloc (.cells #[.int .i64 0, .int .i64 0, .nilFunc] 120))) := bstep B0.out b0 B0.out.size
  clear b0
  go_wp2_with fail
  refine HK0.out _ _ ?_
  clear HK0 K0 n0 B0
  obtain ⟨w1, h1⟩ : ∃ W, W = v0.alloc (.cells #[.int .i64 0, .int .i64 0, .nilFunc] 120) := ⟨_, rfl⟩
  rw [← h1] at B1 ⊢
  clear h1
  refine rounds_step ?_
  intro K1 HK1
  have i1 := ix1 w1
  go_wp2_with fail
  refine (H2.out _).mono ?_
  rintro e v1 ⟨rfl, b1⟩
  clear i1
  have n1 := ne_nil (v1.alloc (.cells #[.int .i64 0, .int .i64 0, .nilFunc] 120))
  have B2 : Hid (Below w0.heap.size w0 (v1.alloc (.cells #[.int .i64 0, .int .i64 0, .nilFunc] 120))) := bstep B1.out b1 B1.out.size
  clear b1
  go_wp2_with fail
  refine HK1.out _ _ ?_
  clear HK1 K1 n1 B1
  obtain ⟨w2, h2⟩ : ∃ W, W = v1.alloc (.cells #[.int .i64 0, .int .i64 0, .nilFunc] 120) := ⟨_, rfl⟩
  rw [← h2] at B2 ⊢
  clear h2
  refine rounds_step ?_
  intro K2 HK2
  have i2 := ix2 w2
  go_wp2_with fail
  refine (H3.out _).mono ?_
  rintro e v2 ⟨rfl, b2⟩
  clear i2
  have n2 := ne_nil (v2.alloc (.cells #[.int .i64 0, .int .i64 0, .nilFunc] 120))
  have B3 : Hid (Below w0.heap.size w0 (v2.alloc (.cells #[.int .i64 0, .int .i64 0, .nilFunc] 120))) := bstep B2.out b2 B2.out.size
  clear b2
  go_wp2_with fail
  refine HK2.out _ _ ?_
  clear HK2 K2 n2 B2
  obtain ⟨w3, h3⟩ : ∃ W, W = v2.alloc (.cells #[.int .i64 0, .int .i64 0, .nilFunc] 120) := ⟨_, rfl⟩
  rw [← h3] at B3 ⊢
  clear h3
  refine rounds_step ?_
  intro K3 HK3
  have i3 := ix3 w3
  go_wp2_with fail
  refine (H4.out _).mono ?_
  rintro e v3 ⟨rfl, b3⟩
  clear i3
  have n3 := ne_nil (v3.alloc (.cells #[.int .i64 0, .int .i64 0, .nilFunc] 120))
  have B4 : Hid (Below w0.heap.size w0 (v3.alloc (.cells #[.int .i64 0, .int .i64 0, .nilFunc] 120))) := bstep B3.out b3 B3.out.size
  clear b3
  go_wp2_with fail
  refine HK3.out _ _ ?_
  clear HK3 K3 n3 B3
  obtain ⟨w4, h4⟩ : ∃ W, W = v3.alloc (.cells #[.int .i64 0, .int .i64 0, .nilFunc] 120) := ⟨_, rfl⟩
  rw [← h4] at B4 ⊢
  clear h4
  refine rounds_step ?_
  intro K HK
  have i4 := ix4 w4
  go_wp2_with fail
  refine (H5.out _).mono ?_
  rintro e y3 ⟨p, q, rfl, ht, b4⟩
  clear i4 HK
  have C4 : Below w0.heap.size w0 y3 := bnext B4.out b4 B4.out.size
  have hq1 : y3.heap[w.heap.size]? = some (.cells #[.int .i64 0, .int .i64 0, .nilFunc] 120 (0, 0)) := by
    rw [C4.block _ (by rw [HW.out]; simp; omega), HW.out]
    exact (((Below.refl (w.heap.size + 1) _).alloc (by simp) _).block w.heap.size (by omega)).trans (heap_alloc_new w _)
  have B5 : Hid (Below w.heap.size w y3) := bnext (show Below w.heap.size w w0 by rw [HW.out]; exact ((Below.refl _ _).alloc (Nat.le_refl _) _).alloc (by simp) _) C4 (by rw [HW.out]; simp; omega)
  have hlt : w.heap.size < y3.heap.size := fm.lt_blk hq1
  have HTk : Hid (Taking y3 ⟨#[118, 98, 110]⟩ 207 p q) := ht
  clear C4 b4 B4 HW ht
  obtain ⟨y4, h4⟩ : ∃ W, W = y3.alloc (.cells #[.int .i64 3, .int .i64 3, .func (.func 245) #[] #[.pointer (some ⟨p, 0, none⟩), .pointer (some ⟨q, 0, none⟩)]] 120) := ⟨_, rfl⟩
  have n3 := ne_fn p q y4
  rw [h4] at n3
  have hq4 : y4.heap[w.heap.size]? = some (.cells #[.int .i64 0, .int .i64 0, .nilFunc] 120 (0, 0)) := by
    rw [h4]; exact (((Below.refl y3.heap.size y3).alloc (Nat.le_refl _) _).block _ hlt).trans hq1
  have HQ1 : Hid (y4.heap[w.heap.size]? = some (.cells #[.int .i64 0, .int .i64 0, .nilFunc] 120 (0, 0))) := hq4
  have B6 : Hid (Below w.heap.size w y4) := by rw [h4]; exact B5.out.alloc (Nat.le_of_lt hlt) _
  have HT4 : Hid (Taking y4 ⟨#[118, 98, 110]⟩ 207 p q) := by rw [h4]; exact HTk.out.below ((Below.refl _ _).alloc (Nat.le_refl _) _)
  have c0 : y4.cell? ⟨w.heap.size, 0, none⟩ = some (.int .i64 0) := by simp [World.cell?, hq4]
  have c1 : y4.cell? ⟨w.heap.size, 1, none⟩ = some (.int .i64 0) := by simp [World.cell?, hq4]
  have c2 : y4.cell? ⟨w.heap.size, 2, none⟩ = some .nilFunc := by simp [World.cell?, hq4]
  have f0 : ∀ o, y4.frozen? ⟨w.heap.size, o, none⟩ = false := fun o => by simp [World.frozen?, hq4]
  have H44 : Hid (y3.alloc (.cells #[.int .i64 3, .int .i64 3, .func (.func 245) #[] #[.pointer (some ⟨p, 0, none⟩), .pointer (some ⟨q, 0, none⟩)]] 120) = y4) := h4.symm
  rw [h4] at c0 c1 c2 f0
  have NP : p ≠ w.heap.size := fun h => by have := HTk.out.letters; rw [h, hq1] at this; simp at this
  have NQ : q ≠ w.heap.size := fun h => by have := HTk.out.work; rw [h, hq1] at this; simp at this
  clear hq4 hq1 hlt h4
  go_wp2_with fail
  rw [H44.out] at *
  refine fin3e HQ1.out (Q := bodyPost _ _ _ _ _) ?_
  clear c0 c1 c2 f0
  intro w2 hq2 hk2 he2
  obtain ⟨d0, d1, d2⟩ := cells3v hq2
  exact bodyPost_ret (v := fnV 3 p q) (by simp [results, Tryz.results83, go_sem, d0, d1, d2]) rfl ⟨p, q, rfl, HT4.out.keep he2 NP NQ, B6.out.trans (hk2 _ (Nat.le_refl _))⟩
set_option maxRecDepth 8000 in
theorem functionOf_countif (w : World) :
    Calls Tryz.prog 83 #[.string ⟨#[67, 79, 85, 78, 84, 73, 70]⟩] w fun e w' => ∃ p q, e = .returned (fnV 2 p q) ∧ Taking w' ⟨#[98, 118]⟩ 209 p q ∧ Below w.heap.size w w' := by
  have H1 : Hid (∀ wx, Calls Tryz.prog 113 #[.string ⟨#[67, 79, 85, 78, 84, 73, 70]⟩] wx fun e w' => e = .returned noF ∧ Below wx.heap.size wx w') := ofMany_countif
  have H2 : Hid (∀ wx, Calls Tryz.prog 114 #[.string ⟨#[67, 79, 85, 78, 84, 73, 70]⟩] wx fun e w' => e = .returned noF ∧ Below wx.heap.size wx w') := ofChoice_countif
  have H3 : Hid (∀ wx, Calls Tryz.prog 115 #[.string ⟨#[67, 79, 85, 78, 84, 73, 70]⟩] wx fun e w' => e = .returned noF ∧ Below wx.heap.size wx w') := ofNumbers_countif
  have H4 : Hid (∀ wx, Calls Tryz.prog 116 #[.string ⟨#[67, 79, 85, 78, 84, 73, 70]⟩] wx fun e w' => e = .returned noF ∧ Below wx.heap.size wx w') := ofTexts_countif
  have H5 : Hid (∀ wx, Calls Tryz.prog 117 #[.string ⟨#[67, 79, 85, 78, 84, 73, 70]⟩] wx fun e w' => ∃ p q, e = .returned (fnV 2 p q) ∧ Taking w' ⟨#[98, 118]⟩ 209 p q ∧ Below wx.heap.size wx w') := ofBoxes_countif
  go_enter Tryz.func83, Tryz.ntmps83
  go_wp2_with fail
  refine wp_loop_rounds 5 ?_
  obtain ⟨w0, hW⟩ : ∃ W, W = (w.alloc (.cells #[.int .i64 0, .int .i64 0, .nilFunc] 120)).alloc (.cells #[.func (.func 113) #[] #[], .func (.func 114) #[] #[], .func (.func 115) #[] #[], .func (.func 116) #[] #[], .func (.func 117) #[] #[]] 150) := ⟨_, rfl⟩
  rw [← hW]
  have HW : Hid (w0 = (w.alloc (.cells #[.int .i64 0, .int .i64 0, .nilFunc] 120)).alloc (.cells #[.func (.func 113) #[] #[], .func (.func 114) #[] #[], .func (.func 115) #[] #[], .func (.func 116) #[] #[], .func (.func 117) #[] #[]] 150)) := hW
  clear hW
  have B0 : Hid (Below w0.heap.size w0 w0) := Below.refl _ _
  refine rounds_step ?_
  intro K0 HK0
  have i0 := ix0 w0
  go_wp2_with fail
  refine (H1.out _).mono ?_
  rintro e v0 ⟨rfl, b0⟩
  clear i0
  have n0 := ne_nil (v0.alloc (.cells #[.int .i64 0, .int .i64 0, .nilFunc] 120))
  have B1 : Hid (Below w0.heap.size w0 (v0.alloc (.cells #[.int .i64 0, .int .i64 0, .nilFunc] 120))) := bstep B0.out b0 B0.out.size
  clear b0
  go_wp2_with fail
  refine HK0.out _ _ ?_
  clear HK0 K0 n0 B0
  obtain ⟨w1, h1⟩ : ∃ W, W = v0.alloc (.cells #[.int .i64 0, .int .i64 0, .nilFunc] 120) := ⟨_, rfl⟩
  rw [← h1] at B1 ⊢
  clear h1
  refine rounds_step ?_
  intro K1 HK1
  have i1 := ix1 w1
  go_wp2_with fail
  refine (H2.out _).mono ?_
  rintro e v1 ⟨rfl, b1⟩
  clear i1
  have n1 := ne_nil (v1.alloc (.cells #[.int .i64 0, .int .i64 0, .nilFunc] 120))
  have B2 : Hid (Below w0.heap.size w0 (v1.alloc (.cells #[.int .i64 0, .int .i64 0, .nilFunc] 120))) := bstep B1.out b1 B1.out.size
  clear b1
  go_wp2_with fail
  refine HK1.out _ _ ?_
  clear HK1 K1 n1 B1
  obtain ⟨w2, h2⟩ : ∃ W, W = v1.alloc (.cells #[.int .i64 0, .int .i64 0, .nilFunc] 120) := ⟨_, rfl⟩
  rw [← h2] at B2 ⊢
  clear h2
  refine rounds_step ?_
  intro K2 HK2
  have i2 := ix2 w2
  go_wp2_with fail
  refine (H3.out _).mono ?_
  rintro e v2 ⟨rfl, b2⟩
  clear i2
  have n2 := ne_nil (v2.alloc (.cells #[.int .i64 0, .int .i64 0, .nilFunc] 120))
  have B3 : Hid (Below w0.heap.size w0 (v2.alloc (.cells #[.int .i64 0, .int .i64 0, .nilFunc] 120))) := bstep B2.out b2 B2.out.size
  clear b2
  go_wp2_with fail
  refine HK2.out _ _ ?_
  clear HK2 K2 n2 B2
  obtain ⟨w3, h3⟩ : ∃ W, W = v2.alloc (.cells #[.int .i64 0, .int .i64 0, .nilFunc] 120) := ⟨_, rfl⟩
  rw [← h3] at B3 ⊢
  clear h3
  refine rounds_step ?_
  intro K3 HK3
  have i3 := ix3 w3
  go_wp2_with fail
  refine (H4.out _).mono ?_
  rintro e v3 ⟨rfl, b3⟩
  clear i3
  have n3 := ne_nil (v3.alloc (.cells #[.int .i64 0, .int .i64 0, .nilFunc] 120))
  have B4 : Hid (Below w0.heap.size w0 (v3.alloc (.cells #[.int .i64 0, .int .i64 0, .nilFunc] 120))) := bstep B3.out b3 B3.out.size
  clear b3
  go_wp2_with fail
  refine HK3.out _ _ ?_
  clear HK3 K3 n3 B3
  obtain ⟨w4, h4⟩ : ∃ W, W = v3.alloc (.cells #[.int .i64 0, .int .i64 0, .nilFunc] 120) := ⟨_, rfl⟩
  rw [← h4] at B4 ⊢
  clear h4
  refine rounds_step ?_
  intro K HK
  have i4 := ix4 w4
  go_wp2_with fail
  refine (H5.out _).mono ?_
  rintro e y3 ⟨p, q, rfl, ht, b4⟩
  clear i4 HK
  have C4 : Below w0.heap.size w0 y3 := bnext B4.out b4 B4.out.size
  have hq1 : y3.heap[w.heap.size]? = some (.cells #[.int .i64 0, .int .i64 0, .nilFunc] 120 (0, 0)) := by
    rw [C4.block _ (by rw [HW.out]; simp; omega), HW.out]
    exact (((Below.refl (w.heap.size + 1) _).alloc (by simp) _).block w.heap.size (by omega)).trans (heap_alloc_new w _)
  have B5 : Hid (Below w.heap.size w y3) := bnext (show Below w.heap.size w w0 by rw [HW.out]; exact ((Below.refl _ _).alloc (Nat.le_refl _) _).alloc (by simp) _) C4 (by rw [HW.out]; simp; omega)
  have hlt : w.heap.size < y3.heap.size := fm.lt_blk hq1
  have HTk : Hid (Taking y3 ⟨#[98, 118]⟩ 209 p q) := ht
  clear C4 b4 B4 HW ht
  obtain ⟨y4, h4⟩ : ∃ W, W = y3.alloc (.cells #[.int .i64 2, .int .i64 2, .func (.func 245) #[] #[.pointer (some ⟨p, 0, none⟩), .pointer (some ⟨q, 0, none⟩)]] 120) := ⟨_, rfl⟩
  have n3 := ne_fn p q y4
  rw [h4] at n3
  have hq4 : y4.heap[w.heap.size]? = some (.cells #[.int .i64 0, .int .i64 0, .nilFunc] 120 (0, 0)) := by
    rw [h4]; exact (((Below.refl y3.heap.size y3).alloc (Nat.le_refl _) _).block _ hlt).trans hq1
  have HQ1 : Hid (y4.heap[w.heap.size]? = some (.cells #[.int .i64 0, .int .i64 0, .nilFunc] 120 (0, 0))) := hq4
  have B6 : Hid (Below w.heap.size w y4) := by rw [h4]; exact B5.out.alloc (Nat.le_of_lt hlt) _
  have HT4 : Hid (Taking y4 ⟨#[98, 118]⟩ 209 p q) := by rw [h4]; exact HTk.out.below ((Below.refl _ _).alloc (Nat.le_refl _) _)
  have c0 : y4.cell? ⟨w.heap.size, 0, none⟩ = some (.int .i64 0) := by simp [World.cell?, hq4]
  have c1 : y4.cell? ⟨w.heap.size, 1, none⟩ = some (.int .i64 0) := by simp [World.cell?, hq4]
  have c2 : y4.cell? ⟨w.heap.size, 2, none⟩ = some .nilFunc := by simp [World.cell?, hq4]
  have f0 : ∀ o, y4.frozen? ⟨w.heap.size, o, none⟩ = false := fun o => by simp [World.frozen?, hq4]
  have H44 : Hid (y3.alloc (.cells #[.int .i64 2, .int .i64 2, .func (.func 245) #[] #[.pointer (some ⟨p, 0, none⟩), .pointer (some ⟨q, 0, none⟩)]] 120) = y4) := h4.symm
  rw [h4] at c0 c1 c2 f0
  have NP : p ≠ w.heap.size := fun h => by have := HTk.out.letters; rw [h, hq1] at this; simp at this
  have NQ : q ≠ w.heap.size := fun h => by have := HTk.out.work; rw [h, hq1] at this; simp at this
  clear hq4 hq1 hlt h4
  go_wp2_with fail
  rw [H44.out] at *
  refine fin3e HQ1.out (Q := bodyPost _ _ _ _ _) ?_
  clear c0 c1 c2 f0
  intro w2 hq2 hk2 he2
  obtain ⟨d0, d1, d2⟩ := cells3v hq2
  exact bodyPost_ret (v := fnV 2 p q) (by simp [results, Tryz.results83, go_sem, d0, d1, d2]) rfl ⟨p, q, rfl, HT4.out.keep he2 NP NQ, B6.out.trans (hk2 _ (Nat.le_refl _))⟩
end Go.Proofs.YtoebppmagkijjaaGreatDoor.ev
