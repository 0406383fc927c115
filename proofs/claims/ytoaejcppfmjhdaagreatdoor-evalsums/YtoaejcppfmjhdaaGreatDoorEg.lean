/- Package eval: the group that has a name. Conditions: as each theorem says. -/
import Derived.Test.YtoaejcppfmjhdaaGreatDoorEb
import Derived.Laws.EntriesVeiled
import Derived.Deep.RegionHeld3
namespace Go.Proofs.YtoaejcppfmjhdaaGreatDoor.ev
open Go.RowKit
/-- A function that takes so many arguments, with what its closure captured. -/
abbrev fnV (n : Int) (p q : Nat) : Value := .agg #[.int .i64 n, .int .i64 n, .func (.func 245) #[] #[.pointer (some ⟨p, 0, none⟩), .pointer (some ⟨q, 0, none⟩)]]
/-- What such a closure captured: the letters, and what is done. -/
structure Taking (w : World) (l : ByteArray) (k p q : Nat) : Prop where
  letters : w.heap[p]? = some (.cells #[.string l] 9 (0, 0))
  work : w.heap[q]? = some (.cells #[.func (.func k) #[] #[]] 188 (0, 0))
theorem Taking.keep {w w' : World} {l : ByteArray} {k p q b : Nat} (h : Taking w l k p q) (he : ∀ i, i ≠ b → w'.heap[i]? = w.heap[i]?) (hp : p ≠ b) (hq : q ≠ b) : Taking w' l k p q := ⟨(he p hp).trans h.letters, (he q hq).trans h.work⟩
theorem Taking.below {w w' : World} {l : ByteArray} {k p q : Nat} (h : Taking w l k p q) (hb : Below w.heap.size w w') : Taking w' l k p q :=
  ⟨(hb.block _ (fm.lt_blk h.letters)).trans h.letters, (hb.block _ (fm.lt_blk h.work)).trans h.work⟩
theorem blk_else {w : World} {b o i : Nat} {u : Value} (hi : i ≠ b) : (w.setCell ⟨b, o, none⟩ u).heap[i]? = w.heap[i]? := by
  show (w.heap.modify b _)[i]? = _
  rw [Array.getElem?_modify, if_neg (Ne.symm hi)]
theorem fin3e {w : World} {b : Nat} {a0 a1 a2 u0 u1 u2 : Value} {t : TypeId} (h : w.heap[b]? = some (.cells #[a0, a1, a2] t (0, 0))) {Q : World → Prop}
    (hq : ∀ w2, w2.heap[b]? = some (.cells #[u0, u1, u2] t (0, 0)) → (∀ B, B ≤ b → Below B w w2) → (∀ i, i ≠ b → w2.heap[i]? = w.heap[i]?) → Q w2) : Q (((w.setCell ⟨b, 0, none⟩ u0).setCell ⟨b, 1, none⟩ u1).setCell ⟨b, 2, none⟩ u2) := by
  have h0 : (w.setCell ⟨b, 0, none⟩ u0).heap[b]? = some (.cells #[u0, a1, a2] t (0, 0)) := by rw [fm.blk_set h]; rfl
  have h1 : ((w.setCell ⟨b, 0, none⟩ u0).setCell ⟨b, 1, none⟩ u1).heap[b]? = some (.cells #[u0, u1, a2] t (0, 0)) := by rw [fm.blk_set h0]; rfl
  have h2 : (((w.setCell ⟨b, 0, none⟩ u0).setCell ⟨b, 1, none⟩ u1).setCell ⟨b, 2, none⟩ u2).heap[b]? = some (.cells #[u0, u1, u2] t (0, 0)) := by rw [fm.blk_set h1]; rfl
  exact hq _ h2 (fun B hB => (((Below.refl _ _).setCell hB _).setCell hB _).setCell hB _) (fun i hi => by rw [blk_else hi, blk_else hi, blk_else hi])
theorem taking_any (l : ByteArray) (k : Nat) (w : World) :
    Calls Tryz.prog 174 #[.string l, .func (.func k) #[] #[]] w fun e w' => e = .returned (fnV l.size w.heap.size (w.heap.size + 1)) ∧ Taking w' l k w.heap.size (w.heap.size + 1) ∧ Below w.heap.size w w' := by
  go_enter Tryz.func174, Tryz.ntmps174
  go_wp2_with fail
  refine bodyPost_ret (v := fnV l.size w.heap.size (w.heap.size + 1)) (by simp [results, Tryz.results174, go_sem]) rfl ⟨rfl, ⟨?_, ?_⟩, (((Below.refl _ _).alloc (Nat.le_refl _) _).alloc (by simp) _).alloc (by simp; omega) _⟩
  · exact ((((Below.refl (w.heap.size + 1) _).alloc (by simp) _).alloc (by simp) _).block w.heap.size (by omega)).trans (heap_alloc_new w _)
  · refine (((Below.refl (w.heap.size + 2) _).alloc (by simp) _).block (w.heap.size + 1) (by omega)).trans ?_
    rw [show w.heap.size + 1 = (w.alloc (.cells #[.string l] 9)).heap.size by simp]
    exact heap_alloc_new _ _
set_option maxHeartbeats 800000 in
theorem ofTexts_len (w : World) :
    Calls Tryz.prog 116 #[.string ⟨#[76, 69, 78]⟩] w fun e w' => ∃ p q, e = .returned (fnV 1 p q) ∧ Taking w' ⟨#[116]⟩ 184 p q ∧ Below w.heap.size w w' := by
  have HT : Hid (∀ l wx, Calls Tryz.prog 174 #[.string l, .func (.func 184) #[] #[]] wx fun e w' => e = .returned (fnV l.size wx.heap.size (wx.heap.size + 1)) ∧ Taking w' l 184 wx.heap.size (wx.heap.size + 1) ∧ Below wx.heap.size wx w') := fun l wx => taking_any l 184 wx
  have HQ : Hid (∀ w1, Below (w.alloc (.cells #[.int .i64 0, .int .i64 0, .nilFunc] 120)).heap.size (w.alloc (.cells #[.int .i64 0, .int .i64 0, .nilFunc] 120)) w1 → w1.heap[w.heap.size]? = some (.cells #[.int .i64 0, .int .i64 0, .nilFunc] 120 (0, 0)) ∧ Below w.heap.size w w1) := fun w1 hb =>
    ⟨(hb.block w.heap.size (by simp)).trans (heap_alloc_new w _), bnext ((Below.refl w.heap.size w).alloc (Nat.le_refl _) (.cells #[.int .i64 0, .int .i64 0, .nilFunc] 120)) hb (by simp)⟩
  go_enter Tryz.func116, Tryz.ntmps116
  go_wp2_with fail
  refine (HT.out _ _).mono ?_
  rintro e w1 ⟨rfl, ht, hb1⟩
  have HY : Hid (∃ p q, (w.alloc (.cells #[.int .i64 0, .int .i64 0, .nilFunc] 120)).heap.size = p ∧ p + 1 = q) := ⟨_, _, rfl, rfl⟩
  obtain ⟨p, q, hp, hq⟩ := HY.out
  clear HY
  obtain ⟨hq1, hb2⟩ := HQ.out w1 hb1
  rw [hp, hq] at ht
  rw [hp, hq]
  have hpw : w.heap.size < p := by rw [← hp]; simp
  have hqw : w.heap.size < q := by omega
  have HTk : Hid (Taking w1 ⟨#[116]⟩ 184 p q) := ht
  have HB : Hid (Below w.heap.size w w1) := hb2
  have c0 : w1.cell? ⟨w.heap.size, 0, none⟩ = some (.int .i64 0) := by simp [World.cell?, hq1]
  have c1 : w1.cell? ⟨w.heap.size, 1, none⟩ = some (.int .i64 0) := by simp [World.cell?, hq1]
  have c2 : w1.cell? ⟨w.heap.size, 2, none⟩ = some .nilFunc := by simp [World.cell?, hq1]
  have f0 : ∀ o, w1.frozen? ⟨w.heap.size, o, none⟩ = false := fun o => by simp [World.frozen?, hq1]
  clear hb2 hb1 HQ HT ht hp hq
  have HQ1 : Hid (w1.heap[w.heap.size]? = some (.cells #[.int .i64 0, .int .i64 0, .nilFunc] 120 (0, 0))) := hq1
  clear hq1
  go_wp2_with fail
  refine fin3e HQ1.out (Q := bodyPost _ _ _ _ _) ?_
  clear c0 c1 c2 f0
  intro w2 hq2 hk2 he2
  obtain ⟨d0, d1, d2⟩ := cells3v hq2
  exact bodyPost_ret (v := fnV 1 p q) (by simp [results, Tryz.results116, go_sem, d0, d1, d2]) rfl ⟨p, q, rfl, HTk.out.keep he2 (Nat.ne_of_gt hpw) (Nat.ne_of_gt hqw), HB.out.trans (hk2 _ (Nat.le_refl _))⟩
set_option maxHeartbeats 800000 in
theorem ofTexts_left (w : World) :
    Calls Tryz.prog 116 #[.string ⟨#[76, 69, 70, 84]⟩] w fun e w' => ∃ p q, e = .returned (fnV 2 p q) ∧ Taking w' ⟨#[116, 110]⟩ 185 p q ∧ Below w.heap.size w w' := by
  have HT : Hid (∀ l wx, Calls Tryz.prog 174 #[.string l, .func (.func 185) #[] #[]] wx fun e w' => e = .returned (fnV l.size wx.heap.size (wx.heap.size + 1)) ∧ Taking w' l 185 wx.heap.size (wx.heap.size + 1) ∧ Below wx.heap.size wx w') := fun l wx => taking_any l 185 wx
  have HQ : Hid (∀ w1, Below (w.alloc (.cells #[.int .i64 0, .int .i64 0, .nilFunc] 120)).heap.size (w.alloc (.cells #[.int .i64 0, .int .i64 0, .nilFunc] 120)) w1 → w1.heap[w.heap.size]? = some (.cells #[.int .i64 0, .int .i64 0, .nilFunc] 120 (0, 0)) ∧ Below w.heap.size w w1) := fun w1 hb =>
    ⟨(hb.block w.heap.size (by simp)).trans (heap_alloc_new w _), bnext ((Below.refl w.heap.size w).alloc (Nat.le_refl _) (.cells #[.int .i64 0, .int .i64 0, .nilFunc] 120)) hb (by simp)⟩
  go_enter Tryz.func116, Tryz.ntmps116
  go_wp2_with fail
  refine (HT.out _ _).mono ?_
  rintro e w1 ⟨rfl, ht, hb1⟩
  have HY : Hid (∃ p q, (w.alloc (.cells #[.int .i64 0, .int .i64 0, .nilFunc] 120)).heap.size = p ∧ p + 1 = q) := ⟨_, _, rfl, rfl⟩
  obtain ⟨p, q, hp, hq⟩ := HY.out
  clear HY
  obtain ⟨hq1, hb2⟩ := HQ.out w1 hb1
  rw [hp, hq] at ht
  rw [hp, hq]
  have hpw : w.heap.size < p := by rw [← hp]; simp
  have hqw : w.heap.size < q := by omega
  have HTk : Hid (Taking w1 ⟨#[116, 110]⟩ 185 p q) := ht
  have HB : Hid (Below w.heap.size w w1) := hb2
  have c0 : w1.cell? ⟨w.heap.size, 0, none⟩ = some (.int .i64 0) := by simp [World.cell?, hq1]
  have c1 : w1.cell? ⟨w.heap.size, 1, none⟩ = some (.int .i64 0) := by simp [World.cell?, hq1]
  have c2 : w1.cell? ⟨w.heap.size, 2, none⟩ = some .nilFunc := by simp [World.cell?, hq1]
  have f0 : ∀ o, w1.frozen? ⟨w.heap.size, o, none⟩ = false := fun o => by simp [World.frozen?, hq1]
  clear hb2 hb1 HQ HT ht hp hq
  have HQ1 : Hid (w1.heap[w.heap.size]? = some (.cells #[.int .i64 0, .int .i64 0, .nilFunc] 120 (0, 0))) := hq1
  clear hq1
  go_wp2_with fail
  refine fin3e HQ1.out (Q := bodyPost _ _ _ _ _) ?_
  clear c0 c1 c2 f0
  intro w2 hq2 hk2 he2
  obtain ⟨d0, d1, d2⟩ := cells3v hq2
  exact bodyPost_ret (v := fnV 2 p q) (by simp [results, Tryz.results116, go_sem, d0, d1, d2]) rfl ⟨p, q, rfl, HTk.out.keep he2 (Nat.ne_of_gt hpw) (Nat.ne_of_gt hqw), HB.out.trans (hk2 _ (Nat.le_refl _))⟩
set_option maxHeartbeats 800000 in
theorem ofTexts_right (w : World) :
    Calls Tryz.prog 116 #[.string ⟨#[82, 73, 71, 72, 84]⟩] w fun e w' => ∃ p q, e = .returned (fnV 2 p q) ∧ Taking w' ⟨#[116, 110]⟩ 187 p q ∧ Below w.heap.size w w' := by
  have HT : Hid (∀ l wx, Calls Tryz.prog 174 #[.string l, .func (.func 187) #[] #[]] wx fun e w' => e = .returned (fnV l.size wx.heap.size (wx.heap.size + 1)) ∧ Taking w' l 187 wx.heap.size (wx.heap.size + 1) ∧ Below wx.heap.size wx w') := fun l wx => taking_any l 187 wx
  have HQ : Hid (∀ w1, Below (w.alloc (.cells #[.int .i64 0, .int .i64 0, .nilFunc] 120)).heap.size (w.alloc (.cells #[.int .i64 0, .int .i64 0, .nilFunc] 120)) w1 → w1.heap[w.heap.size]? = some (.cells #[.int .i64 0, .int .i64 0, .nilFunc] 120 (0, 0)) ∧ Below w.heap.size w w1) := fun w1 hb =>
    ⟨(hb.block w.heap.size (by simp)).trans (heap_alloc_new w _), bnext ((Below.refl w.heap.size w).alloc (Nat.le_refl _) (.cells #[.int .i64 0, .int .i64 0, .nilFunc] 120)) hb (by simp)⟩
  go_enter Tryz.func116, Tryz.ntmps116
  go_wp2_with fail
  refine (HT.out _ _).mono ?_
  rintro e w1 ⟨rfl, ht, hb1⟩
  have HY : Hid (∃ p q, (w.alloc (.cells #[.int .i64 0, .int .i64 0, .nilFunc] 120)).heap.size = p ∧ p + 1 = q) := ⟨_, _, rfl, rfl⟩
  obtain ⟨p, q, hp, hq⟩ := HY.out
  clear HY
  obtain ⟨hq1, hb2⟩ := HQ.out w1 hb1
  rw [hp, hq] at ht
  rw [hp, hq]
  have hpw : w.heap.size < p := by rw [← hp]; simp
  have hqw : w.heap.size < q := by omega
  have HTk : Hid (Taking w1 ⟨#[116, 110]⟩ 187 p q) := ht
  have HB : Hid (Below w.heap.size w w1) := hb2
  have c0 : w1.cell? ⟨w.heap.size, 0, none⟩ = some (.int .i64 0) := by simp [World.cell?, hq1]
  have c1 : w1.cell? ⟨w.heap.size, 1, none⟩ = some (.int .i64 0) := by simp [World.cell?, hq1]
  have c2 : w1.cell? ⟨w.heap.size, 2, none⟩ = some .nilFunc := by simp [World.cell?, hq1]
  have f0 : ∀ o, w1.frozen? ⟨w.heap.size, o, none⟩ = false := fun o => by simp [World.frozen?, hq1]
  clear hb2 hb1 HQ HT ht hp hq
  have HQ1 : Hid (w1.heap[w.heap.size]? = some (.cells #[.int .i64 0, .int .i64 0, .nilFunc] 120 (0, 0))) := hq1
  clear hq1
  go_wp2_with fail
  refine fin3e HQ1.out (Q := bodyPost _ _ _ _ _) ?_
  clear c0 c1 c2 f0
  intro w2 hq2 hk2 he2
  obtain ⟨d0, d1, d2⟩ := cells3v hq2
  exact bodyPost_ret (v := fnV 2 p q) (by simp [results, Tryz.results116, go_sem, d0, d1, d2]) rfl ⟨p, q, rfl, HTk.out.keep he2 (Nat.ne_of_gt hpw) (Nat.ne_of_gt hqw), HB.out.trans (hk2 _ (Nat.le_refl _))⟩
set_option maxHeartbeats 800000 in
theorem ofTexts_mid (w : World) :
    Calls Tryz.prog 116 #[.string ⟨#[77, 73, 68]⟩] w fun e w' => ∃ p q, e = .returned (fnV 3 p q) ∧ Taking w' ⟨#[116, 110, 110]⟩ 189 p q ∧ Below w.heap.size w w' := by
  have HT : Hid (∀ l wx, Calls Tryz.prog 174 #[.string l, .func (.func 189) #[] #[]] wx fun e w' => e = .returned (fnV l.size wx.heap.size (wx.heap.size + 1)) ∧ Taking w' l 189 wx.heap.size (wx.heap.size + 1) ∧ Below wx.heap.size wx w') := fun l wx => taking_any l 189 wx
  have HQ : Hid (∀ w1, Below (w.alloc (.cells #[.int .i64 0, .int .i64 0, .nilFunc] 120)).heap.size (w.alloc (.cells #[.int .i64 0, .int .i64 0, .nilFunc] 120)) w1 → w1.heap[w.heap.size]? = some (.cells #[.int .i64 0, .int .i64 0, .nilFunc] 120 (0, 0)) ∧ Below w.heap.size w w1) := fun w1 hb =>
    ⟨(hb.block w.heap.size (by simp)).trans (heap_alloc_new w _), bnext ((Below.refl w.heap.size w).alloc (Nat.le_refl _) (.cells #[.int .i64 0, .int .i64 0, .nilFunc] 120)) hb (by simp)⟩
  go_enter Tryz.func116, Tryz.ntmps116
  go_wp2_with fail
  refine (HT.out _ _).mono ?_
  rintro e w1 ⟨rfl, ht, hb1⟩
  have HY : Hid (∃ p q, (w.alloc (.cells #[.int .i64 0, .int .i64 0, .nilFunc] 120)).heap.size = p ∧ p + 1 = q) := ⟨_, _, rfl, rfl⟩
  obtain ⟨p, q, hp, hq⟩ := HY.out
  clear HY
  obtain ⟨hq1, hb2⟩ := HQ.out w1 hb1
  rw [hp, hq] at ht
  rw [hp, hq]
  have hpw : w.heap.size < p := by rw [← hp]; simp
  have hqw : w.heap.size < q := by omega
  have HTk : Hid (Taking w1 ⟨#[116, 110, 110]⟩ 189 p q) := ht
  have HB : Hid (Below w.heap.size w w1) := hb2
  have c0 : w1.cell? ⟨w.heap.size, 0, none⟩ = some (.int .i64 0) := by simp [World.cell?, hq1]
  have c1 : w1.cell? ⟨w.heap.size, 1, none⟩ = some (.int .i64 0) := by simp [World.cell?, hq1]
  have c2 : w1.cell? ⟨w.heap.size, 2, none⟩ = some .nilFunc := by simp [World.cell?, hq1]
  have f0 : ∀ o, w1.frozen? ⟨w.heap.size, o, none⟩ = false := fun o => by simp [World.frozen?, hq1]
  clear hb2 hb1 HQ HT ht hp hq
  have HQ1 : Hid (w1.heap[w.heap.size]? = some (.cells #[.int .i64 0, .int .i64 0, .nilFunc] 120 (0, 0))) := hq1
  clear hq1
  go_wp2_with fail
  refine fin3e HQ1.out (Q := bodyPost _ _ _ _ _) ?_
  clear c0 c1 c2 f0
  intro w2 hq2 hk2 he2
  obtain ⟨d0, d1, d2⟩ := cells3v hq2
  exact bodyPost_ret (v := fnV 3 p q) (by simp [results, Tryz.results116, go_sem, d0, d1, d2]) rfl ⟨p, q, rfl, HTk.out.keep he2 (Nat.ne_of_gt hpw) (Nat.ne_of_gt hqw), HB.out.trans (hk2 _ (Nat.le_refl _))⟩
set_option maxHeartbeats 800000 in
theorem ofTexts_find (w : World) :
    Calls Tryz.prog 116 #[.string ⟨#[70, 73, 78, 68]⟩] w fun e w' => ∃ p q, e = .returned (fnV 2 p q) ∧ Taking w' ⟨#[116, 116]⟩ 193 p q ∧ Below w.heap.size w w' := by
  have HT : Hid (∀ l wx, Calls Tryz.prog 174 #[.string l, .func (.func 193) #[] #[]] wx fun e w' => e = .returned (fnV l.size wx.heap.size (wx.heap.size + 1)) ∧ Taking w' l 193 wx.heap.size (wx.heap.size + 1) ∧ Below wx.heap.size wx w') := fun l wx => taking_any l 193 wx
  have HQ : Hid (∀ w1, Below (w.alloc (.cells #[.int .i64 0, .int .i64 0, .nilFunc] 120)).heap.size (w.alloc (.cells #[.int .i64 0, .int .i64 0, .nilFunc] 120)) w1 → w1.heap[w.heap.size]? = some (.cells #[.int .i64 0, .int .i64 0, .nilFunc] 120 (0, 0)) ∧ Below w.heap.size w w1) := fun w1 hb =>
    ⟨(hb.block w.heap.size (by simp)).trans (heap_alloc_new w _), bnext ((Below.refl w.heap.size w).alloc (Nat.le_refl _) (.cells #[.int .i64 0, .int .i64 0, .nilFunc] 120)) hb (by simp)⟩
  go_enter Tryz.func116, Tryz.ntmps116
  go_wp2_with fail
  refine (HT.out _ _).mono ?_
  rintro e w1 ⟨rfl, ht, hb1⟩
  have HY : Hid (∃ p q, (w.alloc (.cells #[.int .i64 0, .int .i64 0, .nilFunc] 120)).heap.size = p ∧ p + 1 = q) := ⟨_, _, rfl, rfl⟩
  obtain ⟨p, q, hp, hq⟩ := HY.out
  clear HY
  obtain ⟨hq1, hb2⟩ := HQ.out w1 hb1
  rw [hp, hq] at ht
  rw [hp, hq]
  have hpw : w.heap.size < p := by rw [← hp]; simp
  have hqw : w.heap.size < q := by omega
  have HTk : Hid (Taking w1 ⟨#[116, 116]⟩ 193 p q) := ht
  have HB : Hid (Below w.heap.size w w1) := hb2
  have c0 : w1.cell? ⟨w.heap.size, 0, none⟩ = some (.int .i64 0) := by simp [World.cell?, hq1]
  have c1 : w1.cell? ⟨w.heap.size, 1, none⟩ = some (.int .i64 0) := by simp [World.cell?, hq1]
  have c2 : w1.cell? ⟨w.heap.size, 2, none⟩ = some .nilFunc := by simp [World.cell?, hq1]
  have f0 : ∀ o, w1.frozen? ⟨w.heap.size, o, none⟩ = false := fun o => by simp [World.frozen?, hq1]
  clear hb2 hb1 HQ HT ht hp hq
  have HQ1 : Hid (w1.heap[w.heap.size]? = some (.cells #[.int .i64 0, .int .i64 0, .nilFunc] 120 (0, 0))) := hq1
  clear hq1
  go_wp2_with fail
  refine fin3e HQ1.out (Q := bodyPost _ _ _ _ _) ?_
  clear c0 c1 c2 f0
  intro w2 hq2 hk2 he2
  obtain ⟨d0, d1, d2⟩ := cells3v hq2
  exact bodyPost_ret (v := fnV 2 p q) (by simp [results, Tryz.results116, go_sem, d0, d1, d2]) rfl ⟨p, q, rfl, HTk.out.keep he2 (Nat.ne_of_gt hpw) (Nat.ne_of_gt hqw), HB.out.trans (hk2 _ (Nat.le_refl _))⟩
set_option maxHeartbeats 800000 in
theorem ofTexts_exact (w : World) :
    Calls Tryz.prog 116 #[.string ⟨#[69, 88, 65, 67, 84]⟩] w fun e w' => ∃ p q, e = .returned (fnV 2 p q) ∧ Taking w' ⟨#[116, 116]⟩ 197 p q ∧ Below w.heap.size w w' := by
  have HT : Hid (∀ l wx, Calls Tryz.prog 174 #[.string l, .func (.func 197) #[] #[]] wx fun e w' => e = .returned (fnV l.size wx.heap.size (wx.heap.size + 1)) ∧ Taking w' l 197 wx.heap.size (wx.heap.size + 1) ∧ Below wx.heap.size wx w') := fun l wx => taking_any l 197 wx
  have HQ : Hid (∀ w1, Below (w.alloc (.cells #[.int .i64 0, .int .i64 0, .nilFunc] 120)).heap.size (w.alloc (.cells #[.int .i64 0, .int .i64 0, .nilFunc] 120)) w1 → w1.heap[w.heap.size]? = some (.cells #[.int .i64 0, .int .i64 0, .nilFunc] 120 (0, 0)) ∧ Below w.heap.size w w1) := fun w1 hb =>
    ⟨(hb.block w.heap.size (by simp)).trans (heap_alloc_new w _), bnext ((Below.refl w.heap.size w).alloc (Nat.le_refl _) (.cells #[.int .i64 0, .int .i64 0, .nilFunc] 120)) hb (by simp)⟩
  go_enter Tryz.func116, Tryz.ntmps116
  go_wp2_with fail
  refine (HT.out _ _).mono ?_
  rintro e w1 ⟨rfl, ht, hb1⟩
  have HY : Hid (∃ p q, (w.alloc (.cells #[.int .i64 0, .int .i64 0, .nilFunc] 120)).heap.size = p ∧ p + 1 = q) := ⟨_, _, rfl, rfl⟩
  obtain ⟨p, q, hp, hq⟩ := HY.out
  clear HY
  obtain ⟨hq1, hb2⟩ := HQ.out w1 hb1
  rw [hp, hq] at ht
  rw [hp, hq]
  have hpw : w.heap.size < p := by rw [← hp]; simp
  have hqw : w.heap.size < q := by omega
  have HTk : Hid (Taking w1 ⟨#[116, 116]⟩ 197 p q) := ht
  have HB : Hid (Below w.heap.size w w1) := hb2
  have c0 : w1.cell? ⟨w.heap.size, 0, none⟩ = some (.int .i64 0) := by simp [World.cell?, hq1]
  have c1 : w1.cell? ⟨w.heap.size, 1, none⟩ = some (.int .i64 0) := by simp [World.cell?, hq1]
  have c2 : w1.cell? ⟨w.heap.size, 2, none⟩ = some .nilFunc := by simp [World.cell?, hq1]
  have f0 : ∀ o, w1.frozen? ⟨w.heap.size, o, none⟩ = false := fun o => by simp [World.frozen?, hq1]
  clear hb2 hb1 HQ HT ht hp hq
  have HQ1 : Hid (w1.heap[w.heap.size]? = some (.cells #[.int .i64 0, .int .i64 0, .nilFunc] 120 (0, 0))) := hq1
  clear hq1
  go_wp2_with fail
  refine fin3e HQ1.out (Q := bodyPost _ _ _ _ _) ?_
  clear c0 c1 c2 f0
  intro w2 hq2 hk2 he2
  obtain ⟨d0, d1, d2⟩ := cells3v hq2
  exact bodyPost_ret (v := fnV 2 p q) (by simp [results, Tryz.results116, go_sem, d0, d1, d2]) rfl ⟨p, q, rfl, HTk.out.keep he2 (Nat.ne_of_gt hpw) (Nat.ne_of_gt hqw), HB.out.trans (hk2 _ (Nat.le_refl _))⟩
end Go.Proofs.YtoaejcppfmjhdaaGreatDoor.ev
/- Package eval: what is done to arguments that are worked out. Conditions: as each theorem says. -/
namespace Go.Proofs.YtoaejcppfmjhdaaGreatDoor.ev
open Go.RowKit
/-- A list of arguments in its block, ten cells each. -/
def AB (w : World) (A n : Nat) (cs : Nat → Nat → Value) : Prop :=
  ∃ arr t, w.heap[A]? = some (.cells arr t (0, 0)) ∧ arr.size = n * 10 ∧ ∀ i j, i < n → j < 10 → arr[i * 10 + j]? = some (cs i j)
theorem AB.below {w w' : World} {A n : Nat} {cs : Nat → Nat → Value} (h : AB w A n cs) (hb : Below w.heap.size w w') : AB w' A n cs := by
  obtain ⟨arr, t, h1, h2⟩ := h
  exact ⟨arr, t, (hb.block _ (fm.lt_blk h1)).trans h1, h2⟩
theorem AB.lt {w : World} {A n : Nat} {cs : Nat → Nat → Value} (h : AB w A n cs) : A < w.heap.size := by
  obtain ⟨arr, t, h1, -⟩ := h
  exact fm.lt_blk h1
theorem AB.cell {w : World} {A n : Nat} {cs : Nat → Nat → Value} (h : AB w A n cs) {i j : Nat} (hi : i < n) (hj : j < 10) : w.cell? ⟨A, i * 10 + j, none⟩ = some (cs i j) := by
  obtain ⟨arr, t, h1, h2, h3⟩ := h
  simp [World.cell?, h1, h3 i j hi hj]
theorem AB.frozen {w : World} {A n : Nat} {cs : Nat → Nat → Value} (h : AB w A n cs) (o : Nat) : w.frozen? ⟨A, o, none⟩ = false := by
  obtain ⟨arr, t, h1, -⟩ := h
  simp [World.frozen?, h1]
/-- The same with another value in a cell. -/
def csSet (cs : Nat → Nat → Value) (i j : Nat) (u : Value) : Nat → Nat → Value := fun a b => if a = i ∧ b = j then u else cs a b
theorem csSet_same (cs : Nat → Nat → Value) (i j : Nat) (u : Value) : csSet cs i j u i j = u := if_pos ⟨rfl, rfl⟩
theorem csSet_other (cs : Nat → Nat → Value) {i j a b : Nat} (u : Value) (h : ¬ (a = i ∧ b = j)) : csSet cs i j u a b = cs a b := if_neg h
theorem AB.set {w : World} {A n : Nat} {cs : Nat → Nat → Value} (h : AB w A n cs) {i j : Nat} (hi : i < n) (hj : j < 10) (u : Value) : AB (w.setCell ⟨A, i * 10 + j, none⟩ u) A n (csSet cs i j u) := by
  obtain ⟨arr, t, h1, h2, h3⟩ := h
  refine ⟨arr.setIfInBounds (i * 10 + j) u, t, fm.blk_set h1, by simp [h2], fun a b ha hb => ?_⟩
  rw [Array.getElem?_setIfInBounds]
  by_cases e : a = i ∧ b = j
  · obtain ⟨rfl, rfl⟩ := e
    rw [csSet_same, if_pos rfl, if_pos (by omega)]
  · rw [if_neg (by omega), csSet_other _ _ e]; exact h3 a b ha hb
set_option maxHeartbeats 1600000 in
theorem lenA (s : ByteArray) (w : World) (A : Nat) (cs : Nat → Nat → Value) (h : AB w A 1 cs) (h0 : cs 0 4 = .string s) (k m : Int) (z : ByteArray)
    (HC : Hid (∀ wx, Below w.heap.size w wx → Calls Tryz.prog 44 #[.int .i64 s.size] wx fun e w' => e = .returned (VV k m z) ∧ Below wx.heap.size wx w')) :
    Calls Tryz.prog 184 #[.slice (some ⟨A, 0, none⟩) 1 1] w fun e w' => e = .returned (VV k m z) ∧ Below w.heap.size w w' := by
  have HQ : Hid (∀ w1, Below (w.alloc (.cells #[.int .i64 0, .int .i64 0, .string nul] 31)).heap.size (w.alloc (.cells #[.int .i64 0, .int .i64 0, .string nul] 31)) w1 → w1.heap[w.heap.size]? = some (.cells #[.int .i64 0, .int .i64 0, .string nul] 31 (0, 0)) ∧ Below w.heap.size w w1) := fun w1 hb =>
    ⟨(hb.block w.heap.size (by simp)).trans (heap_alloc_new w _), bnext ((Below.refl w.heap.size w).alloc (Nat.le_refl _) (.cells #[.int .i64 0, .int .i64 0, .string nul] 31)) hb (by simp)⟩
  have hA := h.below ((Below.refl _ _).alloc (Nat.le_refl _) (.cells #[.int .i64 0, .int .i64 0, .string nul] 31))
  have HT : Hid (Calls Tryz.prog 44 #[.int .i64 s.size] (w.alloc (.cells #[.int .i64 0, .int .i64 0, .string nul] 31)) fun e w' => e = .returned (VV k m z) ∧ Below (w.alloc (.cells #[.int .i64 0, .int .i64 0, .string nul] 31)).heap.size (w.alloc (.cells #[.int .i64 0, .int .i64 0, .string nul] 31)) w') := HC.out _ ((Below.refl _ _).alloc (Nat.le_refl _) _)
  have x0_0 : (w.alloc (.cells #[.int .i64 0, .int .i64 0, .string nul] 31)).cell? ⟨A, 0, none⟩ = some (cs 0 0) := by simpa using hA.cell (i := 0) (j := 0) (by omega) (by omega)
  have x0_1 : (w.alloc (.cells #[.int .i64 0, .int .i64 0, .string nul] 31)).cell? ⟨A, 1, none⟩ = some (cs 0 1) := by simpa using hA.cell (i := 0) (j := 1) (by omega) (by omega)
  have x0_2 : (w.alloc (.cells #[.int .i64 0, .int .i64 0, .string nul] 31)).cell? ⟨A, 2, none⟩ = some (cs 0 2) := by simpa using hA.cell (i := 0) (j := 2) (by omega) (by omega)
  have x0_3 : (w.alloc (.cells #[.int .i64 0, .int .i64 0, .string nul] 31)).cell? ⟨A, 3, none⟩ = some (cs 0 3) := by simpa using hA.cell (i := 0) (j := 3) (by omega) (by omega)
  have x0_4 : (w.alloc (.cells #[.int .i64 0, .int .i64 0, .string nul] 31)).cell? ⟨A, 4, none⟩ = some (cs 0 4) := by simpa using hA.cell (i := 0) (j := 4) (by omega) (by omega)
  have x0_5 : (w.alloc (.cells #[.int .i64 0, .int .i64 0, .string nul] 31)).cell? ⟨A, 5, none⟩ = some (cs 0 5) := by simpa using hA.cell (i := 0) (j := 5) (by omega) (by omega)
  have x0_6 : (w.alloc (.cells #[.int .i64 0, .int .i64 0, .string nul] 31)).cell? ⟨A, 6, none⟩ = some (cs 0 6) := by simpa using hA.cell (i := 0) (j := 6) (by omega) (by omega)
  have x0_7 : (w.alloc (.cells #[.int .i64 0, .int .i64 0, .string nul] 31)).cell? ⟨A, 7, none⟩ = some (cs 0 7) := by simpa using hA.cell (i := 0) (j := 7) (by omega) (by omega)
  have x0_8 : (w.alloc (.cells #[.int .i64 0, .int .i64 0, .string nul] 31)).cell? ⟨A, 8, none⟩ = some (cs 0 8) := by simpa using hA.cell (i := 0) (j := 8) (by omega) (by omega)
  have x0_9 : (w.alloc (.cells #[.int .i64 0, .int .i64 0, .string nul] 31)).cell? ⟨A, 9, none⟩ = some (cs 0 9) := by simpa using hA.cell (i := 0) (j := 9) (by omega) (by omega)
  rw [h0] at x0_4
  clear hA h HC
  go_enter Tryz.func184, Tryz.ntmps184
  go_wp2_with fail
  refine HT.out.mono ?_
  rintro e w1 ⟨rfl, hb1⟩
  obtain ⟨hq1, hb2⟩ := HQ.out w1 hb1
  have HB : Hid (Below w.heap.size w w1) := hb2
  have c0 : w1.cell? ⟨w.heap.size, 0, none⟩ = some (.int .i64 0) := by simp [World.cell?, hq1]
  have c1 : w1.cell? ⟨w.heap.size, 1, none⟩ = some (.int .i64 0) := by simp [World.cell?, hq1]
  have c2 : w1.cell? ⟨w.heap.size, 2, none⟩ = some (.string nul) := by simp [World.cell?, hq1]
  have f0 : ∀ o, w1.frozen? ⟨w.heap.size, o, none⟩ = false := fun o => by simp [World.frozen?, hq1]
  clear hb2 hb1 HQ HT
  have HQ1 : Hid (w1.heap[w.heap.size]? = some (.cells #[.int .i64 0, .int .i64 0, .string nul] 31 (0, 0))) := hq1
  clear hq1
  go_wp2_with fail
  refine fin3 HQ1.out (Q := bodyPost _ _ _ _ _) ?_
  clear c0 c1 c2 f0
  intro w2 hq2 hk2
  obtain ⟨d0, d1, d2⟩ := cells3v hq2
  exact bodyPost_ret (v := VV k m z) (by simp [results, Tryz.results184, go_sem, d0, d1, d2]) rfl ⟨rfl, HB.out.trans (hk2 _ (Nat.le_refl _))⟩
abbrev KO_leftA (s : ByteArray) (b : Int) (w : World) (A : Nat) (cs : Nat → Nat → Value) (wx : World) : Prop := wx.cell? ⟨A, 4, none⟩ = some (.string s) ∧ wx.cell? ⟨A, 13, none⟩ = some (.int .i64 b) ∧ AB wx A 2 cs ∧ Below w.heap.size w wx
theorem KO_leftA.of {s : ByteArray} {b : Int} {w : World} {A : Nat} {cs : Nat → Nat → Value} {wx : World} (h0 : cs 0 4 = .string s) (h1 : cs 1 3 = .int .i64 b) (h : AB wx A 2 cs) (hb : Below w.heap.size w wx) : KO_leftA s b w A cs wx := ⟨by have := h.cell (i := 0) (j := 4) (by omega) (by omega); rw [h0] at this; simpa using this, by have := h.cell (i := 1) (j := 3) (by omega) (by omega); rw [h1] at this; simpa using this, h, hb⟩
set_option maxHeartbeats 1600000 in
theorem leftA (s : ByteArray) (b : Int) (w : World) (A : Nat) (cs : Nat → Nat → Value) (h : AB w A 2 cs) (h0 : cs 0 4 = .string s) (h1 : cs 1 3 = .int .i64 b) (k m : Int) (z : ByteArray)
    (HC : Hid (∀ wx, Below w.heap.size w wx → Calls Tryz.prog 186 #[.string s, .int .i64 1, .int .i64 b] wx fun e w' => e = .returned (VV k m z) ∧ Below wx.heap.size wx w')) :
    Calls Tryz.prog 185 #[.slice (some ⟨A, 0, none⟩) 2 2] w fun e w' => e = .returned (VV k m z) ∧ Below w.heap.size w w' := by
  have HQ : Hid (∀ w1, Below (w.alloc (.cells #[.int .i64 0, .int .i64 0, .string nul] 31)).heap.size (w.alloc (.cells #[.int .i64 0, .int .i64 0, .string nul] 31)) w1 → w1.heap[w.heap.size]? = some (.cells #[.int .i64 0, .int .i64 0, .string nul] 31 (0, 0)) ∧ Below w.heap.size w w1) := fun w1 hb =>
    ⟨(hb.block w.heap.size (by simp)).trans (heap_alloc_new w _), bnext ((Below.refl w.heap.size w).alloc (Nat.le_refl _) (.cells #[.int .i64 0, .int .i64 0, .string nul] 31)) hb (by simp)⟩
  have hA := h.below ((Below.refl _ _).alloc (Nat.le_refl _) (.cells #[.int .i64 0, .int .i64 0, .string nul] 31))
  have hlt := h.lt
  have kbel : ∀ wx wy, KO_leftA s b w A cs wx → Below wx.heap.size wx wy → KO_leftA s b w A cs wy := fun wx wy q hb => KO_leftA.of h0 h1 (q.2.2.1.below hb) (bnext q.2.2.2 hb q.2.2.2.size)
  have kset : ∀ wx u0 u1 u2, KO_leftA s b w A cs wx → KO_leftA s b w A cs (((wx.setCell ⟨w.heap.size, 0, none⟩ u0).setCell ⟨w.heap.size, 1, none⟩ u1).setCell ⟨w.heap.size, 2, none⟩ u2) := fun wx u0 u1 u2 q => KO_leftA.of h0 h1
    (by obtain ⟨arr, t, q1, q2⟩ := q.2.2.1; exact ⟨arr, t, (by rw [blk_else (by omega), blk_else (by omega), blk_else (by omega)]; exact q1), q2⟩) (((q.2.2.2.setCell (Nat.le_refl _) _).setCell (Nat.le_refl _) _).setCell (Nat.le_refl _) _)
  have hst : KO_leftA s b w A cs (w.alloc (.cells #[.int .i64 0, .int .i64 0, .string nul] 31)) := KO_leftA.of h0 h1 hA ((Below.refl _ _).alloc (Nat.le_refl _) _)
  have h0d := kbel _ _ hst (Below.refl _ _).drew
  have hb0 : Below (w.alloc (.cells #[.int .i64 0, .int .i64 0, .string nul] 31)).heap.size (w.alloc (.cells #[.int .i64 0, .int .i64 0, .string nul] 31)) (w.alloc (.cells #[.int .i64 0, .int .i64 0, .string nul] 31)).drew := (Below.refl _ _).drew
  obtain ⟨q0, q1, -, -⟩ := hst
  clear hA h
  go_enter Tryz.func185, Tryz.ntmps185
  go_wp2_with fail
  go_region_held3 (fun wx => KO_leftA s b w A cs wx) (first | exact h0d | exact kbel _ _ (by assumption) (by assumption) | exact kset _ _ _ _ (by assumption)) (first | (go_at_call 186; refine (HC.out _ (by exact h0d.2.2.2)).mono ?_; rintro e w1 ⟨rfl, hb1⟩; obtain ⟨hq1, hb2⟩ := HQ.out w1 (bnext hb0 hb1 hb0.size); have HB : Hid (Below w.heap.size w w1) := hb2; obtain ⟨c0, c1, c2⟩ := cells3v hq1; have f0 : ∀ o, w1.frozen? ⟨w.heap.size, o, none⟩ = false := fun o => by simp [World.frozen?, hq1]))
  all_goals
    have HQ1 : Hid (w1.heap[w.heap.size]? = some (.cells #[.int .i64 0, .int .i64 0, .string nul] 31 (0, 0))) := hq1
    clear hq1 hb1 hb2 HQ h0d hb0 kbel kset HC
    go_wp2_with fail
    refine fin3 HQ1.out (Q := bodyPost _ _ _ _ _) ?_
    clear c0 c1 c2 f0
    intro w2 hq2 hk2
    obtain ⟨d0, d1, d2⟩ := cells3v hq2
    exact bodyPost_ret (v := VV k m z) (by simp [results, Tryz.results185, go_sem, d0, d1, d2]) rfl ⟨rfl, HB.out.trans (hk2 _ (Nat.le_refl _))⟩
abbrev KO_rightA (s : ByteArray) (b : Int) (w : World) (A : Nat) (cs : Nat → Nat → Value) (wx : World) : Prop := wx.cell? ⟨A, 4, none⟩ = some (.string s) ∧ wx.cell? ⟨A, 13, none⟩ = some (.int .i64 b) ∧ AB wx A 2 cs ∧ Below w.heap.size w wx
theorem KO_rightA.of {s : ByteArray} {b : Int} {w : World} {A : Nat} {cs : Nat → Nat → Value} {wx : World} (h0 : cs 0 4 = .string s) (h1 : cs 1 3 = .int .i64 b) (h : AB wx A 2 cs) (hb : Below w.heap.size w wx) : KO_rightA s b w A cs wx := ⟨by have := h.cell (i := 0) (j := 4) (by omega) (by omega); rw [h0] at this; simpa using this, by have := h.cell (i := 1) (j := 3) (by omega) (by omega); rw [h1] at this; simpa using this, h, hb⟩
set_option maxHeartbeats 1600000 in
theorem rightA (s : ByteArray) (b : Int) (w : World) (A : Nat) (cs : Nat → Nat → Value) (h : AB w A 2 cs) (h0 : cs 0 4 = .string s) (h1 : cs 1 3 = .int .i64 b) (k m : Int) (z : ByteArray)
    (HC : Hid (∀ wx, Below w.heap.size w wx → Calls Tryz.prog 188 #[.string s, .int .i64 b] wx fun e w' => e = .returned (VV k m z) ∧ Below wx.heap.size wx w')) :
    Calls Tryz.prog 187 #[.slice (some ⟨A, 0, none⟩) 2 2] w fun e w' => e = .returned (VV k m z) ∧ Below w.heap.size w w' := by
  have HQ : Hid (∀ w1, Below (w.alloc (.cells #[.int .i64 0, .int .i64 0, .string nul] 31)).heap.size (w.alloc (.cells #[.int .i64 0, .int .i64 0, .string nul] 31)) w1 → w1.heap[w.heap.size]? = some (.cells #[.int .i64 0, .int .i64 0, .string nul] 31 (0, 0)) ∧ Below w.heap.size w w1) := fun w1 hb =>
    ⟨(hb.block w.heap.size (by simp)).trans (heap_alloc_new w _), bnext ((Below.refl w.heap.size w).alloc (Nat.le_refl _) (.cells #[.int .i64 0, .int .i64 0, .string nul] 31)) hb (by simp)⟩
  have hA := h.below ((Below.refl _ _).alloc (Nat.le_refl _) (.cells #[.int .i64 0, .int .i64 0, .string nul] 31))
  have hlt := h.lt
  have kbel : ∀ wx wy, KO_rightA s b w A cs wx → Below wx.heap.size wx wy → KO_rightA s b w A cs wy := fun wx wy q hb => KO_rightA.of h0 h1 (q.2.2.1.below hb) (bnext q.2.2.2 hb q.2.2.2.size)
  have kset : ∀ wx u0 u1 u2, KO_rightA s b w A cs wx → KO_rightA s b w A cs (((wx.setCell ⟨w.heap.size, 0, none⟩ u0).setCell ⟨w.heap.size, 1, none⟩ u1).setCell ⟨w.heap.size, 2, none⟩ u2) := fun wx u0 u1 u2 q => KO_rightA.of h0 h1
    (by obtain ⟨arr, t, q1, q2⟩ := q.2.2.1; exact ⟨arr, t, (by rw [blk_else (by omega), blk_else (by omega), blk_else (by omega)]; exact q1), q2⟩) (((q.2.2.2.setCell (Nat.le_refl _) _).setCell (Nat.le_refl _) _).setCell (Nat.le_refl _) _)
  have hst : KO_rightA s b w A cs (w.alloc (.cells #[.int .i64 0, .int .i64 0, .string nul] 31)) := KO_rightA.of h0 h1 hA ((Below.refl _ _).alloc (Nat.le_refl _) _)
  have h0d := kbel _ _ hst (Below.refl _ _).drew
  have hb0 : Below (w.alloc (.cells #[.int .i64 0, .int .i64 0, .string nul] 31)).heap.size (w.alloc (.cells #[.int .i64 0, .int .i64 0, .string nul] 31)) (w.alloc (.cells #[.int .i64 0, .int .i64 0, .string nul] 31)).drew := (Below.refl _ _).drew
  obtain ⟨q0, q1, -, -⟩ := hst
  clear hA h
  go_enter Tryz.func187, Tryz.ntmps187
  go_wp2_with fail
  go_region_held3 (fun wx => KO_rightA s b w A cs wx) (first | exact h0d | exact kbel _ _ (by assumption) (by assumption) | exact kset _ _ _ _ (by assumption)) (first | (go_at_call 188; refine (HC.out _ (by exact h0d.2.2.2)).mono ?_; rintro e w1 ⟨rfl, hb1⟩; obtain ⟨hq1, hb2⟩ := HQ.out w1 (bnext hb0 hb1 hb0.size); have HB : Hid (Below w.heap.size w w1) := hb2; obtain ⟨c0, c1, c2⟩ := cells3v hq1; have f0 : ∀ o, w1.frozen? ⟨w.heap.size, o, none⟩ = false := fun o => by simp [World.frozen?, hq1]))
  all_goals
    have HQ1 : Hid (w1.heap[w.heap.size]? = some (.cells #[.int .i64 0, .int .i64 0, .string nul] 31 (0, 0))) := hq1
    clear hq1 hb1 hb2 HQ h0d hb0 kbel kset HC
    go_wp2_with fail
    refine fin3 HQ1.out (Q := bodyPost _ _ _ _ _) ?_
    clear c0 c1 c2 f0
    intro w2 hq2 hk2
    obtain ⟨d0, d1, d2⟩ := cells3v hq2
    exact bodyPost_ret (v := VV k m z) (by simp [results, Tryz.results187, go_sem, d0, d1, d2]) rfl ⟨rfl, HB.out.trans (hk2 _ (Nat.le_refl _))⟩
abbrev KO_midA (s : ByteArray) (a : Int) (b : Int) (w : World) (A : Nat) (cs : Nat → Nat → Value) (wx : World) : Prop := wx.cell? ⟨A, 4, none⟩ = some (.string s) ∧ wx.cell? ⟨A, 13, none⟩ = some (.int .i64 a) ∧ wx.cell? ⟨A, 23, none⟩ = some (.int .i64 b) ∧ AB wx A 3 cs ∧ Below w.heap.size w wx
theorem KO_midA.of {s : ByteArray} {a : Int} {b : Int} {w : World} {A : Nat} {cs : Nat → Nat → Value} {wx : World} (h0 : cs 0 4 = .string s) (h1 : cs 1 3 = .int .i64 a) (h2 : cs 2 3 = .int .i64 b) (h : AB wx A 3 cs) (hb : Below w.heap.size w wx) : KO_midA s a b w A cs wx := ⟨by have := h.cell (i := 0) (j := 4) (by omega) (by omega); rw [h0] at this; simpa using this, by have := h.cell (i := 1) (j := 3) (by omega) (by omega); rw [h1] at this; simpa using this, by have := h.cell (i := 2) (j := 3) (by omega) (by omega); rw [h2] at this; simpa using this, h, hb⟩
set_option maxHeartbeats 1600000 in
theorem midA (s : ByteArray) (a : Int) (b : Int) (w : World) (A : Nat) (cs : Nat → Nat → Value) (h : AB w A 3 cs) (h0 : cs 0 4 = .string s) (h1 : cs 1 3 = .int .i64 a) (h2 : cs 2 3 = .int .i64 b) (k m : Int) (z : ByteArray)
    (HC : Hid (∀ wx, Below w.heap.size w wx → Calls Tryz.prog 186 #[.string s, .int .i64 a, .int .i64 b] wx fun e w' => e = .returned (VV k m z) ∧ Below wx.heap.size wx w')) :
    Calls Tryz.prog 189 #[.slice (some ⟨A, 0, none⟩) 3 3] w fun e w' => e = .returned (VV k m z) ∧ Below w.heap.size w w' := by
  have HQ : Hid (∀ w1, Below (w.alloc (.cells #[.int .i64 0, .int .i64 0, .string nul] 31)).heap.size (w.alloc (.cells #[.int .i64 0, .int .i64 0, .string nul] 31)) w1 → w1.heap[w.heap.size]? = some (.cells #[.int .i64 0, .int .i64 0, .string nul] 31 (0, 0)) ∧ Below w.heap.size w w1) := fun w1 hb =>
    ⟨(hb.block w.heap.size (by simp)).trans (heap_alloc_new w _), bnext ((Below.refl w.heap.size w).alloc (Nat.le_refl _) (.cells #[.int .i64 0, .int .i64 0, .string nul] 31)) hb (by simp)⟩
  have hA := h.below ((Below.refl _ _).alloc (Nat.le_refl _) (.cells #[.int .i64 0, .int .i64 0, .string nul] 31))
  have hlt := h.lt
  have kbel : ∀ wx wy, KO_midA s a b w A cs wx → Below wx.heap.size wx wy → KO_midA s a b w A cs wy := fun wx wy q hb => KO_midA.of h0 h1 h2 (q.2.2.2.1.below hb) (bnext q.2.2.2.2 hb q.2.2.2.2.size)
  have kset : ∀ wx u0 u1 u2, KO_midA s a b w A cs wx → KO_midA s a b w A cs (((wx.setCell ⟨w.heap.size, 0, none⟩ u0).setCell ⟨w.heap.size, 1, none⟩ u1).setCell ⟨w.heap.size, 2, none⟩ u2) := fun wx u0 u1 u2 q => KO_midA.of h0 h1 h2
    (by obtain ⟨arr, t, q1, q2⟩ := q.2.2.2.1; exact ⟨arr, t, (by rw [blk_else (by omega), blk_else (by omega), blk_else (by omega)]; exact q1), q2⟩) (((q.2.2.2.2.setCell (Nat.le_refl _) _).setCell (Nat.le_refl _) _).setCell (Nat.le_refl _) _)
  have hst : KO_midA s a b w A cs (w.alloc (.cells #[.int .i64 0, .int .i64 0, .string nul] 31)) := KO_midA.of h0 h1 h2 hA ((Below.refl _ _).alloc (Nat.le_refl _) _)
  have h0d := kbel _ _ hst (Below.refl _ _).drew
  have hb0 : Below (w.alloc (.cells #[.int .i64 0, .int .i64 0, .string nul] 31)).heap.size (w.alloc (.cells #[.int .i64 0, .int .i64 0, .string nul] 31)) (w.alloc (.cells #[.int .i64 0, .int .i64 0, .string nul] 31)).drew := (Below.refl _ _).drew
  obtain ⟨q0, q1, q2, -, -⟩ := hst
  clear hA h
  go_enter Tryz.func189, Tryz.ntmps189
  go_wp2_with fail
  go_region_held3 (fun wx => KO_midA s a b w A cs wx) (first | exact h0d | exact kbel _ _ (by assumption) (by assumption) | exact kset _ _ _ _ (by assumption)) (first | (go_at_call 186; refine (HC.out _ (by exact h0d.2.2.2.2)).mono ?_; rintro e w1 ⟨rfl, hb1⟩; obtain ⟨hq1, hb2⟩ := HQ.out w1 (bnext hb0 hb1 hb0.size); have HB : Hid (Below w.heap.size w w1) := hb2; obtain ⟨c0, c1, c2⟩ := cells3v hq1; have f0 : ∀ o, w1.frozen? ⟨w.heap.size, o, none⟩ = false := fun o => by simp [World.frozen?, hq1]))
  all_goals
    have HQ1 : Hid (w1.heap[w.heap.size]? = some (.cells #[.int .i64 0, .int .i64 0, .string nul] 31 (0, 0))) := hq1
    clear hq1 hb1 hb2 HQ h0d hb0 kbel kset HC
    go_wp2_with fail
    refine fin3 HQ1.out (Q := bodyPost _ _ _ _ _) ?_
    clear c0 c1 c2 f0
    intro w2 hq2 hk2
    obtain ⟨d0, d1, d2⟩ := cells3v hq2
    exact bodyPost_ret (v := VV k m z) (by simp [results, Tryz.results189, go_sem, d0, d1, d2]) rfl ⟨rfl, HB.out.trans (hk2 _ (Nat.le_refl _))⟩
abbrev KO_findA (p : ByteArray) (s : ByteArray) (w : World) (A : Nat) (cs : Nat → Nat → Value) (wx : World) : Prop := wx.cell? ⟨A, 4, none⟩ = some (.string p) ∧ wx.cell? ⟨A, 14, none⟩ = some (.string s) ∧ AB wx A 2 cs ∧ Below w.heap.size w wx
theorem KO_findA.of {p : ByteArray} {s : ByteArray} {w : World} {A : Nat} {cs : Nat → Nat → Value} {wx : World} (h0 : cs 0 4 = .string p) (h1 : cs 1 4 = .string s) (h : AB wx A 2 cs) (hb : Below w.heap.size w wx) : KO_findA p s w A cs wx := ⟨by have := h.cell (i := 0) (j := 4) (by omega) (by omega); rw [h0] at this; simpa using this, by have := h.cell (i := 1) (j := 4) (by omega) (by omega); rw [h1] at this; simpa using this, h, hb⟩
set_option maxHeartbeats 1600000 in
theorem findA (p : ByteArray) (s : ByteArray) (w : World) (A : Nat) (cs : Nat → Nat → Value) (h : AB w A 2 cs) (h0 : cs 0 4 = .string p) (h1 : cs 1 4 = .string s) (k m : Int) (z : ByteArray)
    (HC : Hid (∀ wx, Below w.heap.size w wx → Calls Tryz.prog 194 #[.string p, .string s] wx fun e w' => e = .returned (VV k m z) ∧ Below wx.heap.size wx w')) :
    Calls Tryz.prog 193 #[.slice (some ⟨A, 0, none⟩) 2 2] w fun e w' => e = .returned (VV k m z) ∧ Below w.heap.size w w' := by
  have HQ : Hid (∀ w1, Below (w.alloc (.cells #[.int .i64 0, .int .i64 0, .string nul] 31)).heap.size (w.alloc (.cells #[.int .i64 0, .int .i64 0, .string nul] 31)) w1 → w1.heap[w.heap.size]? = some (.cells #[.int .i64 0, .int .i64 0, .string nul] 31 (0, 0)) ∧ Below w.heap.size w w1) := fun w1 hb =>
    ⟨(hb.block w.heap.size (by simp)).trans (heap_alloc_new w _), bnext ((Below.refl w.heap.size w).alloc (Nat.le_refl _) (.cells #[.int .i64 0, .int .i64 0, .string nul] 31)) hb (by simp)⟩
  have hA := h.below ((Below.refl _ _).alloc (Nat.le_refl _) (.cells #[.int .i64 0, .int .i64 0, .string nul] 31))
  have hlt := h.lt
  have kbel : ∀ wx wy, KO_findA p s w A cs wx → Below wx.heap.size wx wy → KO_findA p s w A cs wy := fun wx wy q hb => KO_findA.of h0 h1 (q.2.2.1.below hb) (bnext q.2.2.2 hb q.2.2.2.size)
  have kset : ∀ wx u0 u1 u2, KO_findA p s w A cs wx → KO_findA p s w A cs (((wx.setCell ⟨w.heap.size, 0, none⟩ u0).setCell ⟨w.heap.size, 1, none⟩ u1).setCell ⟨w.heap.size, 2, none⟩ u2) := fun wx u0 u1 u2 q => KO_findA.of h0 h1
    (by obtain ⟨arr, t, q1, q2⟩ := q.2.2.1; exact ⟨arr, t, (by rw [blk_else (by omega), blk_else (by omega), blk_else (by omega)]; exact q1), q2⟩) (((q.2.2.2.setCell (Nat.le_refl _) _).setCell (Nat.le_refl _) _).setCell (Nat.le_refl _) _)
  have hst : KO_findA p s w A cs (w.alloc (.cells #[.int .i64 0, .int .i64 0, .string nul] 31)) := KO_findA.of h0 h1 hA ((Below.refl _ _).alloc (Nat.le_refl _) _)
  have h0d := kbel _ _ hst (Below.refl _ _).drew
  have hb0 : Below (w.alloc (.cells #[.int .i64 0, .int .i64 0, .string nul] 31)).heap.size (w.alloc (.cells #[.int .i64 0, .int .i64 0, .string nul] 31)) (w.alloc (.cells #[.int .i64 0, .int .i64 0, .string nul] 31)).drew := (Below.refl _ _).drew
  obtain ⟨q0, q1, -, -⟩ := hst
  clear hA h
  go_enter Tryz.func193, Tryz.ntmps193
  go_wp2_with fail
  go_region_held3 (fun wx => KO_findA p s w A cs wx) (first | exact h0d | exact kbel _ _ (by assumption) (by assumption) | exact kset _ _ _ _ (by assumption)) (first | (go_at_call 194; refine (HC.out _ (by exact h0d.2.2.2)).mono ?_; rintro e w1 ⟨rfl, hb1⟩; obtain ⟨hq1, hb2⟩ := HQ.out w1 (bnext hb0 hb1 hb0.size); have HB : Hid (Below w.heap.size w w1) := hb2; obtain ⟨c0, c1, c2⟩ := cells3v hq1; have f0 : ∀ o, w1.frozen? ⟨w.heap.size, o, none⟩ = false := fun o => by simp [World.frozen?, hq1]))
  all_goals
    have HQ1 : Hid (w1.heap[w.heap.size]? = some (.cells #[.int .i64 0, .int .i64 0, .string nul] 31 (0, 0))) := hq1
    clear hq1 hb1 hb2 HQ h0d hb0 kbel kset HC
    go_wp2_with fail
    refine fin3 HQ1.out (Q := bodyPost _ _ _ _ _) ?_
    clear c0 c1 c2 f0
    intro w2 hq2 hk2
    obtain ⟨d0, d1, d2⟩ := cells3v hq2
    exact bodyPost_ret (v := VV k m z) (by simp [results, Tryz.results193, go_sem, d0, d1, d2]) rfl ⟨rfl, HB.out.trans (hk2 _ (Nat.le_refl _))⟩
abbrev KO_exactA (s : ByteArray) (w : World) (A : Nat) (cs : Nat → Nat → Value) (wx : World) : Prop := wx.cell? ⟨A, 4, none⟩ = some (.string s) ∧ wx.cell? ⟨A, 14, none⟩ = some (.string s) ∧ AB wx A 2 cs ∧ Below w.heap.size w wx
theorem KO_exactA.of {s : ByteArray} {w : World} {A : Nat} {cs : Nat → Nat → Value} {wx : World} (h0 : cs 0 4 = .string s) (h1 : cs 1 4 = .string s) (h : AB wx A 2 cs) (hb : Below w.heap.size w wx) : KO_exactA s w A cs wx := ⟨by have := h.cell (i := 0) (j := 4) (by omega) (by omega); rw [h0] at this; simpa using this, by have := h.cell (i := 1) (j := 4) (by omega) (by omega); rw [h1] at this; simpa using this, h, hb⟩
set_option maxHeartbeats 1600000 in
theorem exactA (s : ByteArray) (w : World) (A : Nat) (cs : Nat → Nat → Value) (h : AB w A 2 cs) (h0 : cs 0 4 = .string s) (h1 : cs 1 4 = .string s) (k m : Int) (z : ByteArray)
    (HC : Hid (∀ wx, Below w.heap.size w wx → Calls Tryz.prog 46 #[.bool true] wx fun e w' => e = .returned (VV k m z) ∧ Below wx.heap.size wx w')) :
    Calls Tryz.prog 197 #[.slice (some ⟨A, 0, none⟩) 2 2] w fun e w' => e = .returned (VV k m z) ∧ Below w.heap.size w w' := by
  have HQ : Hid (∀ w1, Below (w.alloc (.cells #[.int .i64 0, .int .i64 0, .string nul] 31)).heap.size (w.alloc (.cells #[.int .i64 0, .int .i64 0, .string nul] 31)) w1 → w1.heap[w.heap.size]? = some (.cells #[.int .i64 0, .int .i64 0, .string nul] 31 (0, 0)) ∧ Below w.heap.size w w1) := fun w1 hb =>
    ⟨(hb.block w.heap.size (by simp)).trans (heap_alloc_new w _), bnext ((Below.refl w.heap.size w).alloc (Nat.le_refl _) (.cells #[.int .i64 0, .int .i64 0, .string nul] 31)) hb (by simp)⟩
  have hA := h.below ((Below.refl _ _).alloc (Nat.le_refl _) (.cells #[.int .i64 0, .int .i64 0, .string nul] 31))
  have hlt := h.lt
  have kbel : ∀ wx wy, KO_exactA s w A cs wx → Below wx.heap.size wx wy → KO_exactA s w A cs wy := fun wx wy q hb => KO_exactA.of h0 h1 (q.2.2.1.below hb) (bnext q.2.2.2 hb q.2.2.2.size)
  have kset : ∀ wx u0 u1 u2, KO_exactA s w A cs wx → KO_exactA s w A cs (((wx.setCell ⟨w.heap.size, 0, none⟩ u0).setCell ⟨w.heap.size, 1, none⟩ u1).setCell ⟨w.heap.size, 2, none⟩ u2) := fun wx u0 u1 u2 q => KO_exactA.of h0 h1
    (by obtain ⟨arr, t, q1, q2⟩ := q.2.2.1; exact ⟨arr, t, (by rw [blk_else (by omega), blk_else (by omega), blk_else (by omega)]; exact q1), q2⟩) (((q.2.2.2.setCell (Nat.le_refl _) _).setCell (Nat.le_refl _) _).setCell (Nat.le_refl _) _)
  have hst : KO_exactA s w A cs (w.alloc (.cells #[.int .i64 0, .int .i64 0, .string nul] 31)) := KO_exactA.of h0 h1 hA ((Below.refl _ _).alloc (Nat.le_refl _) _)
  have h0d := kbel _ _ hst (Below.refl _ _).drew
  have hb0 : Below (w.alloc (.cells #[.int .i64 0, .int .i64 0, .string nul] 31)).heap.size (w.alloc (.cells #[.int .i64 0, .int .i64 0, .string nul] 31)) (w.alloc (.cells #[.int .i64 0, .int .i64 0, .string nul] 31)).drew := (Below.refl _ _).drew
  obtain ⟨q0, q1, -, -⟩ := hst
  clear hA h
  go_enter Tryz.func197, Tryz.ntmps197
  go_wp2_with fail
  go_region_held3 (fun wx => KO_exactA s w A cs wx) (first | exact h0d | exact kbel _ _ (by assumption) (by assumption) | exact kset _ _ _ _ (by assumption)) (first | (go_at_call 46; refine (HC.out _ (by exact h0d.2.2.2)).mono ?_; rintro e w1 ⟨rfl, hb1⟩; obtain ⟨hq1, hb2⟩ := HQ.out w1 (bnext hb0 hb1 hb0.size); have HB : Hid (Below w.heap.size w w1) := hb2; obtain ⟨c0, c1, c2⟩ := cells3v hq1; have f0 : ∀ o, w1.frozen? ⟨w.heap.size, o, none⟩ = false := fun o => by simp [World.frozen?, hq1]))
  all_goals
    have HQ1 : Hid (w1.heap[w.heap.size]? = some (.cells #[.int .i64 0, .int .i64 0, .string nul] 31 (0, 0))) := hq1
    clear hq1 hb1 hb2 HQ h0d hb0 kbel kset HC
    go_wp2_with fail
    refine fin3 HQ1.out (Q := bodyPost _ _ _ _ _) ?_
    clear c0 c1 c2 f0
    intro w2 hq2 hk2
    obtain ⟨d0, d1, d2⟩ := cells3v hq2
    exact bodyPost_ret (v := VV k m z) (by simp [results, Tryz.results197, go_sem, d0, d1, d2]) rfl ⟨rfl, HB.out.trans (hk2 _ (Nat.le_refl _))⟩
end Go.Proofs.YtoaejcppfmjhdaaGreatDoor.ev
