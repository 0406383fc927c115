
/- Package eval: sums of numbers. Conditions: as each theorem says. -/
import Derived.Test.YtbiikodnfaeceaaGreatDoorSw
import Derived.Test.YtbiikodnfaeceaaGreatDoorSe
import Derived.RangeFuncNested
namespace Go.Proofs.YtbiikodnfaeceaaGreatDoor.so
open Go.RowKit Go.Shelf
abbrev ptr (b : Nat) : Value := .pointer (some ⟨b, 0, none⟩)
theorem vbad_any (n : Int) (w : World) : Calls Tryz.prog 110 #[.int .i64 n] w fun e w' => e = .returned (V 4 n nul) ∧ Below w.heap.size w w' := by
  go_enter Tryz.func110, Tryz.ntmps110
  go_wp2
  exact bodyPost_ret (v := V 4 n nul) (by simp [results, Tryz.results110, go_sem]) rfl ⟨rfl, (Below.refl _ _).alloc (Nat.le_refl _) _⟩
theorem vnum_any (n : Int) (w : World) : Calls Tryz.prog 108 #[.int .i64 n] w fun e w' => e = .returned (V 1 n nul) ∧ Below w.heap.size w w' := by
  go_enter Tryz.func108, Tryz.ntmps108
  go_wp2
  exact bodyPost_ret (v := V 1 n nul) (by simp [results, Tryz.results108, go_sem]) rfl ⟨rfl, (Below.refl _ _).alloc (Nat.le_refl _) _⟩
theorem enum_any (n : Int) (w : World) : Calls Tryz.prog 77 #[.int .i64 n] w fun e w' => e = .returned (V 1 n nul) ∧ Below w.heap.size w w' := by
  go_enter Tryz.func77, Tryz.ntmps77
  go_wp2
  exact bodyPost_ret (v := V 1 n nul) (by simp [results, Tryz.results77, go_sem]) rfl ⟨rfl, (Below.refl _ _).alloc (Nat.le_refl _) _⟩
theorem isBad_any (k n : Int) (s : ByteArray) (w : World) : Calls Tryz.prog 107 #[V k n s] w fun e w' => e = .returned (.bool (k == 4)) ∧ Below w.heap.size w w' := by
  go_enter Tryz.func107, Tryz.ntmps107
  go_wp2_with fail
  go_ret
  exact ⟨rfl, (Below.refl _ _).alloc (Nat.le_refl _) _⟩
theorem oblk_else {w : World} {b o i : Nat} {u : Value} (hi : i ≠ b) : (w.setCell ⟨b, o, none⟩ u).heap[i]? = w.heap[i]? := by
  show (w.heap.modify b _)[i]? = _
  rw [Array.getElem?_modify, if_neg (Ne.symm hi)]
theorem ofin3 {w : World} {b : Nat} {a0 a1 a2 u0 u1 u2 : Value} {t : TypeId} (h : w.heap[b]? = some (.cells #[a0, a1, a2] t (0, 0))) {Q : World → Prop}
    (hq : ∀ w2, w2.heap[b]? = some (.cells #[u0, u1, u2] t (0, 0)) → (∀ B, B ≤ b → Below B w w2) → Q w2) : Q (((w.setCell ⟨b, 0, none⟩ u0).setCell ⟨b, 1, none⟩ u1).setCell ⟨b, 2, none⟩ u2) := by
  have h0 : (w.setCell ⟨b, 0, none⟩ u0).heap[b]? = some (.cells #[u0, a1, a2] t (0, 0)) := by rw [blk_set3 h]; rfl
  have h1 : ((w.setCell ⟨b, 0, none⟩ u0).setCell ⟨b, 1, none⟩ u1).heap[b]? = some (.cells #[u0, u1, a2] t (0, 0)) := by rw [blk_set3 h0]; rfl
  have h2 : (((w.setCell ⟨b, 0, none⟩ u0).setCell ⟨b, 1, none⟩ u1).setCell ⟨b, 2, none⟩ u2).heap[b]? = some (.cells #[u0, u1, u2] t (0, 0)) := by rw [blk_set3 h1]; rfl
  exact hq _ h2 (fun B hB => (((Below.refl _ _).setCell hB _).setCell hB _).setCell hB _)
theorem ocells3 {w : World} {b : Nat} {a0 a1 a2 : Value} {t : TypeId} (h : w.heap[b]? = some (.cells #[a0, a1, a2] t (0, 0))) : w.cell? ⟨b, 0, none⟩ = some a0 ∧ w.cell? ⟨b, 1, none⟩ = some a1 ∧ w.cell? ⟨b, 2, none⟩ = some a2 := by simp [World.cell?, h]
theorem ofrz {w : World} {b : Nat} {cs : Array Value} {t : TypeId} (h : w.heap[b]? = some (.cells cs t (0, 0))) (o : Nat) : w.frozen? ⟨b, o, none⟩ = false := by simp [World.frozen?, h]
theorem oset3 {w : World} {b : Nat} {a0 a1 a2 : Value} {t : TypeId} (h : w.heap[b]? = some (.cells #[a0, a1, a2] t (0, 0))) (u0 u1 u2 : Value) :
    ∃ w2, ((w.setCell ⟨b, 0, none⟩ u0).setCell ⟨b, 1, none⟩ u1).setCell ⟨b, 2, none⟩ u2 = w2 ∧ w2.heap[b]? = some (.cells #[u0, u1, u2] t (0, 0)) ∧ (∀ B, B ≤ b → Below B w w2) ∧ (∀ i, i ≠ b → w2.heap[i]? = w.heap[i]?) ∧ KeepsOthers w w2 := by
  have h0 : (w.setCell ⟨b, 0, none⟩ u0).heap[b]? = some (.cells #[u0, a1, a2] t (0, 0)) := by rw [blk_set3 h]; rfl
  have h1 : ((w.setCell ⟨b, 0, none⟩ u0).setCell ⟨b, 1, none⟩ u1).heap[b]? = some (.cells #[u0, u1, a2] t (0, 0)) := by rw [blk_set3 h0]; rfl
  have h2 : (((w.setCell ⟨b, 0, none⟩ u0).setCell ⟨b, 1, none⟩ u1).setCell ⟨b, 2, none⟩ u2).heap[b]? = some (.cells #[u0, u1, u2] t (0, 0)) := by rw [blk_set3 h1]; rfl
  exact ⟨_, rfl, h2, fun B hB => (((Below.refl _ _).setCell hB _).setCell hB _).setCell hB _, fun i hi => by rw [oblk_else hi, oblk_else hi, oblk_else hi], ((KeepsOthers.setCell _ _ _).trans (KeepsOthers.setCell _ _ _)).trans (KeepsOthers.setCell _ _ _)⟩
/-- Two blocks made one behind the other. -/
theorem two_new (w : World) (a b : Obj) : ((w.alloc a).alloc b).heap[w.heap.size]? = some a ∧ ((w.alloc a).alloc b).heap[w.heap.size + 1]? = some b := by
  refine ⟨?_, ?_⟩
  · exact (((Below.refl (w.heap.size + 1) _).alloc (by simp) _).block w.heap.size (by omega)).trans (heap_alloc_new w _)
  · rw [show w.heap.size + 1 = (w.alloc a).heap.size by simp]
    exact heap_alloc_new _ _
set_option maxHeartbeats 1600000 in
theorem num3 (k : Int) (h3 : (k == 1) = true) (n : Int) (s : ByteArray) (w : World) : Calls Tryz.prog 76 #[V k n s] w fun e w' => e = .returned (V k n s) ∧ Below w.heap.size w w' := by
  obtain ⟨hA, hR⟩ := two_new w (.cells #[.int .i64 k, .int .i64 n, .string s] 36) (.cells #[.int .i64 0, .int .i64 0, .string nul] 36)
  have hbW : Below w.heap.size w ((w.alloc (.cells #[.int .i64 k, .int .i64 n, .string s] 36)).alloc (.cells #[.int .i64 0, .int .i64 0, .string nul] 36)) := ((Below.refl _ _).alloc (Nat.le_refl _) _).alloc (by simp) _
  obtain ⟨W, hW⟩ : ∃ W, (w.alloc (.cells #[.int .i64 k, .int .i64 n, .string s] 36)).alloc (.cells #[.int .i64 0, .int .i64 0, .string nul] 36) = W := ⟨_, rfl⟩
  have hAA := hA
  rw [hW] at hAA hR hbW
  obtain ⟨a0, a1, a2⟩ := ocells3 hA
  have HBW : Hid (Below w.heap.size w W) := hbW
  have HRW : Hid (W.heap[w.heap.size + 1]? = some (.cells #[.int .i64 0, .int .i64 0, .string nul] 36 (0, 0))) := hR
  have HWW : Hid ((w.alloc (.cells #[.int .i64 k, .int .i64 n, .string s] 36)).alloc (.cells #[.int .i64 0, .int .i64 0, .string nul] 36) = W) := hW
  clear hA hAA hR hW hbW
  have HQ : Hid (((w.alloc (.cells #[.int .i64 k, .int .i64 n, .string s] 36)).alloc (.cells #[.int .i64 0, .int .i64 0, .string nul] 36)).heap[w.heap.size + 1]? = some (.cells #[.int .i64 0, .int .i64 0, .string nul] 36 (0, 0))) := by rw [HWW.out]; exact HRW.out
  have HB : Hid (Below w.heap.size w ((w.alloc (.cells #[.int .i64 k, .int .i64 n, .string s] 36)).alloc (.cells #[.int .i64 0, .int .i64 0, .string nul] 36))) := by rw [HWW.out]; exact HBW.out
  clear HBW HRW HWW
  go_enter Tryz.func76, Tryz.ntmps76
  go_wp2_with fail
  exact bodyPost_ret (v := V k n s) (by simp [results, Tryz.results76, go_sem]) rfl ⟨rfl, by (repeat (first | exact Below.refl _ _ | assumption | (refine Below.setCell ?_ (by first | omega | (simp <;> omega)) _) | (refine Below.alloc ?_ (by first | omega | (simp <;> omega)) _)))⟩
set_option maxHeartbeats 1600000 in
theorem num4 (k : Int) (h3 : (k == 1) = false) (h4 : (k == 4) = true) (n : Int) (s : ByteArray) (w : World) : Calls Tryz.prog 76 #[V k n s] w fun e w' => e = .returned (V k n s) ∧ Below w.heap.size w w' := by
  obtain ⟨hA, hR⟩ := two_new w (.cells #[.int .i64 k, .int .i64 n, .string s] 36) (.cells #[.int .i64 0, .int .i64 0, .string nul] 36)
  have hbW : Below w.heap.size w ((w.alloc (.cells #[.int .i64 k, .int .i64 n, .string s] 36)).alloc (.cells #[.int .i64 0, .int .i64 0, .string nul] 36)) := ((Below.refl _ _).alloc (Nat.le_refl _) _).alloc (by simp) _
  obtain ⟨W, hW⟩ : ∃ W, (w.alloc (.cells #[.int .i64 k, .int .i64 n, .string s] 36)).alloc (.cells #[.int .i64 0, .int .i64 0, .string nul] 36) = W := ⟨_, rfl⟩
  have hAA := hA
  rw [hW] at hAA hR hbW
  obtain ⟨a0, a1, a2⟩ := ocells3 hA
  have HBW : Hid (Below w.heap.size w W) := hbW
  have HRW : Hid (W.heap[w.heap.size + 1]? = some (.cells #[.int .i64 0, .int .i64 0, .string nul] 36 (0, 0))) := hR
  have HWW : Hid ((w.alloc (.cells #[.int .i64 k, .int .i64 n, .string s] 36)).alloc (.cells #[.int .i64 0, .int .i64 0, .string nul] 36) = W) := hW
  clear hA hAA hR hW hbW
  have HQ : Hid (((w.alloc (.cells #[.int .i64 k, .int .i64 n, .string s] 36)).alloc (.cells #[.int .i64 0, .int .i64 0, .string nul] 36)).heap[w.heap.size + 1]? = some (.cells #[.int .i64 0, .int .i64 0, .string nul] 36 (0, 0))) := by rw [HWW.out]; exact HRW.out
  have HB : Hid (Below w.heap.size w ((w.alloc (.cells #[.int .i64 k, .int .i64 n, .string s] 36)).alloc (.cells #[.int .i64 0, .int .i64 0, .string nul] 36))) := by rw [HWW.out]; exact HBW.out
  clear HBW HRW HWW
  go_enter Tryz.func76, Tryz.ntmps76
  go_wp2_with fail
  exact bodyPost_ret (v := V k n s) (by simp [results, Tryz.results76, go_sem]) rfl ⟨rfl, by (repeat (first | exact Below.refl _ _ | assumption | (refine Below.setCell ?_ (by first | omega | (simp <;> omega)) _) | (refine Below.alloc ?_ (by first | omega | (simp <;> omega)) _)))⟩
def inR (z : Int) : Bool := decide (-9223372036854775808 ≤ z) && decide (z ≤ 9223372036854775807)
def fK (z : Int) : Int := if inR z = true then 1 else 4
def fN (z : Int) : Int := if inR z = true then z else 5
theorem f_yes {z : Int} (h : inR z = true) : fK z = 1 ∧ fN z = z := by unfold fK fN; rw [if_pos h, if_pos h]; exact ⟨rfl, rfl⟩
theorem f_no {z : Int} (h : inR z = false) : fK z = 4 ∧ fN z = 5 := by unfold fK fN; rw [if_neg (by simp [h]), if_neg (by simp [h])]; exact ⟨rfl, rfl⟩
theorem inR_iff {z : Int} : inR z = true ↔ -9223372036854775808 ≤ z ∧ z ≤ 9223372036854775807 := by unfold inR; simp
abbrev B64 (n : Int) : Prop := -9223372036854775808 ≤ n ∧ n ≤ 9223372036854775807
theorem add_wrong {x y : Int} (hx : B64 x) (hy : B64 y) (h : inR (x + y) = false) : (y < 0 ∧ ¬ wrap64 (x + y) < x) ∨ (¬ y < 0 ∧ wrap64 (x + y) < x) := by
  have h' : ¬ (-9223372036854775808 ≤ x + y ∧ x + y ≤ 9223372036854775807) := by rw [← inR_iff, h]; simp
  by_cases g : 9223372036854775807 < x + y
  · right; rw [show wrap64 (x + y) = x + y - 18446744073709551616 by unfold wrap64; omega]; omega
  · left; rw [show wrap64 (x + y) = x + y + 18446744073709551616 by unfold wrap64; omega]; omega
set_option maxHeartbeats 1600000 in
theorem padd (x y : Int) (w : World) (hx : B64 x) (hy : B64 y) : Calls Tryz.prog 112 #[.int .i64 x, .int .i64 y] w fun e w' => e = .returned (V (fK (x + y)) (fN (x + y)) nul) ∧ Below w.heap.size w w' := by
  cases h : inR (x + y) with
  | true =>
    rw [(f_yes h).1, (f_yes h).2]
    obtain ⟨h1, h2⟩ := inR_iff.1 h
    obtain ⟨hx1, hx2⟩ := hx
    obtain ⟨hy1, hy2⟩ := hy
    clear h
    by_cases c : y < 0
    · have c2 : x + y < x := by omega
      go_enter Tryz.func112, Tryz.ntmps112
      go_wp2_with (first | (go_at_call 108; refine (vnum_any _ _).mono ?_; rintro e w1 ⟨rfl, hb⟩; obtain ⟨hc, hf⟩ := bcell hb) | (go_at_call 110; refine (vbad_any _ _).mono ?_; rintro e w1 ⟨rfl, hb⟩; obtain ⟨hc, hf⟩ := bcell hb))
      exact bodyPost_ret (v := V 1 (x + y) nul) (by simp [results, Tryz.results112, go_sem, hc]) rfl ⟨rfl, by (repeat (first | exact Below.refl _ _ | assumption | (refine Below.setCell ?_ (by first | omega | (simp <;> omega)) _) | (refine Below.alloc ?_ (by first | omega | (simp <;> omega)) _) | (refine Below.drew ?_) | (refine Below.trans ?_ (Below.mono (by assumption) (by first | omega | (simp <;> omega))))))⟩
    · have c2 : ¬ x + y < x := by omega
      go_enter Tryz.func112, Tryz.ntmps112
      go_wp2_with (first | (go_at_call 108; refine (vnum_any _ _).mono ?_; rintro e w1 ⟨rfl, hb⟩; obtain ⟨hc, hf⟩ := bcell hb) | (go_at_call 110; refine (vbad_any _ _).mono ?_; rintro e w1 ⟨rfl, hb⟩; obtain ⟨hc, hf⟩ := bcell hb))
      exact bodyPost_ret (v := V 1 (x + y) nul) (by simp [results, Tryz.results112, go_sem, hc]) rfl ⟨rfl, by (repeat (first | exact Below.refl _ _ | assumption | (refine Below.setCell ?_ (by first | omega | (simp <;> omega)) _) | (refine Below.alloc ?_ (by first | omega | (simp <;> omega)) _) | (refine Below.drew ?_) | (refine Below.trans ?_ (Below.mono (by assumption) (by first | omega | (simp <;> omega))))))⟩
  | false =>
    rw [(f_no h).1, (f_no h).2]
    rcases add_wrong hx hy h with ⟨c, c2⟩ | ⟨c, c2⟩
    all_goals
      clear h hx hy
      go_enter Tryz.func112, Tryz.ntmps112
      go_wp2_with (first | (go_at_call 108; refine (vnum_any _ _).mono ?_; rintro e w1 ⟨rfl, hb⟩; obtain ⟨hc, hf⟩ := bcell hb) | (go_at_call 110; refine (vbad_any _ _).mono ?_; rintro e w1 ⟨rfl, hb⟩; obtain ⟨hc, hf⟩ := bcell hb))
      exact bodyPost_ret (v := V 4 5 nul) (by simp [results, Tryz.results112, go_sem, hc]) rfl ⟨rfl, by (repeat (first | exact Below.refl _ _ | assumption | (refine Below.setCell ?_ (by first | omega | (simp <;> omega)) _) | (refine Below.alloc ?_ (by first | omega | (simp <;> omega)) _) | (refine Below.drew ?_) | (refine Below.trans ?_ (Below.mono (by assumption) (by first | omega | (simp <;> omega))))))⟩
theorem num14 (k : Int) (h : k = 1 ∨ k = 4) (n : Int) (s : ByteArray) (w : World) : Calls Tryz.prog 76 #[V k n s] w fun e w' => e = .returned (V k n s) ∧ Below w.heap.size w w' := by
  rcases h with rfl | rfl
  · exact num3 1 (by decide) n s w
  · exact num4 4 (by decide) (by decide) n s w
/-- The sum of two that are numbers, or bad. -/
def t8 (a b : Vl) : Vl := if (a.k == 4) = true then a else if (b.k == 4) = true then b else ⟨fK (a.n + b.n), fN (a.n + b.n), nul⟩
theorem t8_a {k n : Int} {s : ByteArray} {b : Vl} (h : (k == 4) = true) : t8 ⟨k, n, s⟩ b = ⟨k, n, s⟩ := by unfold t8; rw [if_pos h]
theorem t8_b {k n k' n' : Int} {s s' : ByteArray} (h : (k == 4) = false) (h' : (k' == 4) = true) : t8 ⟨k, n, s⟩ ⟨k', n', s'⟩ = ⟨k', n', s'⟩ := by unfold t8; rw [if_neg (by simp [h]), if_pos h']
theorem t8_c {k n k' n' : Int} {s s' : ByteArray} (h : (k == 4) = false) (h' : (k' == 4) = false) : t8 ⟨k, n, s⟩ ⟨k', n', s'⟩ = ⟨fK (n + n'), fN (n + n'), nul⟩ := by unfold t8; rw [if_neg (by simp [h]), if_neg (by simp [h'])]
theorem ms_alloc {w wx : World} {k n : Int} {s : ByteArray} {k' n' : Int} {s' : ByteArray} (h : MS w k n s k' n' s' wx) (o : Obj) : MS w k n s k' n' s' (wx.alloc o) := h.next ((Below.refl _ _).alloc (Nat.le_refl _) _)
theorem ms_setA {w wx : World} {k n : Int} {s : ByteArray} {k' n' : Int} {s' : ByteArray} (h : MS w k n s k' n' s' wx) (u v : Int) (t : ByteArray) : MS w u v t k' n' s' (((wx.setCell ⟨w.heap.size, 0, none⟩ (.int .i64 u)).setCell ⟨w.heap.size, 1, none⟩ (.int .i64 v)).setCell ⟨w.heap.size, 2, none⟩ (.string t)) :=
  ⟨set3 h.a, by rw [Below.heap_setCell _ _ _ _ (by simp), Below.heap_setCell _ _ _ _ (by simp), Below.heap_setCell _ _ _ _ (by simp)]; exact h.b, by rw [Below.heap_setCell _ _ _ _ (by simp), Below.heap_setCell _ _ _ _ (by simp), Below.heap_setCell _ _ _ _ (by simp)]; exact h.res, h.below.trans (below3 (Nat.le_refl _))⟩
theorem ms_setB {w wx : World} {k n : Int} {s : ByteArray} {k' n' : Int} {s' : ByteArray} (h : MS w k n s k' n' s' wx) (u v : Int) (t : ByteArray) : MS w k n s u v t (((wx.setCell ⟨w.heap.size + 1, 0, none⟩ (.int .i64 u)).setCell ⟨w.heap.size + 1, 1, none⟩ (.int .i64 v)).setCell ⟨w.heap.size + 1, 2, none⟩ (.string t)) :=
  ⟨by rw [Below.heap_setCell _ _ _ _ (by simp), Below.heap_setCell _ _ _ _ (by simp), Below.heap_setCell _ _ _ _ (by simp)]; exact h.a, set3 h.b, by rw [Below.heap_setCell _ _ _ _ (by simp), Below.heap_setCell _ _ _ _ (by simp), Below.heap_setCell _ _ _ _ (by simp)]; exact h.res, h.below.trans (below3 (by omega))⟩
set_option maxRecDepth 100000 in
set_option maxHeartbeats 8000000 in
theorem ofAdd (k n : Int) (s : ByteArray) (k' n' : Int) (s' : ByteArray) (w : World) (hk : k = 1 ∨ k = 4) (hk' : k' = 1 ∨ k' = 4) (hx : B64 n) (hy : B64 n') :
    Calls Tryz.prog 111 #[V k n s, V k' n' s', .func (.func 112) #[] #[]] w fun e w' => e = .returned (V (t8 ⟨k, n, s⟩ ⟨k', n', s'⟩).k (t8 ⟨k, n, s⟩ ⟨k', n', s'⟩).n (t8 ⟨k, n, s⟩ ⟨k', n', s'⟩).s) ∧ Below w.heap.size w w' := by
  have hS := MS.start w k n s k' n' s'
  have HK : Hid (k = 1 ∨ k = 4) := hk
  have HK' : Hid (k' = 1 ∨ k' = 4) := hk'
  have HF : Hid (∀ wx, Calls Tryz.prog 112 #[.int .i64 n, .int .i64 n'] wx fun e w' => e = .returned (V (fK (n + n')) (fN (n + n')) nul) ∧ Below wx.heap.size wx w') := fun wx => padd n n' wx hx hy
  obtain ⟨R, hR⟩ : ∃ R, t8 ⟨k, n, s⟩ ⟨k', n', s'⟩ = R := ⟨_, rfl⟩
  have HR : Hid (t8 ⟨k, n, s⟩ ⟨k', n', s'⟩ = R) := hR
  rw [hR]
  clear hR hk hk' hx hy
  go_enter Tryz.func111, Tryz.ntmps111
  go_upto_region 1 with fail
  go_cut [7] (fun s7 wx => ∃ b7, s7 = ptr b7 ∧ wx.heap[b7]? = some (O3 k n s) ∧ MS w k n s k' n' s' wx)
  case first =>
    obtain ⟨⟨o0, o1, o2⟩, p0, p1, p2⟩ := cells3 hS.a
    go_wp2_with fail
    refine (num14 k HK.out n s _).mono ?_
    rintro e w1 ⟨rfl, q1⟩
    replace hS := hS.next q1
    go_wp2_with fail
    go_meet
    case rel => exact ⟨_, rfl, hat _ _ _ rfl, ms_alloc hS _⟩
  case rest =>
  clear hS
  obtain ⟨b7, rfl, h7, hS⟩ := hcut
  cases b4 : (k == 4) with
  | true =>
    obtain ⟨⟨o0, o1, o2⟩, p0, p1, p2⟩ := cells3 hS.res
    obtain ⟨⟨e0, e1, e2⟩, f0, f1, f2⟩ := cells3 h7
    have hB := hS.below
    go_wp2_with fail
    exact bodyPost_ret (v := V k n s) (by simp [results, Tryz.results111, go_sem, o0, o1, o2]) rfl ⟨by rw [← HR.out, t8_a b4], hB.trans (below3 (by omega))⟩
  | false =>
  go_upto_region 2 with fail
  go_cut [13] (fun s13 wx => s13 = .bool false ∧ wx = wc)
  case first =>
    obtain ⟨⟨e0, e1, e2⟩, f0, f1, f2⟩ := cells3 h7
    go_wp2_with fail
    go_meet
    case rel => exact ⟨rfl, rfl⟩
  case rest =>
  obtain ⟨rfl, rfl⟩ := hcut
  go_upto_region 4 with fail
  go_cut [8] (fun s8 wx => ∃ b8, s8 = ptr b8 ∧ wx.heap[b8]? = some (O3 k' n' s') ∧ wx.heap[b7]? = some (O3 k n s) ∧ MS w k n s k' n' s' wx)
  case first =>
    obtain ⟨⟨o0, o1, o2⟩, p0, p1, p2⟩ := cells3 hS.b
    go_wp2_with fail
    refine (num14 k' HK'.out n' s' _).mono ?_
    rintro e w1 ⟨rfl, q1⟩
    replace hS := hS.next q1
    replace h7 := bk h7 q1
    go_wp2_with fail
    go_meet
    case rel => exact ⟨_, rfl, hat _ _ _ rfl, bkA h7 _, ms_alloc hS _⟩
  case rest =>
  clear hS h7
  obtain ⟨b8, rfl, h8, h7, hS⟩ := hcut
  obtain ⟨⟨e0, e1, e2⟩, f0, f1, f2⟩ := cells3 h8
  obtain ⟨⟨g0, g1, g2⟩, i0, i1, i2⟩ := cells3 h7
  cases b5 : (k' == 4) with
  | true =>
    obtain ⟨⟨o0, o1, o2⟩, p0, p1, p2⟩ := cells3 hS.res
    have hB := hS.below
    go_wp2_with fail
    exact bodyPost_ret (v := V k' n' s') (by simp [results, Tryz.results111, go_sem, o0, o1, o2]) rfl ⟨by rw [← HR.out, t8_b b4 b5], hB.trans (below3 (by omega))⟩
  | false =>
    go_wp2_with fail
    refine (HF.out _).mono ?_
    rintro e w1 ⟨rfl, q1⟩
    replace hS := hS.next q1
    obtain ⟨⟨o0, o1, o2⟩, p0, p1, p2⟩ := cells3 hS.res
    have hB := hS.below
    go_wp2_with fail
    exact bodyPost_ret (v := V (fK (n + n')) (fN (n + n')) nul) (by simp [results, Tryz.results111, go_sem, o0, o1, o2]) rfl ⟨by rw [← HR.out, t8_c b4 b5], hB.trans (below3 (by omega))⟩
set_option maxRecDepth 100000 in
set_option maxHeartbeats 8000000 in
theorem ptwo8 (k n : Int) (s : ByteArray) (k' n' : Int) (s' : ByteArray) (w : World) (hk : k = 1 ∨ k = 4) (hk' : k' = 1 ∨ k' = 4) (hx : B64 n) (hy : B64 n') :
    Calls Tryz.prog 78 #[.int .i64 8, V k n s, V k' n' s'] w fun e w' => e = .returned (V (t8 ⟨k, n, s⟩ ⟨k', n', s'⟩).k (t8 ⟨k, n, s⟩ ⟨k', n', s'⟩).n (t8 ⟨k, n, s⟩ ⟨k', n', s'⟩).s) ∧ Below w.heap.size w w' := by
  have HC : Hid (∀ wx, Calls Tryz.prog 111 #[V k n s, V k' n' s', .func (.func 112) #[] #[]] wx fun e w' => e = .returned (V (t8 ⟨k, n, s⟩ ⟨k', n', s'⟩).k (t8 ⟨k, n, s⟩ ⟨k', n', s'⟩).n (t8 ⟨k, n, s⟩ ⟨k', n', s'⟩).s) ∧ Below wx.heap.size wx w') := fun wx => ofAdd k n s k' n' s' wx hk hk' hx hy
  generalize t8 ⟨k, n, s⟩ ⟨k', n', s'⟩ = R at *
  obtain ⟨rk, rn, rs⟩ := R
  have hS := MS.start w k n s k' n' s'
  clear hk hk' hx hy
  dsimp only at HC ⊢
  go_enter Tryz.func78, Tryz.ntmps78
  go_wp2_with fail
  refine (HC.out _).mono ?_
  rintro e w1 ⟨rfl, q1⟩
  replace hS := hS.next q1
  obtain ⟨⟨r0, r1, r2⟩, t0, t1, t2⟩ := cells3 hS.res
  have hB := hS.below
  go_wp2_with fail
  exact bodyPost_ret (v := V rk rn rs) (by simp [results, Tryz.results78, go_sem, r0, r1, r2]) rfl ⟨rfl, hB.trans (below3 (by omega))⟩
/-- The sum of some numbers, as long as it fits. -/
def sumL (l : List Int) : Vl := l.foldl (fun t n => t8 t ⟨1, n, nul⟩) ⟨1, 0, nul⟩
def Ok3 (a : Vl) : Prop := (a.k = 1 ∨ a.k = 4) ∧ B64 a.n
theorem t8_ok {a b : Vl} (ha : Ok3 a) (hb : Ok3 b) : Ok3 (t8 a b) := by
  unfold t8
  split
  · exact ha
  · split
    · exact hb
    · cases h : inR (a.n + b.n) with
      | true => unfold Ok3; rw [(f_yes h).1, (f_yes h).2]; exact ⟨.inl rfl, inR_iff.1 h⟩
      | false => unfold Ok3; rw [(f_no h).1, (f_no h).2]; exact ⟨.inr rfl, by show (-9223372036854775808 : Int) ≤ 5; omega, by show (5 : Int) ≤ 9223372036854775807; omega⟩
theorem fold_ok : ∀ (l : List Int) (t : Vl), Ok3 t → (∀ n ∈ l, B64 n) → Ok3 (l.foldl (fun t n => t8 t ⟨1, n, nul⟩) t)
  | [], t, h, _ => h
  | n :: l, t, h, hl => fold_ok l _ (t8_ok h ⟨.inl rfl, hl n (by simp)⟩) (fun m hm => hl m (by simp [hm]))
theorem sumL_ok (l : List Int) (h : ∀ n ∈ l, B64 n) : Ok3 (sumL l) := fold_ok l _ ⟨.inl rfl, by decide, by decide⟩ h
theorem sumL_snoc (l : List Int) (n : Int) : sumL (l ++ [n]) = t8 (sumL l) ⟨1, n, nul⟩ := by simp [sumL]
theorem take_snocI (l : List Int) (j : Nat) (h : j < l.length) : l.take (j + 1) = l.take j ++ [l.getD j 0] := by
  rw [List.take_succ_eq_append_getElem h]; simp [h]
set_option maxRecDepth 100000 in
set_option maxHeartbeats 4000000 in
theorem sum_row (F : Nat → Vl) (f : Nat → Int) (g n cap : Nat) (w : World) (hg : g < w.heap.size) (hl : n ≤ 1000000) (HC : Hid (∀ i, i < n → w.cell? ⟨g, i, none⟩ = some (.int .i64 (f i)))) (h0 : F 0 = ⟨1, 0, nul⟩)
    (HT : Hid (∀ (j : Nat) wx, j < n → Calls Tryz.prog 78 #[.int .i64 8, V (F j).k (F j).n (F j).s, V 1 (f j) nul] wx fun e w' => e = .returned (V (F (j + 1)).k (F (j + 1)).n (F (j + 1)).s) ∧ Below wx.heap.size wx w')) :
    Calls Tryz.prog 53 #[.slice (some ⟨g, 0, none⟩) n cap] w fun e w' => e = .returned (V (F n).k (F n).n (F n).s) ∧ Below w.heap.size w w' := by
  have HNM : Hid (∀ n wx, Calls Tryz.prog 77 #[.int .i64 n] wx fun e w' => e = .returned (V 1 n nul) ∧ Below wx.heap.size wx w') := enum_any
  have hb0 : Below w.heap.size w (w.alloc (.cells #[.int .i64 0, .int .i64 0, .string nul] 36)) := (Below.refl _ _).alloc (Nat.le_refl _) _
  have hq0 := heap_alloc_new w (.cells #[.int .i64 0, .int .i64 0, .string nul] 36)
  have HCx : Hid (∀ i wx, i < n → Below w.heap.size w wx → wx.cell? ⟨g, i, none⟩ = some (.int .i64 (f i))) := fun i wx hi hb => by rw [hb.cell (p := ⟨g, _, none⟩) hg]; exact HC.out i hi
  clear HC
  go_enter Tryz.func53, Tryz.ntmps53
  go_wp2_with fail
  refine (HNM.out _ _).mono ?_
  rintro e w1 ⟨rfl, hb1⟩
  have HB1 : Hid (Below w.heap.size w (w1.alloc (.cells #[.int .i64 1, .int .i64 0, .string nul] 36))) := (bnext hb0 hb1 hb0.size).alloc (bnext hb0 hb1 hb0.size).size _
  have HQ1 : Hid ((w1.alloc (.cells #[.int .i64 1, .int .i64 0, .string nul] 36)).heap[w.heap.size]? = some (.cells #[.int .i64 0, .int .i64 0, .string nul] 36 (0, 0))) := (Below.heap_alloc _ _ _ (Nat.lt_of_lt_of_le (lt_of_blk hq0) hb1.size)).trans ((hb1.block _ (lt_of_blk hq0)).trans hq0)
  have HT1 : Hid ((w1.alloc (.cells #[.int .i64 1, .int .i64 0, .string nul] 36)).heap[w1.heap.size]? = some (.cells #[.int .i64 1, .int .i64 0, .string nul] 36 (0, 0))) := heap_alloc_new _ _
  have hlt1 : w.heap.size < w1.heap.size := Nat.lt_of_lt_of_le (lt_of_blk hq0) hb1.size
  clear hb0 hq0 hb1
  go_wp2_with fail
  obtain ⟨bt, hbt⟩ : ∃ bt, w1.heap.size = bt := ⟨_, rfl⟩
  rw [hbt] at HT1 hlt1 ⊢
  clear hbt
  generalize w1.alloc (.cells #[.int .i64 1, .int .i64 0, .string nul] 36) = W1 at *
  go_loopw [9] (fun i wr => ∃ j : Nat, i = .int .i64 j ∧ j ≤ n ∧ wr.heap[bt]? = some (.cells #[.int .i64 (F j).k, .int .i64 (F j).n, .string (F j).s] 36 (0, 0)) ∧ wr.heap[w.heap.size]? = some (.cells #[.int .i64 0, .int .i64 0, .string nul] 36 (0, 0)) ∧ Below w.heap.size w wr) (fun i _ => n - (intOf i).toNat)
  case atStart => exact ⟨0, rfl, Nat.zero_le _, by rw [h0]; exact HT1.out, HQ1.out, HB1.out⟩
  case round =>
    obtain ⟨j, rfl, hj, hT, hQ, hB⟩ := hrel
    have HT2 : Hid (wr.heap[bt]? = some (.cells #[.int .i64 (F j).k, .int .i64 (F j).n, .string (F j).s] 36 (0, 0))) := hT
    have HQ2 : Hid (wr.heap[w.heap.size]? = some (.cells #[.int .i64 0, .int .i64 0, .string nul] 36 (0, 0))) := hQ
    have HB2 : Hid (Below w.heap.size w wr) := hB
    clear hT hQ hB HT1 HQ1 HB1
    by_cases hlt : j < n
    · have hlt' : (j : Int) < (n : Int) := by omega
      have hj0 : (0 : Int) ≤ (j : Int) := by omega
      have HTj : Hid (∀ wx, Calls Tryz.prog 78 #[.int .i64 8, V (F j).k (F j).n (F j).s, V 1 (f j) nul] wx fun e w' => e = .returned (V (F (j + 1)).k (F (j + 1)).n (F (j + 1)).s) ∧ Below wx.heap.size wx w') := fun wx => HT.out j wx hlt
      have HF : Hid (∃ t, F (j + 1) = t) := ⟨_, rfl⟩
      obtain ⟨t, ht⟩ := HF.out
      have HFt : Hid (F (j + 1) = t) := ht
      rw [ht] at HTj
      clear HT HF ht
      generalize F j = u at *
      obtain ⟨uk, un, us⟩ := u
      obtain ⟨tk, tn, ts⟩ := t
      dsimp only at HTj HT2
      have hc := HCx.out j wr hlt HB2.out
      obtain ⟨c0, c1, c2⟩ := ocells3 HT2.out
      go_wp2_with fail
      clear hc
      go_region_with (first | (go_at_call 77; refine (HNM.out _ _).mono ?_; rintro e w2 ⟨rfl, hb2⟩; have hT2 : w2.heap[bt]? = some (.cells #[.int .i64 uk, .int .i64 un, .string us] 36 (0, 0)) := (hb2.block _ (lt_of_blk HT2.out)).trans HT2.out; have hQ2 : w2.heap[w.heap.size]? = some (.cells #[.int .i64 0, .int .i64 0, .string nul] 36 (0, 0)) := (hb2.block _ (lt_of_blk HQ2.out)).trans HQ2.out; have hB2 : Below w.heap.size w w2 := bnext HB2.out.drew hb2 HB2.out.drew.size; obtain ⟨d0, d1, d2⟩ := ocells3 hT2) | (go_at_call 78; refine (HTj.out _).mono ?_; rintro e w3 ⟨rfl, hb3⟩; have hT3 : w3.heap[bt]? = some (.cells #[.int .i64 uk, .int .i64 un, .string us] 36 (0, 0)) := (hb3.block _ (lt_of_blk hT2)).trans hT2; have hQ3 : w3.heap[w.heap.size]? = some (.cells #[.int .i64 0, .int .i64 0, .string nul] 36 (0, 0)) := (hb3.block _ (lt_of_blk hQ2)).trans hQ2; have hB3 : Below w.heap.size w w3 := bnext hB2 hb3 hB2.size; obtain ⟨g0, g1, g2⟩ := ocells3 hT3; have f0 := ofrz hT3))
      all_goals
        go_wp2_with fail
        obtain ⟨w4, hw4, hq4, hk4, he4, -⟩ := oset3 hT3 (.int .i64 tk) (.int .i64 tn) (.string ts)
        rw [hw4]
        exact ⟨⟨j + 1, by simp, hlt, by rw [HFt.out]; exact hq4, by rw [he4 _ (by omega)]; exact hQ3, hB3.trans (hk4 _ (by omega))⟩, by simp [intOf]; omega⟩
    · obtain rfl : j = n := by omega
      obtain ⟨c0, c1, c2⟩ := ocells3 HT2.out
      obtain ⟨d0, d1, d2⟩ := ocells3 HQ2.out
      have f0 := ofrz HQ2.out
      go_wp2_with fail
      refine ofin3 HQ2.out (Q := bodyPost _ _ _ _ _) ?_
      clear c0 c1 c2 f0 d0 d1 d2
      intro w9 hq9 hk9
      obtain ⟨d0, d1, d2⟩ := ocells3 hq9
      exact bodyPost_ret (v := V (F j).k (F j).n (F j).s) (by simp [results, Tryz.results53, go_sem, d0, d1, d2]) rfl ⟨rfl, HB2.out.trans (hk9 _ (by omega))⟩
set_option maxRecDepth 100000 in
set_option maxHeartbeats 4000000 in
theorem sum_nil (w : World) : Calls Tryz.prog 53 #[.slice none 0 0] w fun e w' => e = .returned (V 1 0 nul) ∧ Below w.heap.size w w' := by
  have HNM : Hid (∀ n wx, Calls Tryz.prog 77 #[.int .i64 n] wx fun e w' => e = .returned (V 1 n nul) ∧ Below wx.heap.size wx w') := enum_any
  have hb0 : Below w.heap.size w (w.alloc (.cells #[.int .i64 0, .int .i64 0, .string nul] 36)) := (Below.refl _ _).alloc (Nat.le_refl _) _
  have hq0 := heap_alloc_new w (.cells #[.int .i64 0, .int .i64 0, .string nul] 36)
  go_enter Tryz.func53, Tryz.ntmps53
  go_wp2_with fail
  refine (HNM.out _ _).mono ?_
  rintro e w1 ⟨rfl, hb1⟩
  have HB1 : Hid (Below w.heap.size w (w1.alloc (.cells #[.int .i64 1, .int .i64 0, .string nul] 36))) := (bnext hb0 hb1 hb0.size).alloc (bnext hb0 hb1 hb0.size).size _
  have HQ1 : Hid ((w1.alloc (.cells #[.int .i64 1, .int .i64 0, .string nul] 36)).heap[w.heap.size]? = some (.cells #[.int .i64 0, .int .i64 0, .string nul] 36 (0, 0))) := (Below.heap_alloc _ _ _ (Nat.lt_of_lt_of_le (lt_of_blk hq0) hb1.size)).trans ((hb1.block _ (lt_of_blk hq0)).trans hq0)
  have HT1 : Hid ((w1.alloc (.cells #[.int .i64 1, .int .i64 0, .string nul] 36)).heap[w1.heap.size]? = some (.cells #[.int .i64 1, .int .i64 0, .string nul] 36 (0, 0))) := heap_alloc_new _ _
  clear hb0 hq0 hb1
  go_wp2_with fail
  generalize w1.heap.size = bt at *
  generalize w1.alloc (.cells #[.int .i64 1, .int .i64 0, .string nul] 36) = W1 at *
  go_loopw [9] (fun i wr => i = .int .i64 0 ∧ wr = W1) (fun _ _ => 0)
  case atStart => exact ⟨rfl, rfl⟩
  case round =>
    obtain ⟨rfl, rfl⟩ := hrel
    obtain ⟨c0, c1, c2⟩ := ocells3 HT1.out
    obtain ⟨d0, d1, d2⟩ := ocells3 HQ1.out
    have f0 := ofrz HQ1.out
    go_wp2_with fail
    refine ofin3 HQ1.out (Q := bodyPost _ _ _ _ _) ?_
    clear c0 c1 c2 f0 d0 d1 d2
    intro w9 hq9 hk9
    obtain ⟨d0, d1, d2⟩ := ocells3 hq9
    exact bodyPost_ret (v := V 1 0 nul) (by simp [results, Tryz.results53, go_sem, d0, d1, d2]) rfl ⟨rfl, HB1.out.trans (hk9 _ (by omega))⟩
theorem sum_any (xs : List Int) (hx : ∀ n ∈ xs, B64 n) (base : Nat) (v : Value) (w : World) (h : w.ownsRow base 3 1 v xs.length (xs.map (Value.int .i64))) (hl : xs.length ≤ 1000000) :
    Calls Tryz.prog 53 #[v] w fun e w' => e = .returned (V (sumL xs).k (sumL xs).n (sumL xs).s) ∧ Below w.heap.size w w' := by
  rcases h.2 with ⟨rfl, h0⟩ | ⟨g, cap, cur, rfl, -, hg, -, -, -, ht⟩
  · have hx0 : xs = [] := List.length_eq_zero_iff.1 h0
    subst hx0
    exact sum_nil w
  · have := sum_row (fun j => sumL (xs.take j)) (fun i => xs.getD i 0) g xs.length cap w (lt_of_blk hg) hl (fun i hi => by
      have q1 : (xs.map (Value.int .i64))[i]? = some (.int .i64 (xs.getD i 0)) := by rw [List.getElem?_map]; simp [hi]
      rw [← ht, List.getElem?_take, if_pos (by omega)] at q1
      simp only [World.cell?, hg]
      simpa using q1) rfl (fun j wx hj => by
      have ho := sumL_ok (xs.take j) (fun n hn => hx n (List.mem_of_mem_take hn))
      have he : B64 (xs.getD j 0) := hx _ (by simp [hj])
      have := ptwo8 (sumL (xs.take j)).k (sumL (xs.take j)).n (sumL (xs.take j)).s 1 (xs.getD j 0) nul wx ho.1 (.inl rfl) ho.2 he
      rw [show sumL (xs.take (j + 1)) = t8 (sumL (xs.take j)) ⟨1, xs.getD j 0, nul⟩ from by rw [take_snocI xs j hj, sumL_snoc]]
      exact this)
    rw [List.take_length] at this
    exact this
end Go.Proofs.YtbiikodnfaeceaaGreatDoor.so
