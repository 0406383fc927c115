
/- Package value: what an operator that holds two values against each other says. Conditions: as each theorem says. -/
import Derived.Test.YtbiikodnfaeceaaGreatDoorSc
namespace Go.Proofs.YtbiikodnfaeceaaGreatDoor.so
open Go.RowKit Go.Sort Go.Shelf
theorem lt_of_blk {w : World} {b : Nat} {o : Obj} (h : w.heap[b]? = some o) : b < w.heap.size := (Array.getElem?_eq_some_iff.1 h).1
theorem drew_below (w : World) : Below w.heap.size w w.drew := (Below.refl _ _).drew
theorem hat (w : World) (o : Obj) (i : Nat) (h : i = w.heap.size) : (w.alloc o).heap[i]? = some o := by subst h; exact heap_alloc_new w o
theorem blk_set3 {w : World} {b o : Nat} {cs : Array Value} {u : Value} {t : TypeId} {f : Nat × Nat} (h : w.heap[b]? = some (.cells cs t f)) : (w.setCell ⟨b, o, none⟩ u).heap[b]? = some (.cells (cs.setIfInBounds o u) t f) := by
  have hlt := lt_of_blk h
  have h' : w.heap[b] = .cells cs t f := by simpa [Array.getElem?_eq_getElem hlt] using h
  show (w.heap.modify b _)[b]? = _
  rw [Array.getElem?_eq_getElem (by simpa using hlt), Array.getElem_modify_self, h']
  rfl
theorem bset {w : World} {b o : Nat} {cs : Array Value} {u : Value} {t : TypeId} {f : Nat × Nat} (h : w.heap[b]? = some (.cells cs t f)) : (w.setCell ⟨b, o, none⟩ u).heap[b]? = some (.cells (cs.setIfInBounds o u) t f) := blk_set3 h
theorem cells3 {w : World} {b : Nat} {a0 a1 a2 : Value} {t : TypeId} (h : w.heap[b]? = some (.cells #[a0, a1, a2] t (0, 0))) :
    (w.cell? ⟨b, 0, none⟩ = some a0 ∧ w.cell? ⟨b, 1, none⟩ = some a1 ∧ w.cell? ⟨b, 2, none⟩ = some a2) ∧ (w.frozen? ⟨b, 0, none⟩ = false ∧ w.frozen? ⟨b, 1, none⟩ = false ∧ w.frozen? ⟨b, 2, none⟩ = false) := by
  simp [World.cell?, World.frozen?, h]
theorem set3 {w : World} {b : Nat} {a0 a1 a2 u0 u1 u2 : Value} {t : TypeId} (h : w.heap[b]? = some (.cells #[a0, a1, a2] t (0, 0))) :
    (((w.setCell ⟨b, 0, none⟩ u0).setCell ⟨b, 1, none⟩ u1).setCell ⟨b, 2, none⟩ u2).heap[b]? = some (.cells #[u0, u1, u2] t (0, 0)) := by
  rw [bset (bset (bset h))]
  rfl
theorem below3 {w : World} {b B : Nat} (hB : B ≤ b) {u0 u1 u2 : Value} : Below B w (((w.setCell ⟨b, 0, none⟩ u0).setCell ⟨b, 1, none⟩ u1).setCell ⟨b, 2, none⟩ u2) :=
  (((Below.refl _ _).setCell hB _).setCell hB _).setCell hB _
abbrev O3 (k n : Int) (s : ByteArray) : Obj := .cells #[.int .i64 k, .int .i64 n, .string s] 36
theorem bk {wx wy : World} {b : Nat} {o : Obj} (h : wx.heap[b]? = some o) (hb : Below wx.heap.size wx wy) : wy.heap[b]? = some o := by rw [hb.block _ (lt_of_blk h)]; exact h
theorem bkA {wx : World} {b : Nat} {o : Obj} (h : wx.heap[b]? = some o) (o' : Obj) : (wx.alloc o').heap[b]? = some o := bk h ((Below.refl _ _).alloc (Nat.le_refl _) _)
/-- The number of a truth. -/
def b2n (t : Bool) : Int := if t = true then 1 else 0
/-- Two values, each in a block of its own, and the answer's. -/
structure MS (w : World) (k n : Int) (s : ByteArray) (k' n' : Int) (s' : ByteArray) (wx : World) : Prop where
  a : wx.heap[w.heap.size]? = some (O3 k n s)
  b : wx.heap[w.heap.size + 1]? = some (O3 k' n' s')
  res : wx.heap[w.heap.size + 2]? = some (O3 0 0 nul)
  below : Below w.heap.size w wx
theorem MS.start (w : World) (k n : Int) (s : ByteArray) (k' n' : Int) (s' : ByteArray) : MS w k n s k' n' s' (((w.alloc (O3 k n s)).alloc (O3 k' n' s')).alloc (O3 0 0 nul)) :=
  ⟨by rw [Below.heap_alloc _ _ _ (by simp; omega), Below.heap_alloc _ _ _ (by simp), hat _ _ _ rfl], by rw [Below.heap_alloc _ _ _ (by simp), hat _ _ _ (by simp)], hat _ _ _ (by simp), (((Below.refl _ _).alloc (Nat.le_refl _) _).alloc (by simp) _).alloc (by simp; omega) _⟩
section
variable {w wx : World} {k n : Int} {s : ByteArray} {k' n' : Int} {s' : ByteArray}
theorem MS.lt (h : MS w k n s k' n' s' wx) : w.heap.size + 2 < wx.heap.size := lt_of_blk h.res
theorem MS.next {wy : World} (h : MS w k n s k' n' s' wx) (hb : Below wx.heap.size wx wy) : MS w k n s k' n' s' wy := ⟨bk h.a hb, bk h.b hb, bk h.res hb, bnext h.below hb h.below.size⟩
theorem MS.alloc (h : MS w k n s k' n' s' wx) (o : Obj) : MS w k n s k' n' s' (wx.alloc o) := h.next ((Below.refl _ _).alloc (Nat.le_refl _) _)
theorem MS.setA (h : MS w k n s k' n' s' wx) (u v : Int) (t : ByteArray) : MS w u v t k' n' s' (((wx.setCell ⟨w.heap.size, 0, none⟩ (.int .i64 u)).setCell ⟨w.heap.size, 1, none⟩ (.int .i64 v)).setCell ⟨w.heap.size, 2, none⟩ (.string t)) :=
  ⟨set3 h.a, by rw [Below.heap_setCell _ _ _ _ (by simp), Below.heap_setCell _ _ _ _ (by simp), Below.heap_setCell _ _ _ _ (by simp)]; exact h.b, by rw [Below.heap_setCell _ _ _ _ (by simp), Below.heap_setCell _ _ _ _ (by simp), Below.heap_setCell _ _ _ _ (by simp)]; exact h.res, h.below.trans (below3 (Nat.le_refl _))⟩
theorem MS.setB (h : MS w k n s k' n' s' wx) (u v : Int) (t : ByteArray) : MS w k n s u v t (((wx.setCell ⟨w.heap.size + 1, 0, none⟩ (.int .i64 u)).setCell ⟨w.heap.size + 1, 1, none⟩ (.int .i64 v)).setCell ⟨w.heap.size + 1, 2, none⟩ (.string t)) :=
  ⟨by rw [Below.heap_setCell _ _ _ _ (by simp), Below.heap_setCell _ _ _ _ (by simp), Below.heap_setCell _ _ _ _ (by simp)]; exact h.a, set3 h.b, by rw [Below.heap_setCell _ _ _ _ (by simp), Below.heap_setCell _ _ _ _ (by simp), Below.heap_setCell _ _ _ _ (by simp)]; exact h.res, h.below.trans (below3 (by omega))⟩
end
/-- The two values, opened. -/
abbrev MO (w : World) (k n : Int) (s : ByteArray) (k' n' : Int) (s' : ByteArray) (wx : World) : Prop :=
  wx.cell? ⟨w.heap.size, 0, none⟩ = some (.int .i64 k) ∧ wx.cell? ⟨w.heap.size, 1, none⟩ = some (.int .i64 n) ∧ wx.cell? ⟨w.heap.size, 2, none⟩ = some (.string s) ∧ wx.cell? ⟨w.heap.size + 1, 0, none⟩ = some (.int .i64 k') ∧ wx.cell? ⟨w.heap.size + 1, 1, none⟩ = some (.int .i64 n') ∧ wx.cell? ⟨w.heap.size + 1, 2, none⟩ = some (.string s') ∧ MS w k n s k' n' s' wx
theorem MS.opened {w : World} {k n : Int} {s : ByteArray} {k' n' : Int} {s' : ByteArray} {wx : World} (h : MS w k n s k' n' s' wx) : MO w k n s k' n' s' wx := by
  obtain ⟨⟨o0, o1, o2⟩, -⟩ := cells3 h.a
  obtain ⟨⟨a0, a1, a2⟩, -⟩ := cells3 h.b
  exact ⟨o0, o1, o2, a0, a1, a2, h⟩
theorem mo_ms {w : World} {k n : Int} {s : ByteArray} {k' n' : Int} {s' : ByteArray} {wx : World} (h : MO w k n s k' n' s' wx) : MS w k n s k' n' s' wx := h.2.2.2.2.2.2
theorem mo_below {w : World} {k n : Int} {s : ByteArray} {k' n' : Int} {s' : ByteArray} {wx wy : World} (h : MO w k n s k' n' s' wx) (hb : Below wx.heap.size wx wy) : MO w k n s k' n' s' wy := ((mo_ms h).next hb).opened
/-- A value beside another: what is blank takes the other's kind. -/
def bsK (k k' : Int) : Int := if k = 0 then (if k' = 4 then 0 else k') else k
def bsN (k n : Int) : Int := if k = 0 then 0 else n
def bsS (k : Int) (s : ByteArray) : ByteArray := if k = 0 then nul else s
/-- How two values stand to each other where what is blank takes the other's kind. -/
def cmpB (k n : Int) (s : ByteArray) (k' n' : Int) (s' : ByteArray) : Int := cmpV (bsK k k') (bsN k n) (bsS k s) (bsK k' k) (bsN k' n') (bsS k' s')
theorem compare_bw (k n k' n' : Int) (s s' : ByteArray) (w : World) : Calls Tryz.prog 41 #[V k n s, V k' n' s'] w fun e w' => e = .returned (.int .i64 (cmpV k n s k' n' s')) ∧ Below w.heap.size w w' := (compare_any k n k' n' s s' w).mono fun _ _ h => ⟨h.1, h.2.below⟩
theorem truth_any (t : Bool) (w : World) :
    Calls Tryz.prog 141 #[.bool t] w fun e w' => e = .returned (V 3 (b2n t) nul) ∧ Below w.heap.size w w' := by
  cases t
  · go_enter Tryz.func141, Tryz.ntmps141
    go_wp2
    exact bodyPost_ret (v := V 3 0 nul) (by simp [results, Tryz.results141, go_sem]) rfl ⟨rfl, (Below.refl _ _).alloc (Nat.le_refl _) _⟩
  · go_enter Tryz.func141, Tryz.ntmps141
    go_wp2
    exact bodyPost_ret (v := V 3 1 nul) (by simp [results, Tryz.results141, go_sem]) rfl ⟨rfl, (Below.refl _ _).alloc (Nat.le_refl _) _⟩
set_option maxHeartbeats 400000 in
theorem firstBad_no (k n k' n' : Int) (s s' : ByteArray) (w : World) (h : (k == 4) = false) (h' : (k' == 4) = false) :
    Calls Tryz.prog 137 #[V k n s, V k' n' s'] w fun e w' => e = .returned (.tuple #[V 0 0 nul, .bool false]) ∧ Below w.heap.size w w' := by
  go_enter Tryz.func137, Tryz.ntmps137
  go_wp2
  exact bodyPost_ret (v := .tuple #[V 0 0 nul, .bool false]) (by simp [results, Tryz.results137, go_sem]) rfl ⟨rfl, by (repeat (first | exact Below.refl _ _ | assumption | (refine Below.setCell ?_ (by first | omega | (simp <;> omega)) _) | (refine Below.alloc ?_ (by first | omega | (simp <;> omega)) _) | (refine Below.drew ?_) | (refine Below.trans ?_ (Below.mono (by assumption) (by first | omega | (simp <;> omega))))))⟩
set_option maxHeartbeats 400000 in
theorem blankAs_blank (kk n : Int) (s : ByteArray) (w : World) :
    Calls Tryz.prog 140 #[.int .i64 kk, V 0 n s] w fun e w' => e = .returned (V kk 0 nul) ∧ Below w.heap.size w w' := by
  go_enter Tryz.func140, Tryz.ntmps140
  go_wp2
  exact bodyPost_ret (v := V kk 0 nul) (by simp [results, Tryz.results140, go_sem]) rfl ⟨rfl, by (repeat (first | exact Below.refl _ _ | assumption | (refine Below.setCell ?_ (by first | omega | (simp <;> omega)) _) | (refine Below.alloc ?_ (by first | omega | (simp <;> omega)) _) | (refine Below.drew ?_) | (refine Below.trans ?_ (Below.mono (by assumption) (by first | omega | (simp <;> omega))))))⟩
set_option maxHeartbeats 400000 in
theorem blankAs_other (kk k n : Int) (s : ByteArray) (w : World) (h : (k == 0) = false) :
    Calls Tryz.prog 140 #[.int .i64 kk, V k n s] w fun e w' => e = .returned (V k n s) ∧ Below w.heap.size w w' := by
  go_enter Tryz.func140, Tryz.ntmps140
  go_wp2
  exact bodyPost_ret (v := V k n s) (by simp [results, Tryz.results140, go_sem]) rfl ⟨rfl, by (repeat (first | exact Below.refl _ _ | assumption | (refine Below.setCell ?_ (by first | omega | (simp <;> omega)) _) | (refine Below.alloc ?_ (by first | omega | (simp <;> omega)) _) | (refine Below.drew ?_) | (refine Below.trans ?_ (Below.mono (by assumption) (by first | omega | (simp <;> omega))))))⟩
theorem blankAs_any (kk k n : Int) (s : ByteArray) (w : World) (h : ¬ kk = 4) :
    Calls Tryz.prog 140 #[.int .i64 kk, V k n s] w fun e w' => e = .returned (V (bsK k kk) (bsN k n) (bsS k s)) ∧ Below w.heap.size w w' := by
  unfold bsK bsN bsS
  by_cases h0 : k = 0
  · subst h0
    rw [if_pos rfl, if_pos rfl, if_pos rfl, if_neg h]
    exact blankAs_blank kk n s w
  · rw [if_neg h0, if_neg h0, if_neg h0]
    exact blankAs_other kk k n s w (beq_eq_false_iff_ne.2 h0)
set_option maxRecDepth 100000 in
set_option maxHeartbeats 8000000 in
theorem firstBad_a (n k' n' : Int) (s s' : ByteArray) (w : World) :
    Calls Tryz.prog 137 #[V 4 n s, V k' n' s'] w fun e w' => e = .returned (.tuple #[V 4 n s, .bool true]) ∧ Below w.heap.size w w' := by
  go_enter Tryz.func137, Tryz.ntmps137
  go_wp2_with fail
  exact bodyPost_ret (v := .tuple #[V 4 n s, .bool true]) (by simp [results, Tryz.results137, go_sem]) rfl ⟨rfl, by (repeat (first | exact Below.refl _ _ | assumption | (refine Below.setCell ?_ (by first | omega | (simp <;> omega)) _) | (refine Below.alloc ?_ (by first | omega | (simp <;> omega)) _) | (refine Below.drew ?_)))⟩
set_option maxRecDepth 100000 in
set_option maxHeartbeats 8000000 in
theorem firstBad_b (k n n' : Int) (s s' : ByteArray) (w : World) (h : (k == 4) = false) :
    Calls Tryz.prog 137 #[V k n s, V 4 n' s'] w fun e w' => e = .returned (.tuple #[V 4 n' s', .bool true]) ∧ Below w.heap.size w w' := by
  go_enter Tryz.func137, Tryz.ntmps137
  go_wp2_with fail
  exact bodyPost_ret (v := .tuple #[V 4 n' s', .bool true]) (by simp [results, Tryz.results137, go_sem]) rfl ⟨rfl, by (repeat (first | exact Below.refl _ _ | assumption | (refine Below.setCell ?_ (by first | omega | (simp <;> omega)) _) | (refine Below.alloc ?_ (by first | omega | (simp <;> omega)) _) | (refine Below.drew ?_)))⟩
set_option maxRecDepth 100000 in
set_option maxHeartbeats 8000000 in
theorem hold_a (op : Int) (n : Int) (s : ByteArray) (k' n' : Int) (s' : ByteArray) (w : World) :
    Calls Tryz.prog 117 #[.int .i64 op, V 4 n s, V k' n' s'] w fun e w' => e = .returned (V 4 n s) ∧ Below w.heap.size w w' := by
  have hS := MS.start w 4 n s k' n' s'
  go_enter Tryz.func117, Tryz.ntmps117
  go_wp2_with fail
  refine (firstBad_a _ _ _ _ _ _).mono ?_
  rintro e w1 ⟨rfl, q1⟩
  have hC := hat w1 (O3 4 n s) _ rfl
  replace hS := (hS.next q1).alloc (O3 4 n s)
  obtain ⟨⟨r0, r1, r2⟩, t0, t1, t2⟩ := cells3 hS.res
  obtain ⟨⟨x0, x1, x2⟩, y0, y1, y2⟩ := cells3 hC
  have hB := hS.below
  go_wp2_with fail
  exact bodyPost_ret (v := V 4 n s) (by simp [results, Tryz.results117, go_sem, r0, r1, r2]) rfl ⟨rfl, hB.trans (below3 (by omega))⟩
set_option maxRecDepth 100000 in
set_option maxHeartbeats 8000000 in
theorem hold_b (op : Int) (k n : Int) (s : ByteArray) (n' : Int) (s' : ByteArray) (w : World) (h4 : (k == 4) = false) :
    Calls Tryz.prog 117 #[.int .i64 op, V k n s, V 4 n' s'] w fun e w' => e = .returned (V 4 n' s') ∧ Below w.heap.size w w' := by
  have hS := MS.start w k n s 4 n' s'
  go_enter Tryz.func117, Tryz.ntmps117
  go_wp2_with fail
  refine (firstBad_b _ _ _ _ _ _ h4).mono ?_
  rintro e w1 ⟨rfl, q1⟩
  have hC := hat w1 (O3 4 n' s') _ rfl
  replace hS := (hS.next q1).alloc (O3 4 n' s')
  obtain ⟨⟨r0, r1, r2⟩, t0, t1, t2⟩ := cells3 hS.res
  obtain ⟨⟨x0, x1, x2⟩, y0, y1, y2⟩ := cells3 hC
  have hB := hS.below
  go_wp2_with fail
  exact bodyPost_ret (v := V 4 n' s') (by simp [results, Tryz.results117, go_sem, r0, r1, r2]) rfl ⟨rfl, hB.trans (below3 (by omega))⟩
set_option maxRecDepth 100000 in
set_option maxHeartbeats 8000000 in
theorem hold_1 (k n : Int) (s : ByteArray) (k' n' : Int) (s' : ByteArray) (w : World) (h4 : (k == 4) = false) (h4' : (k' == 4) = false) :
    Calls Tryz.prog 117 #[.int .i64 1, V k n s, V k' n' s'] w fun e w' => e = .returned (V 3 (b2n (cmpB k n s k' n' s' == 0)) nul) ∧ Below w.heap.size w w' := by
  have hS := MS.start w k n s k' n' s'
  have H4 : Hid (¬ k = 4) := beq_eq_false_iff_ne.1 h4
  have H4' : Hid (¬ k' = 4) := beq_eq_false_iff_ne.1 h4'
  obtain ⟨c, hc⟩ : ∃ c, cmpB k n s k' n' s' = c := ⟨_, rfl⟩
  have HC : Hid (cmpV (bsK k k') (bsN k n) (bsS k s) (bsK k' k) (bsN k' n') (bsS k' s') = c) := hc
  rw [hc]
  clear hc
  go_enter Tryz.func117, Tryz.ntmps117
  go_upto_region 4 with (go_at_call 137; refine (firstBad_no _ _ _ _ _ _ _ h4 h4').mono ?_; rintro e w1 ⟨rfl, h1⟩)
  replace hS := (hS.next h1).alloc (O3 0 0 nul)
  clear h1
  clear h4 h4'
  go_cut [9] (fun s9 wx => s9 = .int .i64 c ∧ MS w k n s k' n' s' wx)
  case first =>
    have h0d := (hS.next (drew_below _)).opened
    have ⟨q0, q1, q2, q3, q4, q5, q6⟩ := hS.opened
    go_region_held3 (fun wx => MO w k n s k' n' s' wx) (first | exact h0d | exact mo_below (by assumption) (by assumption)) (first | (go_at_call 140; refine (blankAs_any _ _ _ _ _ (by first | exact H4.out | exact H4'.out)).mono ?_; rintro e wa ⟨rfl, ha⟩) | (go_at_call 41; refine (compare_bw _ _ _ _ _ _ _).mono ?_; rintro e wa ⟨rfl, ha⟩))
    all_goals
      go_wp2_with fail
      go_meet
      case rel => exact ⟨by rw [HC.out], mo_ms (by assumption)⟩
  case rest =>
  clear hS H4 H4' HC
  obtain ⟨rfl, hS⟩ := hcut
  go_wp2_with fail
  refine (truth_any _ _).mono ?_
  rintro e w1 ⟨rfl, q1⟩
  replace hS := hS.next q1
  obtain ⟨⟨r0, r1, r2⟩, t0, t1, t2⟩ := cells3 hS.res
  have hB := hS.below
  go_wp2_with fail
  exact bodyPost_ret (v := V 3 (b2n (c == 0)) nul) (by simp [results, Tryz.results117, go_sem, r0, r1, r2]) rfl ⟨rfl, hB.trans (below3 (by omega))⟩
set_option maxRecDepth 100000 in
set_option maxHeartbeats 8000000 in
theorem hold_2 (k n : Int) (s : ByteArray) (k' n' : Int) (s' : ByteArray) (w : World) (h4 : (k == 4) = false) (h4' : (k' == 4) = false) :
    Calls Tryz.prog 117 #[.int .i64 2, V k n s, V k' n' s'] w fun e w' => e = .returned (V 3 (b2n (cmpB k n s k' n' s' != 0)) nul) ∧ Below w.heap.size w w' := by
  have hS := MS.start w k n s k' n' s'
  have H4 : Hid (¬ k = 4) := beq_eq_false_iff_ne.1 h4
  have H4' : Hid (¬ k' = 4) := beq_eq_false_iff_ne.1 h4'
  obtain ⟨c, hc⟩ : ∃ c, cmpB k n s k' n' s' = c := ⟨_, rfl⟩
  have HC : Hid (cmpV (bsK k k') (bsN k n) (bsS k s) (bsK k' k) (bsN k' n') (bsS k' s') = c) := hc
  rw [hc]
  clear hc
  go_enter Tryz.func117, Tryz.ntmps117
  go_upto_region 4 with (go_at_call 137; refine (firstBad_no _ _ _ _ _ _ _ h4 h4').mono ?_; rintro e w1 ⟨rfl, h1⟩)
  replace hS := (hS.next h1).alloc (O3 0 0 nul)
  clear h1
  clear h4 h4'
  go_cut [9] (fun s9 wx => s9 = .int .i64 c ∧ MS w k n s k' n' s' wx)
  case first =>
    have h0d := (hS.next (drew_below _)).opened
    have ⟨q0, q1, q2, q3, q4, q5, q6⟩ := hS.opened
    go_region_held3 (fun wx => MO w k n s k' n' s' wx) (first | exact h0d | exact mo_below (by assumption) (by assumption)) (first | (go_at_call 140; refine (blankAs_any _ _ _ _ _ (by first | exact H4.out | exact H4'.out)).mono ?_; rintro e wa ⟨rfl, ha⟩) | (go_at_call 41; refine (compare_bw _ _ _ _ _ _ _).mono ?_; rintro e wa ⟨rfl, ha⟩))
    all_goals
      go_wp2_with fail
      go_meet
      case rel => exact ⟨by rw [HC.out], mo_ms (by assumption)⟩
  case rest =>
  clear hS H4 H4' HC
  obtain ⟨rfl, hS⟩ := hcut
  go_wp2_with fail
  refine (truth_any _ _).mono ?_
  rintro e w1 ⟨rfl, q1⟩
  replace hS := hS.next q1
  obtain ⟨⟨r0, r1, r2⟩, t0, t1, t2⟩ := cells3 hS.res
  have hB := hS.below
  go_wp2_with fail
  exact bodyPost_ret (v := V 3 (b2n (c != 0)) nul) (by simp [results, Tryz.results117, go_sem, r0, r1, r2]) rfl ⟨rfl, hB.trans (below3 (by omega))⟩
set_option maxRecDepth 100000 in
set_option maxHeartbeats 8000000 in
theorem hold_3 (k n : Int) (s : ByteArray) (k' n' : Int) (s' : ByteArray) (w : World) (h4 : (k == 4) = false) (h4' : (k' == 4) = false) :
    Calls Tryz.prog 117 #[.int .i64 3, V k n s, V k' n' s'] w fun e w' => e = .returned (V 3 (b2n (decide (cmpB k n s k' n' s' < 0))) nul) ∧ Below w.heap.size w w' := by
  have hS := MS.start w k n s k' n' s'
  have H4 : Hid (¬ k = 4) := beq_eq_false_iff_ne.1 h4
  have H4' : Hid (¬ k' = 4) := beq_eq_false_iff_ne.1 h4'
  obtain ⟨c, hc⟩ : ∃ c, cmpB k n s k' n' s' = c := ⟨_, rfl⟩
  have HC : Hid (cmpV (bsK k k') (bsN k n) (bsS k s) (bsK k' k) (bsN k' n') (bsS k' s') = c) := hc
  rw [hc]
  clear hc
  go_enter Tryz.func117, Tryz.ntmps117
  go_upto_region 4 with (go_at_call 137; refine (firstBad_no _ _ _ _ _ _ _ h4 h4').mono ?_; rintro e w1 ⟨rfl, h1⟩)
  replace hS := (hS.next h1).alloc (O3 0 0 nul)
  clear h1
  clear h4 h4'
  go_cut [9] (fun s9 wx => s9 = .int .i64 c ∧ MS w k n s k' n' s' wx)
  case first =>
    have h0d := (hS.next (drew_below _)).opened
    have ⟨q0, q1, q2, q3, q4, q5, q6⟩ := hS.opened
    go_region_held3 (fun wx => MO w k n s k' n' s' wx) (first | exact h0d | exact mo_below (by assumption) (by assumption)) (first | (go_at_call 140; refine (blankAs_any _ _ _ _ _ (by first | exact H4.out | exact H4'.out)).mono ?_; rintro e wa ⟨rfl, ha⟩) | (go_at_call 41; refine (compare_bw _ _ _ _ _ _ _).mono ?_; rintro e wa ⟨rfl, ha⟩))
    all_goals
      go_wp2_with fail
      go_meet
      case rel => exact ⟨by rw [HC.out], mo_ms (by assumption)⟩
  case rest =>
  clear hS H4 H4' HC
  obtain ⟨rfl, hS⟩ := hcut
  go_wp2_with fail
  refine (truth_any _ _).mono ?_
  rintro e w1 ⟨rfl, q1⟩
  replace hS := hS.next q1
  obtain ⟨⟨r0, r1, r2⟩, t0, t1, t2⟩ := cells3 hS.res
  have hB := hS.below
  go_wp2_with fail
  exact bodyPost_ret (v := V 3 (b2n (decide (c < 0))) nul) (by simp [results, Tryz.results117, go_sem, r0, r1, r2]) rfl ⟨rfl, hB.trans (below3 (by omega))⟩
set_option maxRecDepth 100000 in
set_option maxHeartbeats 8000000 in
theorem hold_4 (k n : Int) (s : ByteArray) (k' n' : Int) (s' : ByteArray) (w : World) (h4 : (k == 4) = false) (h4' : (k' == 4) = false) :
    Calls Tryz.prog 117 #[.int .i64 4, V k n s, V k' n' s'] w fun e w' => e = .returned (V 3 (b2n (decide (cmpB k n s k' n' s' ≤ 0))) nul) ∧ Below w.heap.size w w' := by
  have hS := MS.start w k n s k' n' s'
  have H4 : Hid (¬ k = 4) := beq_eq_false_iff_ne.1 h4
  have H4' : Hid (¬ k' = 4) := beq_eq_false_iff_ne.1 h4'
  obtain ⟨c, hc⟩ : ∃ c, cmpB k n s k' n' s' = c := ⟨_, rfl⟩
  have HC : Hid (cmpV (bsK k k') (bsN k n) (bsS k s) (bsK k' k) (bsN k' n') (bsS k' s') = c) := hc
  rw [hc]
  clear hc
  go_enter Tryz.func117, Tryz.ntmps117
  go_upto_region 4 with (go_at_call 137; refine (firstBad_no _ _ _ _ _ _ _ h4 h4').mono ?_; rintro e w1 ⟨rfl, h1⟩)
  replace hS := (hS.next h1).alloc (O3 0 0 nul)
  clear h1
  clear h4 h4'
  go_cut [9] (fun s9 wx => s9 = .int .i64 c ∧ MS w k n s k' n' s' wx)
  case first =>
    have h0d := (hS.next (drew_below _)).opened
    have ⟨q0, q1, q2, q3, q4, q5, q6⟩ := hS.opened
    go_region_held3 (fun wx => MO w k n s k' n' s' wx) (first | exact h0d | exact mo_below (by assumption) (by assumption)) (first | (go_at_call 140; refine (blankAs_any _ _ _ _ _ (by first | exact H4.out | exact H4'.out)).mono ?_; rintro e wa ⟨rfl, ha⟩) | (go_at_call 41; refine (compare_bw _ _ _ _ _ _ _).mono ?_; rintro e wa ⟨rfl, ha⟩))
    all_goals
      go_wp2_with fail
      go_meet
      case rel => exact ⟨by rw [HC.out], mo_ms (by assumption)⟩
  case rest =>
  clear hS H4 H4' HC
  obtain ⟨rfl, hS⟩ := hcut
  go_wp2_with fail
  refine (truth_any _ _).mono ?_
  rintro e w1 ⟨rfl, q1⟩
  replace hS := hS.next q1
  obtain ⟨⟨r0, r1, r2⟩, t0, t1, t2⟩ := cells3 hS.res
  have hB := hS.below
  go_wp2_with fail
  exact bodyPost_ret (v := V 3 (b2n (decide (c ≤ 0))) nul) (by simp [results, Tryz.results117, go_sem, r0, r1, r2]) rfl ⟨rfl, hB.trans (below3 (by omega))⟩
set_option maxRecDepth 100000 in
set_option maxHeartbeats 8000000 in
theorem hold_5 (k n : Int) (s : ByteArray) (k' n' : Int) (s' : ByteArray) (w : World) (h4 : (k == 4) = false) (h4' : (k' == 4) = false) :
    Calls Tryz.prog 117 #[.int .i64 5, V k n s, V k' n' s'] w fun e w' => e = .returned (V 3 (b2n (decide (0 < cmpB k n s k' n' s'))) nul) ∧ Below w.heap.size w w' := by
  have hS := MS.start w k n s k' n' s'
  have H4 : Hid (¬ k = 4) := beq_eq_false_iff_ne.1 h4
  have H4' : Hid (¬ k' = 4) := beq_eq_false_iff_ne.1 h4'
  obtain ⟨c, hc⟩ : ∃ c, cmpB k n s k' n' s' = c := ⟨_, rfl⟩
  have HC : Hid (cmpV (bsK k k') (bsN k n) (bsS k s) (bsK k' k) (bsN k' n') (bsS k' s') = c) := hc
  rw [hc]
  clear hc
  go_enter Tryz.func117, Tryz.ntmps117
  go_upto_region 4 with (go_at_call 137; refine (firstBad_no _ _ _ _ _ _ _ h4 h4').mono ?_; rintro e w1 ⟨rfl, h1⟩)
  replace hS := (hS.next h1).alloc (O3 0 0 nul)
  clear h1
  clear h4 h4'
  go_cut [9] (fun s9 wx => s9 = .int .i64 c ∧ MS w k n s k' n' s' wx)
  case first =>
    have h0d := (hS.next (drew_below _)).opened
    have ⟨q0, q1, q2, q3, q4, q5, q6⟩ := hS.opened
    go_region_held3 (fun wx => MO w k n s k' n' s' wx) (first | exact h0d | exact mo_below (by assumption) (by assumption)) (first | (go_at_call 140; refine (blankAs_any _ _ _ _ _ (by first | exact H4.out | exact H4'.out)).mono ?_; rintro e wa ⟨rfl, ha⟩) | (go_at_call 41; refine (compare_bw _ _ _ _ _ _ _).mono ?_; rintro e wa ⟨rfl, ha⟩))
    all_goals
      go_wp2_with fail
      go_meet
      case rel => exact ⟨by rw [HC.out], mo_ms (by assumption)⟩
  case rest =>
  clear hS H4 H4' HC
  obtain ⟨rfl, hS⟩ := hcut
  go_wp2_with fail
  refine (truth_any _ _).mono ?_
  rintro e w1 ⟨rfl, q1⟩
  replace hS := hS.next q1
  obtain ⟨⟨r0, r1, r2⟩, t0, t1, t2⟩ := cells3 hS.res
  have hB := hS.below
  go_wp2_with fail
  exact bodyPost_ret (v := V 3 (b2n (decide (0 < c))) nul) (by simp [results, Tryz.results117, go_sem, r0, r1, r2]) rfl ⟨rfl, hB.trans (below3 (by omega))⟩
set_option maxRecDepth 100000 in
set_option maxHeartbeats 8000000 in
theorem hold_6 (k n : Int) (s : ByteArray) (k' n' : Int) (s' : ByteArray) (w : World) (h4 : (k == 4) = false) (h4' : (k' == 4) = false) :
    Calls Tryz.prog 117 #[.int .i64 6, V k n s, V k' n' s'] w fun e w' => e = .returned (V 3 (b2n (decide (0 ≤ cmpB k n s k' n' s'))) nul) ∧ Below w.heap.size w w' := by
  have hS := MS.start w k n s k' n' s'
  have H4 : Hid (¬ k = 4) := beq_eq_false_iff_ne.1 h4
  have H4' : Hid (¬ k' = 4) := beq_eq_false_iff_ne.1 h4'
  obtain ⟨c, hc⟩ : ∃ c, cmpB k n s k' n' s' = c := ⟨_, rfl⟩
  have HC : Hid (cmpV (bsK k k') (bsN k n) (bsS k s) (bsK k' k) (bsN k' n') (bsS k' s') = c) := hc
  rw [hc]
  clear hc
  go_enter Tryz.func117, Tryz.ntmps117
  go_upto_region 4 with (go_at_call 137; refine (firstBad_no _ _ _ _ _ _ _ h4 h4').mono ?_; rintro e w1 ⟨rfl, h1⟩)
  replace hS := (hS.next h1).alloc (O3 0 0 nul)
  clear h1
  clear h4 h4'
  go_cut [9] (fun s9 wx => s9 = .int .i64 c ∧ MS w k n s k' n' s' wx)
  case first =>
    have h0d := (hS.next (drew_below _)).opened
    have ⟨q0, q1, q2, q3, q4, q5, q6⟩ := hS.opened
    go_region_held3 (fun wx => MO w k n s k' n' s' wx) (first | exact h0d | exact mo_below (by assumption) (by assumption)) (first | (go_at_call 140; refine (blankAs_any _ _ _ _ _ (by first | exact H4.out | exact H4'.out)).mono ?_; rintro e wa ⟨rfl, ha⟩) | (go_at_call 41; refine (compare_bw _ _ _ _ _ _ _).mono ?_; rintro e wa ⟨rfl, ha⟩))
    all_goals
      go_wp2_with fail
      go_meet
      case rel => exact ⟨by rw [HC.out], mo_ms (by assumption)⟩
  case rest =>
  clear hS H4 H4' HC
  obtain ⟨rfl, hS⟩ := hcut
  go_wp2_with fail
  refine (truth_any _ _).mono ?_
  rintro e w1 ⟨rfl, q1⟩
  replace hS := hS.next q1
  obtain ⟨⟨r0, r1, r2⟩, t0, t1, t2⟩ := cells3 hS.res
  have hB := hS.below
  go_wp2_with fail
  exact bodyPost_ret (v := V 3 (b2n (decide (0 ≤ c))) nul) (by simp [results, Tryz.results117, go_sem, r0, r1, r2]) rfl ⟨rfl, hB.trans (below3 (by omega))⟩
/-- What a call returns wherever the package variables hold what the text lays. -/
def Gives (F : Nat) (args : Array Value) (k n : Int) (s : ByteArray) : Prop := ∀ W, Calls Tryz.prog F args W fun e w' => e = .returned (V k n s) ∧ Below W.heap.size W w'
set_option maxRecDepth 100000 in
set_option maxHeartbeats 8000000 in
theorem ptwo_1 (k n : Int) (s : ByteArray) (k' n' : Int) (s' : ByteArray) (rk rn : Int) (rs : ByteArray) (hC : Gives 117 #[.int .i64 1, V k n s, V k' n' s'] rk rn rs) :
    Gives 78 #[.int .i64 1, V k n s, V k' n' s'] rk rn rs := by
  intro w
  have HC : Hid (Gives 117 #[.int .i64 1, V k n s, V k' n' s'] rk rn rs) := hC
  have hS := MS.start w k n s k' n' s'
  clear hC
  go_enter Tryz.func78, Tryz.ntmps78
  go_wp2_with fail
  refine (HC.out _).mono ?_
  rintro e w1 ⟨rfl, q1⟩
  replace hS := hS.next q1
  obtain ⟨⟨r0, r1, r2⟩, t0, t1, t2⟩ := cells3 hS.res
  have hB := hS.below
  go_wp2_with fail
  exact bodyPost_ret (v := V rk rn rs) (by simp [results, Tryz.results78, go_sem, r0, r1, r2]) rfl ⟨rfl, hB.trans (below3 (by omega))⟩
set_option maxRecDepth 100000 in
set_option maxHeartbeats 8000000 in
theorem ptwo_2 (k n : Int) (s : ByteArray) (k' n' : Int) (s' : ByteArray) (rk rn : Int) (rs : ByteArray) (hC : Gives 117 #[.int .i64 2, V k n s, V k' n' s'] rk rn rs) :
    Gives 78 #[.int .i64 2, V k n s, V k' n' s'] rk rn rs := by
  intro w
  have HC : Hid (Gives 117 #[.int .i64 2, V k n s, V k' n' s'] rk rn rs) := hC
  have hS := MS.start w k n s k' n' s'
  clear hC
  go_enter Tryz.func78, Tryz.ntmps78
  go_wp2_with fail
  refine (HC.out _).mono ?_
  rintro e w1 ⟨rfl, q1⟩
  replace hS := hS.next q1
  obtain ⟨⟨r0, r1, r2⟩, t0, t1, t2⟩ := cells3 hS.res
  have hB := hS.below
  go_wp2_with fail
  exact bodyPost_ret (v := V rk rn rs) (by simp [results, Tryz.results78, go_sem, r0, r1, r2]) rfl ⟨rfl, hB.trans (below3 (by omega))⟩
set_option maxRecDepth 100000 in
set_option maxHeartbeats 8000000 in
theorem ptwo_3 (k n : Int) (s : ByteArray) (k' n' : Int) (s' : ByteArray) (rk rn : Int) (rs : ByteArray) (hC : Gives 117 #[.int .i64 3, V k n s, V k' n' s'] rk rn rs) :
    Gives 78 #[.int .i64 3, V k n s, V k' n' s'] rk rn rs := by
  intro w
  have HC : Hid (Gives 117 #[.int .i64 3, V k n s, V k' n' s'] rk rn rs) := hC
  have hS := MS.start w k n s k' n' s'
  clear hC
  go_enter Tryz.func78, Tryz.ntmps78
  go_wp2_with fail
  refine (HC.out _).mono ?_
  rintro e w1 ⟨rfl, q1⟩
  replace hS := hS.next q1
  obtain ⟨⟨r0, r1, r2⟩, t0, t1, t2⟩ := cells3 hS.res
  have hB := hS.below
  go_wp2_with fail
  exact bodyPost_ret (v := V rk rn rs) (by simp [results, Tryz.results78, go_sem, r0, r1, r2]) rfl ⟨rfl, hB.trans (below3 (by omega))⟩
set_option maxRecDepth 100000 in
set_option maxHeartbeats 8000000 in
theorem ptwo_4 (k n : Int) (s : ByteArray) (k' n' : Int) (s' : ByteArray) (rk rn : Int) (rs : ByteArray) (hC : Gives 117 #[.int .i64 4, V k n s, V k' n' s'] rk rn rs) :
    Gives 78 #[.int .i64 4, V k n s, V k' n' s'] rk rn rs := by
  intro w
  have HC : Hid (Gives 117 #[.int .i64 4, V k n s, V k' n' s'] rk rn rs) := hC
  have hS := MS.start w k n s k' n' s'
  clear hC
  go_enter Tryz.func78, Tryz.ntmps78
  go_wp2_with fail
  refine (HC.out _).mono ?_
  rintro e w1 ⟨rfl, q1⟩
  replace hS := hS.next q1
  obtain ⟨⟨r0, r1, r2⟩, t0, t1, t2⟩ := cells3 hS.res
  have hB := hS.below
  go_wp2_with fail
  exact bodyPost_ret (v := V rk rn rs) (by simp [results, Tryz.results78, go_sem, r0, r1, r2]) rfl ⟨rfl, hB.trans (below3 (by omega))⟩
set_option maxRecDepth 100000 in
set_option maxHeartbeats 8000000 in
theorem ptwo_5 (k n : Int) (s : ByteArray) (k' n' : Int) (s' : ByteArray) (rk rn : Int) (rs : ByteArray) (hC : Gives 117 #[.int .i64 5, V k n s, V k' n' s'] rk rn rs) :
    Gives 78 #[.int .i64 5, V k n s, V k' n' s'] rk rn rs := by
  intro w
  have HC : Hid (Gives 117 #[.int .i64 5, V k n s, V k' n' s'] rk rn rs) := hC
  have hS := MS.start w k n s k' n' s'
  clear hC
  go_enter Tryz.func78, Tryz.ntmps78
  go_wp2_with fail
  refine (HC.out _).mono ?_
  rintro e w1 ⟨rfl, q1⟩
  replace hS := hS.next q1
  obtain ⟨⟨r0, r1, r2⟩, t0, t1, t2⟩ := cells3 hS.res
  have hB := hS.below
  go_wp2_with fail
  exact bodyPost_ret (v := V rk rn rs) (by simp [results, Tryz.results78, go_sem, r0, r1, r2]) rfl ⟨rfl, hB.trans (below3 (by omega))⟩
set_option maxRecDepth 100000 in
set_option maxHeartbeats 8000000 in
theorem ptwo_6 (k n : Int) (s : ByteArray) (k' n' : Int) (s' : ByteArray) (rk rn : Int) (rs : ByteArray) (hC : Gives 117 #[.int .i64 6, V k n s, V k' n' s'] rk rn rs) :
    Gives 78 #[.int .i64 6, V k n s, V k' n' s'] rk rn rs := by
  intro w
  have HC : Hid (Gives 117 #[.int .i64 6, V k n s, V k' n' s'] rk rn rs) := hC
  have hS := MS.start w k n s k' n' s'
  clear hC
  go_enter Tryz.func78, Tryz.ntmps78
  go_wp2_with fail
  refine (HC.out _).mono ?_
  rintro e w1 ⟨rfl, q1⟩
  replace hS := hS.next q1
  obtain ⟨⟨r0, r1, r2⟩, t0, t1, t2⟩ := cells3 hS.res
  have hB := hS.below
  go_wp2_with fail
  exact bodyPost_ret (v := V rk rn rs) (by simp [results, Tryz.results78, go_sem, r0, r1, r2]) rfl ⟨rfl, hB.trans (below3 (by omega))⟩
end Go.Proofs.YtbiikodnfaeceaaGreatDoor.so