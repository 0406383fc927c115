/- Number and Truth of a value, as the program and as the reference make them; which values are some, by the reference. Conditions: as each theorem says. -/
import Derived.Test.YtgoadofnfaidcaaGreatDoorRRead
import Derived.Test.YtgoadofnfaidcaaGreatDoorNewInt
import Derived.Test.YtgoadofnfaidcaaGreatDoorRead
namespace Go.Proofs.YtgoadofnfaidcaaGreatDoor
open Go.RowKit
theorem hat (w : World) (o : Obj) (i : Nat) (h : i = w.heap.size) : (w.alloc o).heap[i]? = some o := by subst h; exact heap_alloc_new w o
theorem bset {w : World} {b o : Nat} {cs : Array Value} {u : Value} {t : TypeId} {f : Nat × Nat} (h : w.heap[b]? = some (.cells cs t f)) : (w.setCell ⟨b, o, none⟩ u).heap[b]? = some (.cells (cs.setIfInBounds o u) t f) := blk_set h
theorem cells3 {w : World} {b : Nat} {a0 a1 a2 : Value} {t : TypeId} (h : w.heap[b]? = some (.cells #[a0, a1, a2] t (0, 0))) :
    (w.cell? ⟨b, 0, none⟩ = some a0 ∧ w.cell? ⟨b, 1, none⟩ = some a1 ∧ w.cell? ⟨b, 2, none⟩ = some a2) ∧ (w.frozen? ⟨b, 0, none⟩ = false ∧ w.frozen? ⟨b, 1, none⟩ = false ∧ w.frozen? ⟨b, 2, none⟩ = false) := by
  simp [World.cell?, World.frozen?, h]
theorem set3 {w : World} {b : Nat} {a0 a1 a2 u0 u1 u2 : Value} {t : TypeId} (h : w.heap[b]? = some (.cells #[a0, a1, a2] t (0, 0))) :
    (((w.setCell ⟨b, 0, none⟩ u0).setCell ⟨b, 1, none⟩ u1).setCell ⟨b, 2, none⟩ u2).heap[b]? = some (.cells #[u0, u1, u2] t (0, 0)) := by
  rw [bset (bset (bset h))]
  rfl
theorem below3 {w : World} {b B : Nat} (hB : B ≤ b) {u0 u1 u2 : Value} : Below B w (((w.setCell ⟨b, 0, none⟩ u0).setCell ⟨b, 1, none⟩ u1).setCell ⟨b, 2, none⟩ u2) :=
  (((Below.refl _ _).setCell hB _).setCell hB _).setCell hB _
abbrev O3 (k n : Int) (s : ByteArray) : Obj := .cells #[.int .i64 k, .int .i64 n, .string s] 23
theorem bk {wx wy : World} {b : Nat} {o : Obj} (h : wx.heap[b]? = some o) (hb : Below wx.heap.size wx wy) : wy.heap[b]? = some o := by rw [hb.block _ (lt_of_blk h)]; exact h
theorem bkA {wx : World} {b : Nat} {o : Obj} (h : wx.heap[b]? = some o) (o' : Obj) : (wx.alloc o').heap[b]? = some o := bk h ((Below.refl _ _).alloc (Nat.le_refl _) _)
/-- A value's own block, and that of the answer. -/
structure VS (w : World) (k n : Int) (s : ByteArray) (wx : World) : Prop where
  own : wx.heap[w.heap.size]? = some (O3 k n s)
  res : wx.heap[w.heap.size + 1]? = some (O3 0 0 nul)
  below : Below w.heap.size w wx
theorem VS.start (w : World) (k n : Int) (s : ByteArray) : VS w k n s ((w.alloc (O3 k n s)).alloc (O3 0 0 nul)) :=
  ⟨by rw [Below.heap_alloc _ _ _ (by simp), hat _ _ _ rfl], hat _ _ _ (by simp), ((Below.refl _ _).alloc (Nat.le_refl _) _).alloc (by simp) _⟩
theorem VS.next {w wx wy : World} {k n : Int} {s : ByteArray} (h : VS w k n s wx) (hb : Below wx.heap.size wx wy) : VS w k n s wy := ⟨bk h.own hb, bk h.res hb, bnext h.below hb h.below.size⟩
theorem VS.alloc {w wx : World} {k n : Int} {s : ByteArray} (h : VS w k n s wx) (o : Obj) : VS w k n s (wx.alloc o) := h.next ((Below.refl _ _).alloc (Nat.le_refl _) _)
/-- What Read makes of a text, if it is of a kind; else that it is bad. -/
def raK (q : Int) (s : ByteArray) : Int := if (rd s).1 = q then q else 4
def raN (q : Int) (s : ByteArray) : Int := if (rd s).1 = q then (rd s).2.1 else 2
def raS (q : Int) (s : ByteArray) : ByteArray := if (rd s).1 = q then (rd s).2.2 else nul
theorem ra_yes {q : Int} {s : ByteArray} (h : (rd s).1 = q) : raK q s = q ∧ raN q s = (rd s).2.1 ∧ raS q s = (rd s).2.2 := by unfold raK raN raS; rw [if_pos h, if_pos h, if_pos h]; exact ⟨rfl, rfl, rfl⟩
theorem ra_no {q : Int} {s : ByteArray} (h : ¬ (rd s).1 = q) : raK q s = 4 ∧ raN q s = 2 ∧ raS q s = nul := by unfold raK raN raS; rw [if_neg h, if_neg h, if_neg h]; exact ⟨rfl, rfl, rfl⟩
set_option maxRecDepth 100000 in
set_option maxHeartbeats 4000000 in
theorem readAs_any (q : Int) (s : ByteArray) (w : World) (hE : Env w) :
    Calls Tryz.prog 28 #[.int .i64 q, .string s] w fun e w' => e = .returned (V (raK q s) (raN q s) (raS q s)) ∧ Below w.heap.size w w' := by
  obtain ⟨D, hD⟩ : ∃ D, rd s = D := ⟨_, rfl⟩
  obtain ⟨dk, dn, ds⟩ := D
  have HD : Hid (rd s = (dk, dn, ds)) := hD
  have hres := hat w (O3 0 0 nul) _ rfl
  have hE0 := hE.alloc (O3 0 0 nul)
  by_cases h : dk = q
  · have HR : Hid (raK q s = dk ∧ raN q s = dn ∧ raS q s = ds) := by
      have := ra_yes (q := q) (s := s) (by rw [hD]; exact h)
      rw [hD] at this
      exact ⟨this.1.trans h.symm, this.2.1, this.2.2⟩
    have hne : (dk != q) = false := by simp [h]
    clear hD h
    go_enter Tryz.func28, Tryz.ntmps28
    go_wp2_with fail
    refine (read_any s _ hE0).mono ?_
    rintro e w1 ⟨rfl, b1⟩
    rw [HD.out]
    replace hres := bkA (bk hres b1) (O3 dk dn ds)
    have hB := (bnext ((Below.refl w.heap.size w).alloc (Nat.le_refl _) _) b1 (by simp))
    have hB2 := hB.alloc hB.size (O3 dk dn ds)
    obtain ⟨⟨o0, o1, o2⟩, p0, p1, p2⟩ := cells3 hres
    go_wp2_with fail
    exact bodyPost_ret (v := V dk dn ds) (by simp [results, Tryz.results28, go_sem, o0, o1, o2]) rfl ⟨by rw [HR.out.1, HR.out.2.1, HR.out.2.2], hB2.trans (below3 (Nat.le_refl _))⟩
  · have HR : Hid (raK q s = 4 ∧ raN q s = 2 ∧ raS q s = nul) := ra_no (q := q) (s := s) (by rw [hD]; exact h)
    have hne : (dk != q) = true := by simp [h]
    clear hD h
    go_enter Tryz.func28, Tryz.ntmps28
    go_wp2_with fail
    refine (read_any s _ hE0).mono ?_
    rintro e w1 ⟨rfl, b1⟩
    rw [HD.out]
    replace hres := bkA (bk hres b1) (O3 dk dn ds)
    have hB := (bnext ((Below.refl w.heap.size w).alloc (Nat.le_refl _) _) b1 (by simp))
    have hB2 := hB.alloc hB.size (O3 dk dn ds)
    go_wp2_with fail
    refine (bad_any _ _).mono ?_
    rintro e w2 ⟨rfl, b2⟩
    replace hres := bk hres b2
    have hB3 := bnext hB2 b2 hB2.size
    obtain ⟨⟨o0, o1, o2⟩, p0, p1, p2⟩ := cells3 hres
    go_wp2_with fail
    exact bodyPost_ret (v := V 4 2 nul) (by simp [results, Tryz.results28, go_sem, o0, o1, o2]) rfl ⟨by rw [HR.out.1, HR.out.2.1, HR.out.2.2], hB3.trans (below3 (Nat.le_refl _))⟩
set_option maxHeartbeats 2000000 in
theorem pnum_1 (n : Int) (s : ByteArray) (w : World) :
    Calls Tryz.prog 9 #[V 1 n s] w fun e w' => e = .returned (V 1 n s) ∧ Below w.heap.size w w' := by
  go_enter Tryz.func9, Tryz.ntmps9
  go_wp2_with fail
  exact bodyPost_ret (v := V 1 n s) (by simp [results, Tryz.results9, go_sem]) rfl ⟨rfl, by (repeat (first | exact Below.refl _ _ | assumption | (refine Below.setCell ?_ (by first | omega | (simp <;> omega)) _) | (refine Below.alloc ?_ (by first | omega | (simp <;> omega)) _) | (refine Below.drew ?_)))⟩
set_option maxHeartbeats 2000000 in
theorem pnum_4 (n : Int) (s : ByteArray) (w : World) :
    Calls Tryz.prog 9 #[V 4 n s] w fun e w' => e = .returned (V 4 n s) ∧ Below w.heap.size w w' := by
  go_enter Tryz.func9, Tryz.ntmps9
  go_wp2_with fail
  exact bodyPost_ret (v := V 4 n s) (by simp [results, Tryz.results9, go_sem]) rfl ⟨rfl, by (repeat (first | exact Below.refl _ _ | assumption | (refine Below.setCell ?_ (by first | omega | (simp <;> omega)) _) | (refine Below.alloc ?_ (by first | omega | (simp <;> omega)) _) | (refine Below.drew ?_)))⟩
set_option maxHeartbeats 2000000 in
theorem pnum_0 (n : Int) (s : ByteArray) (w : World) :
    Calls Tryz.prog 9 #[V 0 n s] w fun e w' => e = .returned (V 1 0 nul) ∧ Below w.heap.size w w' := by
  have hS := VS.start w 0 n s
  go_enter Tryz.func9, Tryz.ntmps9
  go_wp2_with fail
  refine (number_any _ _).mono ?_
  rintro e w1 ⟨rfl, b1⟩
  replace hS := hS.next b1
  obtain ⟨⟨o0, o1, o2⟩, p0, p1, p2⟩ := cells3 hS.res
  have hB := hS.below
  go_wp2_with fail
  exact bodyPost_ret (v := V 1 0 nul) (by simp [results, Tryz.results9, go_sem, o0, o1, o2]) rfl ⟨rfl, hB.trans (below3 (by omega))⟩
set_option maxHeartbeats 2000000 in
theorem pnum_3 (n : Int) (s : ByteArray) (w : World) :
    Calls Tryz.prog 9 #[V 3 n s] w fun e w' => e = .returned (V 1 n nul) ∧ Below w.heap.size w w' := by
  have hS := VS.start w 3 n s
  go_enter Tryz.func9, Tryz.ntmps9
  go_wp2_with fail
  refine (number_any _ _).mono ?_
  rintro e w1 ⟨rfl, b1⟩
  replace hS := hS.next b1
  obtain ⟨⟨o0, o1, o2⟩, p0, p1, p2⟩ := cells3 hS.res
  have hB := hS.below
  go_wp2_with fail
  exact bodyPost_ret (v := V 1 n nul) (by simp [results, Tryz.results9, go_sem, o0, o1, o2]) rfl ⟨rfl, hB.trans (below3 (by omega))⟩
set_option maxHeartbeats 2000000 in
theorem pnum_2 (n : Int) (s : ByteArray) (w : World) (hE : Env w) :
    Calls Tryz.prog 9 #[V 2 n s] w fun e w' => e = .returned (V (raK 1 s) (raN 1 s) (raS 1 s)) ∧ Below w.heap.size w w' := by
  have hS := VS.start w 2 n s
  have hE0 := (hE.alloc (O3 2 n s)).alloc (O3 0 0 nul)
  go_enter Tryz.func9, Tryz.ntmps9
  go_wp2_with fail
  refine (readAs_any 1 s _ hE0).mono ?_
  rintro e w1 ⟨rfl, b1⟩
  replace hS := hS.next b1
  obtain ⟨⟨o0, o1, o2⟩, p0, p1, p2⟩ := cells3 hS.res
  have hB := hS.below
  go_wp2_with fail
  exact bodyPost_ret (v := V (raK 1 s) (raN 1 s) (raS 1 s)) (by simp [results, Tryz.results9, go_sem, o0, o1, o2]) rfl ⟨rfl, hB.trans (below3 (by omega))⟩
set_option maxHeartbeats 2000000 in
theorem rnumb_1 (n : Int) (s : ByteArray) (w : World) :
    Calls Tryz.prog 13 #[V 1 n s] w fun e w' => e = .returned (V 1 n s) ∧ Below w.heap.size w w' := by
  go_enter Tryz.func13, Tryz.ntmps13
  go_wp2_with fail
  exact bodyPost_ret (v := V 1 n s) (by simp [results, Tryz.results13, go_sem]) rfl ⟨rfl, by (repeat (first | exact Below.refl _ _ | assumption | (refine Below.setCell ?_ (by first | omega | (simp <;> omega)) _) | (refine Below.alloc ?_ (by first | omega | (simp <;> omega)) _) | (refine Below.drew ?_)))⟩
set_option maxHeartbeats 2000000 in
theorem rnumb_4 (n : Int) (s : ByteArray) (w : World) :
    Calls Tryz.prog 13 #[V 4 n s] w fun e w' => e = .returned (V 4 n s) ∧ Below w.heap.size w w' := by
  go_enter Tryz.func13, Tryz.ntmps13
  go_wp2_with fail
  exact bodyPost_ret (v := V 4 n s) (by simp [results, Tryz.results13, go_sem]) rfl ⟨rfl, by (repeat (first | exact Below.refl _ _ | assumption | (refine Below.setCell ?_ (by first | omega | (simp <;> omega)) _) | (refine Below.alloc ?_ (by first | omega | (simp <;> omega)) _) | (refine Below.drew ?_)))⟩
set_option maxHeartbeats 2000000 in
theorem rnumb_0 (n : Int) (s : ByteArray) (w : World) :
    Calls Tryz.prog 13 #[V 0 n s] w fun e w' => e = .returned (V 1 0 nul) ∧ Below w.heap.size w w' := by
  have hS := VS.start w 0 n s
  go_enter Tryz.func13, Tryz.ntmps13
  go_wp2_with fail
  refine (rnum_any _ _).mono ?_
  rintro e w1 ⟨rfl, b1⟩
  replace hS := hS.next b1
  obtain ⟨⟨o0, o1, o2⟩, p0, p1, p2⟩ := cells3 hS.res
  have hB := hS.below
  go_wp2_with fail
  exact bodyPost_ret (v := V 1 0 nul) (by simp [results, Tryz.results13, go_sem, o0, o1, o2]) rfl ⟨rfl, hB.trans (below3 (by omega))⟩
set_option maxHeartbeats 2000000 in
theorem rnumb_3 (n : Int) (s : ByteArray) (w : World) :
    Calls Tryz.prog 13 #[V 3 n s] w fun e w' => e = .returned (V 1 n nul) ∧ Below w.heap.size w w' := by
  have hS := VS.start w 3 n s
  go_enter Tryz.func13, Tryz.ntmps13
  go_wp2_with fail
  refine (rnum_any _ _).mono ?_
  rintro e w1 ⟨rfl, b1⟩
  replace hS := hS.next b1
  obtain ⟨⟨o0, o1, o2⟩, p0, p1, p2⟩ := cells3 hS.res
  have hB := hS.below
  go_wp2_with fail
  exact bodyPost_ret (v := V 1 n nul) (by simp [results, Tryz.results13, go_sem, o0, o1, o2]) rfl ⟨rfl, hB.trans (below3 (by omega))⟩
set_option maxRecDepth 100000 in
set_option maxHeartbeats 4000000 in
theorem rnumb_2 (n : Int) (s : ByteArray) (w : World) (hs : s.size ≤ 140737488355328) :
    Calls Tryz.prog 13 #[V 2 n s] w fun e w' => e = .returned (V (raK 1 s) (raN 1 s) (raS 1 s)) ∧ Below w.heap.size w w' := by
  obtain ⟨D, hD⟩ : ∃ D, rd s = D := ⟨_, rfl⟩
  obtain ⟨dk, dn, ds⟩ := D
  have HD : Hid (rd s = (dk, dn, ds)) := hD
  have hS := VS.start w 2 n s
  by_cases h : dk = 1
  · have HR : Hid (raK 1 s = dk ∧ raN 1 s = dn ∧ raS 1 s = ds) := by
      have := ra_yes (q := 1) (s := s) (by rw [hD]; exact h)
      rw [hD] at this
      exact ⟨this.1.trans h.symm, this.2.1, this.2.2⟩
    have hne : (dk == 1) = true := by simp [h]
    clear hD h
    go_enter Tryz.func13, Tryz.ntmps13
    go_wp2_with fail
    refine (rread_any s _ hs).mono ?_
    rintro e w1 ⟨rfl, b1⟩
    rw [HD.out]
    replace hS := (hS.next b1).alloc (O3 dk dn ds)
    obtain ⟨⟨o0, o1, o2⟩, p0, p1, p2⟩ := cells3 hS.res
    have hB := hS.below
    go_wp2_with fail
    exact bodyPost_ret (v := V dk dn ds) (by simp [results, Tryz.results13, go_sem, o0, o1, o2]) rfl ⟨by rw [HR.out.1, HR.out.2.1, HR.out.2.2], hB.trans (below3 (by omega))⟩
  · have HR : Hid (raK 1 s = 4 ∧ raN 1 s = 2 ∧ raS 1 s = nul) := ra_no (q := 1) (s := s) (by rw [hD]; exact h)
    have hne : (dk == 1) = false := by simp [h]
    clear hD h
    go_enter Tryz.func13, Tryz.ntmps13
    go_wp2_with fail
    refine (rread_any s _ hs).mono ?_
    rintro e w1 ⟨rfl, b1⟩
    rw [HD.out]
    replace hS := (hS.next b1).alloc (O3 dk dn ds)
    go_wp2_with fail
    refine (rbad_any _ _).mono ?_
    rintro e w2 ⟨rfl, b2⟩
    replace hS := hS.next b2
    obtain ⟨⟨o0, o1, o2⟩, p0, p1, p2⟩ := cells3 hS.res
    have hB := hS.below
    go_wp2_with fail
    exact bodyPost_ret (v := V 4 2 nul) (by simp [results, Tryz.results13, go_sem, o0, o1, o2]) rfl ⟨by rw [HR.out.1, HR.out.2.1, HR.out.2.2], hB.trans (below3 (by omega))⟩
set_option maxHeartbeats 2000000 in
theorem ptru_3 (n : Int) (s : ByteArray) (w : World) :
    Calls Tryz.prog 10 #[V 3 n s] w fun e w' => e = .returned (V 3 n s) ∧ Below w.heap.size w w' := by
  go_enter Tryz.func10, Tryz.ntmps10
  go_wp2_with fail
  exact bodyPost_ret (v := V 3 n s) (by simp [results, Tryz.results10, go_sem]) rfl ⟨rfl, by (repeat (first | exact Below.refl _ _ | assumption | (refine Below.setCell ?_ (by first | omega | (simp <;> omega)) _) | (refine Below.alloc ?_ (by first | omega | (simp <;> omega)) _) | (refine Below.drew ?_)))⟩
set_option maxHeartbeats 2000000 in
theorem ptru_4 (n : Int) (s : ByteArray) (w : World) :
    Calls Tryz.prog 10 #[V 4 n s] w fun e w' => e = .returned (V 4 n s) ∧ Below w.heap.size w w' := by
  go_enter Tryz.func10, Tryz.ntmps10
  go_wp2_with fail
  exact bodyPost_ret (v := V 4 n s) (by simp [results, Tryz.results10, go_sem]) rfl ⟨rfl, by (repeat (first | exact Below.refl _ _ | assumption | (refine Below.setCell ?_ (by first | omega | (simp <;> omega)) _) | (refine Below.alloc ?_ (by first | omega | (simp <;> omega)) _) | (refine Below.drew ?_)))⟩
set_option maxHeartbeats 2000000 in
theorem ptru_0 (n : Int) (s : ByteArray) (w : World) :
    Calls Tryz.prog 10 #[V 0 n s] w fun e w' => e = .returned (V 3 (b2n false) nul) ∧ Below w.heap.size w w' := by
  have hS := VS.start w 0 n s
  go_enter Tryz.func10, Tryz.ntmps10
  go_wp2_with fail
  refine (truth_any _ _).mono ?_
  rintro e w1 ⟨rfl, b1⟩
  replace hS := hS.next b1
  obtain ⟨⟨o0, o1, o2⟩, p0, p1, p2⟩ := cells3 hS.res
  have hB := hS.below
  go_wp2_with fail
  exact bodyPost_ret (v := V 3 (b2n false) nul) (by simp [results, Tryz.results10, go_sem, o0, o1, o2]) rfl ⟨rfl, hB.trans (below3 (by omega))⟩
set_option maxHeartbeats 2000000 in
theorem ptru_1 (n : Int) (s : ByteArray) (w : World) :
    Calls Tryz.prog 10 #[V 1 n s] w fun e w' => e = .returned (V 3 (b2n (n != 0)) nul) ∧ Below w.heap.size w w' := by
  have hS := VS.start w 1 n s
  go_enter Tryz.func10, Tryz.ntmps10
  go_wp2_with fail
  refine (truth_any _ _).mono ?_
  rintro e w1 ⟨rfl, b1⟩
  replace hS := hS.next b1
  obtain ⟨⟨o0, o1, o2⟩, p0, p1, p2⟩ := cells3 hS.res
  have hB := hS.below
  go_wp2_with fail
  exact bodyPost_ret (v := V 3 (b2n (n != 0)) nul) (by simp [results, Tryz.results10, go_sem, o0, o1, o2]) rfl ⟨rfl, hB.trans (below3 (by omega))⟩
set_option maxHeartbeats 2000000 in
theorem ptru_2 (n : Int) (s : ByteArray) (w : World) (hE : Env w) :
    Calls Tryz.prog 10 #[V 2 n s] w fun e w' => e = .returned (V (raK 3 s) (raN 3 s) (raS 3 s)) ∧ Below w.heap.size w w' := by
  have hS := VS.start w 2 n s
  have hE0 := (hE.alloc (O3 2 n s)).alloc (O3 0 0 nul)
  go_enter Tryz.func10, Tryz.ntmps10
  go_wp2_with fail
  refine (readAs_any 3 s _ hE0).mono ?_
  rintro e w1 ⟨rfl, b1⟩
  replace hS := hS.next b1
  obtain ⟨⟨o0, o1, o2⟩, p0, p1, p2⟩ := cells3 hS.res
  have hB := hS.below
  go_wp2_with fail
  exact bodyPost_ret (v := V (raK 3 s) (raN 3 s) (raS 3 s)) (by simp [results, Tryz.results10, go_sem, o0, o1, o2]) rfl ⟨rfl, hB.trans (below3 (by omega))⟩
set_option maxHeartbeats 2000000 in
theorem rtrut_3 (n : Int) (s : ByteArray) (w : World) :
    Calls Tryz.prog 14 #[V 3 n s] w fun e w' => e = .returned (V 3 n s) ∧ Below w.heap.size w w' := by
  go_enter Tryz.func14, Tryz.ntmps14
  go_wp2_with fail
  exact bodyPost_ret (v := V 3 n s) (by simp [results, Tryz.results14, go_sem]) rfl ⟨rfl, by (repeat (first | exact Below.refl _ _ | assumption | (refine Below.setCell ?_ (by first | omega | (simp <;> omega)) _) | (refine Below.alloc ?_ (by first | omega | (simp <;> omega)) _) | (refine Below.drew ?_)))⟩
set_option maxHeartbeats 2000000 in
theorem rtrut_4 (n : Int) (s : ByteArray) (w : World) :
    Calls Tryz.prog 14 #[V 4 n s] w fun e w' => e = .returned (V 4 n s) ∧ Below w.heap.size w w' := by
  go_enter Tryz.func14, Tryz.ntmps14
  go_wp2_with fail
  exact bodyPost_ret (v := V 4 n s) (by simp [results, Tryz.results14, go_sem]) rfl ⟨rfl, by (repeat (first | exact Below.refl _ _ | assumption | (refine Below.setCell ?_ (by first | omega | (simp <;> omega)) _) | (refine Below.alloc ?_ (by first | omega | (simp <;> omega)) _) | (refine Below.drew ?_)))⟩
set_option maxHeartbeats 2000000 in
theorem rtrut_0 (n : Int) (s : ByteArray) (w : World) :
    Calls Tryz.prog 14 #[V 0 n s] w fun e w' => e = .returned (V 3 (b2n false) nul) ∧ Below w.heap.size w w' := by
  have hS := VS.start w 0 n s
  go_enter Tryz.func14, Tryz.ntmps14
  go_wp2_with fail
  refine (rtru_any _ _).mono ?_
  rintro e w1 ⟨rfl, b1⟩
  replace hS := hS.next b1
  obtain ⟨⟨o0, o1, o2⟩, p0, p1, p2⟩ := cells3 hS.res
  have hB := hS.below
  go_wp2_with fail
  exact bodyPost_ret (v := V 3 (b2n false) nul) (by simp [results, Tryz.results14, go_sem, o0, o1, o2]) rfl ⟨rfl, hB.trans (below3 (by omega))⟩
set_option maxHeartbeats 2000000 in
theorem rtrut_1 (n : Int) (s : ByteArray) (w : World) :
    Calls Tryz.prog 14 #[V 1 n s] w fun e w' => e = .returned (V 3 (b2n (n != 0)) nul) ∧ Below w.heap.size w w' := by
  have hS := VS.start w 1 n s
  go_enter Tryz.func14, Tryz.ntmps14
  go_wp2_with fail
  refine (rtru_any _ _).mono ?_
  rintro e w1 ⟨rfl, b1⟩
  replace hS := hS.next b1
  obtain ⟨⟨o0, o1, o2⟩, p0, p1, p2⟩ := cells3 hS.res
  have hB := hS.below
  go_wp2_with fail
  exact bodyPost_ret (v := V 3 (b2n (n != 0)) nul) (by simp [results, Tryz.results14, go_sem, o0, o1, o2]) rfl ⟨rfl, hB.trans (below3 (by omega))⟩
set_option maxRecDepth 100000 in
set_option maxHeartbeats 4000000 in
theorem rtrut_2 (n : Int) (s : ByteArray) (w : World) (hs : s.size ≤ 140737488355328) :
    Calls Tryz.prog 14 #[V 2 n s] w fun e w' => e = .returned (V (raK 3 s) (raN 3 s) (raS 3 s)) ∧ Below w.heap.size w w' := by
  obtain ⟨D, hD⟩ : ∃ D, rd s = D := ⟨_, rfl⟩
  obtain ⟨dk, dn, ds⟩ := D
  have HD : Hid (rd s = (dk, dn, ds)) := hD
  have hS := VS.start w 2 n s
  by_cases h : dk = 3
  · have HR : Hid (raK 3 s = dk ∧ raN 3 s = dn ∧ raS 3 s = ds) := by
      have := ra_yes (q := 3) (s := s) (by rw [hD]; exact h)
      rw [hD] at this
      exact ⟨this.1.trans h.symm, this.2.1, this.2.2⟩
    have hne : (dk == 3) = true := by simp [h]
    clear hD h
    go_enter Tryz.func14, Tryz.ntmps14
    go_wp2_with fail
    refine (rread_any s _ hs).mono ?_
    rintro e w1 ⟨rfl, b1⟩
    rw [HD.out]
    replace hS := (hS.next b1).alloc (O3 dk dn ds)
    obtain ⟨⟨o0, o1, o2⟩, p0, p1, p2⟩ := cells3 hS.res
    have hB := hS.below
    go_wp2_with fail
    exact bodyPost_ret (v := V dk dn ds) (by simp [results, Tryz.results14, go_sem, o0, o1, o2]) rfl ⟨by rw [HR.out.1, HR.out.2.1, HR.out.2.2], hB.trans (below3 (by omega))⟩
  · have HR : Hid (raK 3 s = 4 ∧ raN 3 s = 2 ∧ raS 3 s = nul) := ra_no (q := 3) (s := s) (by rw [hD]; exact h)
    have hne : (dk == 3) = false := by simp [h]
    clear hD h
    go_enter Tryz.func14, Tryz.ntmps14
    go_wp2_with fail
    refine (rread_any s _ hs).mono ?_
    rintro e w1 ⟨rfl, b1⟩
    rw [HD.out]
    replace hS := (hS.next b1).alloc (O3 dk dn ds)
    go_wp2_with fail
    refine (rbad_any _ _).mono ?_
    rintro e w2 ⟨rfl, b2⟩
    replace hS := hS.next b2
    obtain ⟨⟨o0, o1, o2⟩, p0, p1, p2⟩ := cells3 hS.res
    have hB := hS.below
    go_wp2_with fail
    exact bodyPost_ret (v := V 4 2 nul) (by simp [results, Tryz.results14, go_sem, o0, o1, o2]) rfl ⟨by rw [HR.out.1, HR.out.2.1, HR.out.2.2], hB.trans (below3 (by omega))⟩
/-- Number of a value. -/
def nbK (k : Int) (s : ByteArray) : Int := if k = 4 then 4 else if k = 2 then raK 1 s else 1
def nbN (k n : Int) (s : ByteArray) : Int := if k = 0 then 0 else if k = 2 then raN 1 s else n
def nbS (k : Int) (s : ByteArray) : ByteArray := if k = 2 then raS 1 s else nul
/-- Truth of a value. -/
def tbK (k : Int) (s : ByteArray) : Int := if k = 4 then 4 else if k = 2 then raK 3 s else 3
def tbN (k n : Int) (s : ByteArray) : Int := if k = 0 then b2n false else if k = 1 then b2n (n != 0) else if k = 2 then raN 3 s else n
def tbS (k : Int) (s : ByteArray) : ByteArray := if k = 2 then raS 3 s else nul
theorem val_kinds {k n : Int} {s : ByteArray} (h : isVal k n s = true) : (k = 0 ∧ s = nul) ∨ (k = 1 ∧ s = nul) ∨ (k = 2 ∧ (s.size : Int) ≤ 200) ∨ (k = 3 ∧ s = nul) ∨ (k = 4 ∧ s = nul) := by
  unfold isVal at h
  by_cases h0 : k = 0
  · rw [if_pos h0, Bool.and_eq_true] at h; exact Or.inl ⟨h0, toList_nil h.2⟩
  rw [if_neg h0] at h
  by_cases h1 : k = 1
  · rw [if_pos h1] at h; exact Or.inr (Or.inl ⟨h1, toList_nil h⟩)
  rw [if_neg h1] at h
  by_cases h2 : k = 2
  · rw [if_pos h2, Bool.and_eq_true, decide_eq_true_eq] at h; exact Or.inr (Or.inr (Or.inl ⟨h2, h.2⟩))
  rw [if_neg h2] at h
  by_cases h3 : k = 3
  · rw [if_pos h3, Bool.and_eq_true] at h; exact Or.inr (Or.inr (Or.inr (Or.inl ⟨h3, toList_nil h.2⟩)))
  rw [if_neg h3] at h
  by_cases h4 : k = 4
  · rw [if_pos h4, Bool.and_eq_true] at h; exact Or.inr (Or.inr (Or.inr (Or.inr ⟨h4, toList_nil h.2⟩)))
  rw [if_neg h4] at h
  cases h
theorem pnumber_any (k n : Int) (s : ByteArray) (w : World) (hv : isVal k n s = true) (hE : Env w) :
    Calls Tryz.prog 9 #[V k n s] w fun e w' => e = .returned (V (nbK k s) (nbN k n s) (nbS k s)) ∧ Below w.heap.size w w' := by
  rcases val_kinds hv with ⟨rfl, rfl⟩ | ⟨rfl, rfl⟩ | ⟨rfl, hs⟩ | ⟨rfl, rfl⟩ | ⟨rfl, rfl⟩
  · exact pnum_0 n _ w
  · exact pnum_1 n _ w
  · exact pnum_2 n s w hE
  · exact pnum_3 n _ w
  · exact pnum_4 n _ w
theorem rnumber_any (k n : Int) (s : ByteArray) (w : World) (hv : isVal k n s = true) :
    Calls Tryz.prog 13 #[V k n s] w fun e w' => e = .returned (V (nbK k s) (nbN k n s) (nbS k s)) ∧ Below w.heap.size w w' := by
  rcases val_kinds hv with ⟨rfl, rfl⟩ | ⟨rfl, rfl⟩ | ⟨rfl, hs⟩ | ⟨rfl, rfl⟩ | ⟨rfl, rfl⟩
  · exact rnumb_0 n _ w
  · exact rnumb_1 n _ w
  · exact rnumb_2 n s w (by omega)
  · exact rnumb_3 n _ w
  · exact rnumb_4 n _ w
theorem ptruth_any (k n : Int) (s : ByteArray) (w : World) (hv : isVal k n s = true) (hE : Env w) :
    Calls Tryz.prog 10 #[V k n s] w fun e w' => e = .returned (V (tbK k s) (tbN k n s) (tbS k s)) ∧ Below w.heap.size w w' := by
  rcases val_kinds hv with ⟨rfl, rfl⟩ | ⟨rfl, rfl⟩ | ⟨rfl, hs⟩ | ⟨rfl, rfl⟩ | ⟨rfl, rfl⟩
  · exact ptru_0 n _ w
  · exact ptru_1 n _ w
  · exact ptru_2 n s w hE
  · exact ptru_3 n _ w
  · exact ptru_4 n _ w
theorem rtruth_any (k n : Int) (s : ByteArray) (w : World) (hv : isVal k n s = true) :
    Calls Tryz.prog 14 #[V k n s] w fun e w' => e = .returned (V (tbK k s) (tbN k n s) (tbS k s)) ∧ Below w.heap.size w w' := by
  rcases val_kinds hv with ⟨rfl, rfl⟩ | ⟨rfl, rfl⟩ | ⟨rfl, hs⟩ | ⟨rfl, rfl⟩ | ⟨rfl, rfl⟩
  · exact rtrut_0 n _ w
  · exact rtrut_1 n _ w
  · exact rtrut_2 n s w (by omega)
  · exact rtrut_3 n _ w
  · exact rtrut_4 n _ w
end Go.Proofs.YtgoadofnfaidcaaGreatDoor
