
/- The document on values: which of two stands ahead, and what is a value. Conditions: as each theorem says. -/
import Derived.Test.YtehamdkjdbaceaaDoorSc
namespace Go.Proofs.YtehamdkjdbaceaaDoor.so
open Go.RowKit Go.Sort Go.Shelf
theorem lt_of_blk {w : World} {b : Nat} {o : Obj} (h : w.heap[b]? = some o) : b < w.heap.size := (Array.getElem?_eq_some_iff.1 h).1
theorem hat (w : World) (o : Obj) (i : Nat) (h : i = w.heap.size) : (w.alloc o).heap[i]? = some o := by subst h; exact heap_alloc_new w o
theorem cells3 {w : World} {b : Nat} {a0 a1 a2 : Value} {t : TypeId} (h : w.heap[b]? = some (.cells #[a0, a1, a2] t (0, 0))) :
    (w.cell? ⟨b, 0, none⟩ = some a0 ∧ w.cell? ⟨b, 1, none⟩ = some a1 ∧ w.cell? ⟨b, 2, none⟩ = some a2) ∧ (w.frozen? ⟨b, 0, none⟩ = false ∧ w.frozen? ⟨b, 1, none⟩ = false ∧ w.frozen? ⟨b, 2, none⟩ = false) := by
  simp [World.cell?, World.frozen?, h]
abbrev O3 (k n : Int) (s : ByteArray) : Obj := .cells #[.int .i64 k, .int .i64 n, .string s] 45
theorem bkg {wx wy : World} {b : Nat} {o : Obj} (h : wx.heap[b]? = some o) (hb : Gr wx wy) : wy.heap[b]? = some o := by rw [hb.below.block _ (lt_of_blk h)]; exact h
theorem bl_cbt : ∀ a b : List UInt8, Op.bytesLess a b = true ↔ Lib.compareBytes a b < 0
  | [], [] => by simp [Lib.compareBytes, Op.bytesLess]
  | [], _ :: _ => by simp [Lib.compareBytes, Op.bytesLess]
  | _ :: _, [] => by simp [Lib.compareBytes, Op.bytesLess]
  | a :: al, b :: bl => by
    have ih := bl_cbt al bl
    have e1 : Lib.compareBytes (a :: al) (b :: bl) = if a < b then -1 else if b < a then 1 else Lib.compareBytes al bl := rfl
    have e2 : Op.bytesLess (a :: al) (b :: bl) = (decide (a < b) || (a == b && Op.bytesLess al bl)) := rfl
    rw [e1, e2]
    by_cases h : a < b
    · rw [if_pos h, decide_eq_true h]; simp
    · rw [if_neg h, decide_eq_false h, Bool.false_or]
      by_cases h2 : b < a
      · have hne : a ≠ b := by rintro rfl; exact h h2
        rw [if_pos h2, beq_eq_false_iff_ne.2 hne]; simp
      · have he : a = b := by rw [UInt8.lt_iff_toNat_lt] at *; exact UInt8.toNat_inj.1 (by omega)
        rw [if_neg h2, beq_iff_eq.2 he, Bool.true_and, ih]
theorem bl_cb (a b : List UInt8) : Op.bytesLess a b = decide (Lib.compareBytes a b < 0) := by
  rw [Bool.eq_iff_iff, bl_cbt, decide_eq_true_iff]
theorem cmpI_ltd (a b : Int) : decide (cmpI a b < 0) = decide (a < b) := by
  apply decide_eq_decide.2; unfold cmpI; split <;> (try split) <;> omega
set_option maxHeartbeats 2000000 in
theorem less_kind (k n k' n' : Int) (s s' : ByteArray) (w : World) (h : (k != k') = true) :
    Calls Tryd.prog 43 #[V k n s, V k' n' s'] w fun e w' => e = .returned (.bool (decide (k < k'))) ∧ Gr w w' := by
  go_enter Tryd.func43, Tryd.ntmps43
  go_wp2_with fail
  go_ret
  exact ⟨rfl, ((Gr.refl _).alloc _).alloc _⟩
set_option maxHeartbeats 2000000 in
theorem less_txt (n n' : Int) (s s' : ByteArray) (w : World) :
    Calls Tryd.prog 43 #[V 2 n s, V 2 n' s'] w fun e w' => e = .returned (.bool (Op.bytesLess s.toList s'.toList)) ∧ Gr w w' := by
  go_enter Tryd.func43, Tryd.ntmps43
  go_wp2_with fail
  go_ret
  exact ⟨rfl, ((Gr.refl _).alloc _).alloc _⟩
set_option maxHeartbeats 2000000 in
theorem less_num (k n n' : Int) (s s' : ByteArray) (w : World) (h : (k == 2) = false) :
    Calls Tryd.prog 43 #[V k n s, V k n' s'] w fun e w' => e = .returned (.bool (decide (n < n'))) ∧ Gr w w' := by
  go_enter Tryd.func43, Tryd.ntmps43
  go_wp2_with fail
  go_ret
  exact ⟨rfl, ((Gr.refl _).alloc _).alloc _⟩
theorem less_any (k n k' n' : Int) (s s' : ByteArray) (w : World) :
    Calls Tryd.prog 43 #[V k n s, V k' n' s'] w fun e w' => e = .returned (.bool (decide (cmpV k n s k' n' s' < 0))) ∧ Gr w w' := by
  by_cases hk : k = k'
  · subst hk
    have h0 : ¬ (cmpI k k ≠ 0) := by simp [cmpI]
    by_cases h2 : k = 2
    · subst h2
      have := less_txt n n' s s' w
      rw [bl_cb, ByteArray.toList_eq, ByteArray.toList_eq] at this
      unfold cmpV
      rw [if_neg h0, if_pos rfl]
      exact this
    · unfold cmpV
      rw [if_neg h0, if_neg h2, cmpI_ltd]
      exact less_num k n n' s s' w (beq_eq_false_iff_ne.2 h2)
  · unfold cmpV
    rw [if_pos (fun e => hk (cmpI_zero.1 e)), cmpI_ltd]
    exact less_kind k n k' n' s s' w (bne_iff_ne.2 hk)
/-- Two values, each in a block of its own. -/
structure PS (w : World) (k n : Int) (s : ByteArray) (k' n' : Int) (s' : ByteArray) (wx : World) : Prop where
  a : wx.heap[w.heap.size]? = some (O3 k n s)
  b : wx.heap[w.heap.size + 1]? = some (O3 k' n' s')
  below : Gr w wx
theorem PS.start (w : World) (k n : Int) (s : ByteArray) (k' n' : Int) (s' : ByteArray) : PS w k n s k' n' s' ((w.alloc (O3 k n s)).alloc (O3 k' n' s')) :=
  ⟨by rw [Below.heap_alloc _ _ _ (by simp), hat _ _ _ rfl], hat _ _ _ (by simp), ((Gr.refl _).alloc _).alloc _⟩
theorem PS.next {w wx wy : World} {k n : Int} {s : ByteArray} {k' n' : Int} {s' : ByteArray} (h : PS w k n s k' n' s' wx) (hb : Gr wx wy) : PS w k n s k' n' s' wy := ⟨bkg h.a hb, bkg h.b hb, h.below.trans hb⟩
set_option maxHeartbeats 4000000 in
theorem rcompare_any (k n k' n' : Int) (s s' : ByteArray) (w : World) :
    Calls Tryd.prog 33 #[V k n s, V k' n' s'] w fun e w' => e = .returned (.int .i64 (cmpV k n s k' n' s')) ∧ Gr w w' := by
  have hS := PS.start w k n s k' n' s'
  obtain ⟨c, hc⟩ : ∃ c, cmpV k n s k' n' s' = c := ⟨_, rfl⟩
  have HC1 : Hid (cmpV k n s k' n' s' = c) := hc
  have HC2 : Hid (cmpV k' n' s' k n s = -c) := by unfold Hid; rw [cmpV_neg, hc]
  have HB : Hid (-1 ≤ c ∧ c ≤ 1) := by unfold Hid; rw [← hc]; exact cmpV_bd _ _ _ _ _ _
  rw [hc]
  clear hc
  go_enter Tryd.func33, Tryd.ntmps33
  obtain ⟨⟨o0, o1, o2⟩, p0, p1, p2⟩ := cells3 hS.a
  obtain ⟨⟨a0, a1, a2⟩, c0, c1, c2⟩ := cells3 hS.b
  go_wp2_with fail
  refine (less_any _ _ _ _ _ _ _).mono ?_
  rintro e w1 ⟨rfl, q1⟩
  rw [HC1.out]
  replace hS := hS.next q1
  clear o0 o1 o2 p0 p1 p2 a0 a1 a2 c0 c1 c2
  obtain ⟨⟨o0, o1, o2⟩, p0, p1, p2⟩ := cells3 hS.a
  obtain ⟨⟨a0, a1, a2⟩, c0, c1, c2⟩ := cells3 hS.b
  go_wp2_with fail
  refine (less_any _ _ _ _ _ _ _).mono ?_
  rintro e w2 ⟨rfl, q2⟩
  rw [HC2.out]
  replace hS := hS.next q2
  have hB := hS.below
  have hb := HB.out
  by_cases h1 : c < 0
  · have e1 : decide (c < 0) = true := decide_eq_true h1
    obtain rfl : c = -1 := by omega
    go_wp2_with fail
    go_ret
    exact ⟨rfl, hB⟩
  · by_cases h2 : -c < 0
    · obtain rfl : c = 1 := by omega
      go_wp2_with fail
      go_ret
      exact ⟨rfl, hB⟩
    · obtain rfl : c = 0 := by omega
      go_wp2_with fail
      go_ret
      exact ⟨rfl, hB⟩
set_option maxHeartbeats 2000000 in
theorem is_0a (n : Int) (s : ByteArray) (w : World) (h : (n == 0) = true) :
    Calls Tryd.prog 16 #[V 0 n s] w fun e w' => e = .returned (.bool s.toList.isEmpty) ∧ Below w.heap.size w w' := by
  go_enter Tryd.func16, Tryd.ntmps16
  go_wp2_with fail
  go_ret
  exact ⟨by simp, (Below.refl _ _).alloc (Nat.le_refl _) _⟩
set_option maxHeartbeats 2000000 in
theorem is_0b (n : Int) (s : ByteArray) (w : World) (h : (n == 0) = false) :
    Calls Tryd.prog 16 #[V 0 n s] w fun e w' => e = .returned (.bool false) ∧ Below w.heap.size w w' := by
  go_enter Tryd.func16, Tryd.ntmps16
  go_wp2_with fail
  go_ret
  exact ⟨rfl, (Below.refl _ _).alloc (Nat.le_refl _) _⟩
set_option maxHeartbeats 2000000 in
theorem is_1 (n : Int) (s : ByteArray) (w : World) :
    Calls Tryd.prog 16 #[V 1 n s] w fun e w' => e = .returned (.bool s.toList.isEmpty) ∧ Below w.heap.size w w' := by
  go_enter Tryd.func16, Tryd.ntmps16
  go_wp2_with fail
  go_ret
  exact ⟨by simp, (Below.refl _ _).alloc (Nat.le_refl _) _⟩
set_option maxHeartbeats 2000000 in
theorem is_2a (n : Int) (s : ByteArray) (w : World) (h : (n == 0) = true) :
    Calls Tryd.prog 16 #[V 2 n s] w fun e w' => e = .returned (.bool (decide ((s.size : Int) ≤ 200))) ∧ Below w.heap.size w w' := by
  go_enter Tryd.func16, Tryd.ntmps16
  go_wp2_with fail
  go_ret
  exact ⟨by simp, (Below.refl _ _).alloc (Nat.le_refl _) _⟩
set_option maxHeartbeats 2000000 in
theorem is_2b (n : Int) (s : ByteArray) (w : World) (h : (n == 0) = false) :
    Calls Tryd.prog 16 #[V 2 n s] w fun e w' => e = .returned (.bool false) ∧ Below w.heap.size w w' := by
  go_enter Tryd.func16, Tryd.ntmps16
  go_wp2_with fail
  go_ret
  exact ⟨rfl, (Below.refl _ _).alloc (Nat.le_refl _) _⟩
set_option maxHeartbeats 2000000 in
theorem is_3a (n : Int) (s : ByteArray) (w : World) (h : s.toList.isEmpty = false) :
    Calls Tryd.prog 16 #[V 3 n s] w fun e w' => e = .returned (.bool false) ∧ Below w.heap.size w w' := by
  go_enter Tryd.func16, Tryd.ntmps16
  go_wp2_with fail
  go_ret
  exact ⟨rfl, (Below.refl _ _).alloc (Nat.le_refl _) _⟩
set_option maxHeartbeats 2000000 in
theorem is_3b (n : Int) (s : ByteArray) (w : World) (h : s.toList.isEmpty = true) (h2 : (n == 0) = true) :
    Calls Tryd.prog 16 #[V 3 n s] w fun e w' => e = .returned (.bool true) ∧ Below w.heap.size w w' := by
  go_enter Tryd.func16, Tryd.ntmps16
  go_wp2_with fail
  go_ret
  exact ⟨rfl, (Below.refl _ _).alloc (Nat.le_refl _) _⟩
set_option maxHeartbeats 2000000 in
theorem is_3c (n : Int) (s : ByteArray) (w : World) (h : s.toList.isEmpty = true) (h2 : (n == 0) = false) :
    Calls Tryd.prog 16 #[V 3 n s] w fun e w' => e = .returned (.bool (n == 1)) ∧ Below w.heap.size w w' := by
  go_enter Tryd.func16, Tryd.ntmps16
  go_wp2_with fail
  go_ret
  exact ⟨by simp, (Below.refl _ _).alloc (Nat.le_refl _) _⟩
set_option maxHeartbeats 2000000 in
theorem is_4a (n : Int) (s : ByteArray) (w : World) (h : s.toList.isEmpty = false) :
    Calls Tryd.prog 16 #[V 4 n s] w fun e w' => e = .returned (.bool false) ∧ Below w.heap.size w w' := by
  go_enter Tryd.func16, Tryd.ntmps16
  go_wp2_with fail
  go_ret
  exact ⟨rfl, (Below.refl _ _).alloc (Nat.le_refl _) _⟩
set_option maxHeartbeats 2000000 in
theorem is_4b (n : Int) (s : ByteArray) (w : World) (h : s.toList.isEmpty = true) (h2 : ¬ 1 ≤ n) :
    Calls Tryd.prog 16 #[V 4 n s] w fun e w' => e = .returned (.bool false) ∧ Below w.heap.size w w' := by
  go_enter Tryd.func16, Tryd.ntmps16
  go_wp2_with fail
  go_ret
  exact ⟨rfl, (Below.refl _ _).alloc (Nat.le_refl _) _⟩
set_option maxHeartbeats 2000000 in
theorem is_4c (n : Int) (s : ByteArray) (w : World) (h : s.toList.isEmpty = true) (h2 : 1 ≤ n) :
    Calls Tryd.prog 16 #[V 4 n s] w fun e w' => e = .returned (.bool (decide (n ≤ 6))) ∧ Below w.heap.size w w' := by
  go_enter Tryd.func16, Tryd.ntmps16
  go_wp2_with fail
  go_ret
  exact ⟨by simp, (Below.refl _ _).alloc (Nat.le_refl _) _⟩
set_option maxHeartbeats 2000000 in
theorem is_no (k n : Int) (s : ByteArray) (w : World) (h0 : (k == 0) = false) (h1 : (k == 1) = false) (h2 : (k == 2) = false) (h3 : (k == 3) = false) (h4 : (k == 4) = false) :
    Calls Tryd.prog 16 #[V k n s] w fun e w' => e = .returned (.bool false) ∧ Below w.heap.size w w' := by
  go_enter Tryd.func16, Tryd.ntmps16
  go_wp2_with fail
  go_ret
  exact ⟨rfl, (Below.refl _ _).alloc (Nat.le_refl _) _⟩
theorem is_any (k n : Int) (s : ByteArray) (w : World) :
    Calls Tryd.prog 16 #[V k n s] w fun e w' => e = .returned (.bool (isVal k n s)) ∧ Below w.heap.size w w' := by
  unfold isVal
  by_cases h0 : k = 0
  · subst h0
    rw [if_pos rfl]
    cases h : (n == 0)
    · exact is_0b n s w h
    · exact is_0a n s w h
  by_cases h1 : k = 1
  · subst h1
    rw [if_neg h0, if_pos rfl]
    exact is_1 n s w
  by_cases h2 : k = 2
  · subst h2
    rw [if_neg h0, if_neg h1, if_pos rfl]
    cases h : (n == 0)
    · exact is_2b n s w h
    · exact is_2a n s w h
  by_cases h3 : k = 3
  · subst h3
    rw [if_neg h0, if_neg h1, if_neg h2, if_pos rfl]
    cases h : s.toList.isEmpty
    · rw [Bool.and_false]; exact is_3a n s w h
    · cases h2 : (n == 0)
      · rw [Bool.false_or, Bool.and_true]; exact is_3c n s w h h2
      · exact is_3b n s w h h2
  by_cases h4 : k = 4
  · subst h4
    rw [if_neg h0, if_neg h1, if_neg h2, if_neg h3, if_pos rfl]
    cases h : s.toList.isEmpty
    · rw [Bool.and_false]; exact is_4a n s w h
    · by_cases h2 : 1 ≤ n
      · rw [decide_eq_true h2, Bool.true_and, Bool.and_true]; exact is_4c n s w h h2
      · rw [decide_eq_false h2, Bool.false_and, Bool.false_and]; exact is_4b n s w h h2
  rw [if_neg h0, if_neg h1, if_neg h2, if_neg h3, if_neg h4]
  exact is_no k n s w (beq_eq_false_iff_ne.2 h0) (beq_eq_false_iff_ne.2 h1) (beq_eq_false_iff_ne.2 h2) (beq_eq_false_iff_ne.2 h3) (beq_eq_false_iff_ne.2 h4)
end Go.Proofs.YtehamdkjdbaceaaDoor.so