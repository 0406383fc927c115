/- How the reference holds two values against each other; what both sides' Two and cat are said of: two values held open, and the lengths of their texts. Conditions: as each theorem says. -/
import Derived.Test.YtgoadofnfaidcaaGreatDoorOfN
import Derived.Test.YtgoadofnfaidcaaGreatDoorOrd
import Derived.Test.YtgoadofnfaidcaaGreatDoorRShow
namespace Go.Proofs.YtgoadofnfaidcaaGreatDoor
open Go.RowKit
theorem bl_cbt : ∀ a b : List UInt8, Op.bytesLess a b = true ↔ Lib.compareBytes a b < 0
  | [], [] => by simp [Lib.compareBytes, Op.bytesLess]
  | [], _ :: _ => by simp [Lib.compareBytes, Op.bytesLess]
  | _ :: _, [] => by simp [Lib.compareBytes, Op.bytesLess]
  | a :: al, b :: bl => by
    have ih := bl_cbt al bl
    have e1 : Lib.compareBytes (a :: al) (b :: bl) = if a < b then -1 else if b < a then 1 else Lib.compareBytes al bl := rfl
    have e2 : Op.bytesLess (a :: al) (b :: bl) = (decide (a < b) || (a == b && Op.bytesLess al bl)) := rfl
    rw [e1, e2]
    by_cases h : a < b
    · rw [if_pos h, decide_eq_true h]; simp
    · rw [if_neg h, decide_eq_false h, Bool.false_or]
      by_cases h2 : b < a
      · have hne : a ≠ b := by rintro rfl; exact h h2
        rw [if_pos h2, beq_eq_false_iff_ne.2 hne]; simp
      · have he : a = b := by rw [UInt8.lt_iff_toNat_lt] at *; exact UInt8.toNat_inj.1 (by omega)
        rw [if_neg h2, beq_iff_eq.2 he, Bool.true_and, ih]
theorem bl_cb (a b : List UInt8) : Op.bytesLess a b = decide (Lib.compareBytes a b < 0) := by
  rw [Bool.eq_iff_iff, bl_cbt, decide_eq_true_iff]
theorem cmpI_ltd (a b : Int) : decide (cmpI a b < 0) = decide (a < b) := by
  apply decide_eq_decide.2; unfold cmpI; split <;> (try split) <;> omega
set_option maxHeartbeats 2000000 in
theorem less_kind (k n k' n' : Int) (s s' : ByteArray) (w : World) (h : (k != k') = true) :
    Calls Tryz.prog 54 #[V k n s, V k' n' s'] w fun e w' => e = .returned (.bool (decide (k < k'))) ∧ Below w.heap.size w w' := by
  go_enter Tryz.func54, Tryz.ntmps54
  go_wp2_with fail
  go_ret
  exact ⟨rfl, ((Below.refl _ _).alloc (Nat.le_refl _) _).alloc (by simp) _⟩
set_option maxHeartbeats 2000000 in
theorem less_txt (n n' : Int) (s s' : ByteArray) (w : World) :
    Calls Tryz.prog 54 #[V 2 n s, V 2 n' s'] w fun e w' => e = .returned (.bool (Op.bytesLess s.toList s'.toList)) ∧ Below w.heap.size w w' := by
  go_enter Tryz.func54, Tryz.ntmps54
  go_wp2_with fail
  go_ret
  exact ⟨rfl, ((Below.refl _ _).alloc (Nat.le_refl _) _).alloc (by simp) _⟩
set_option maxHeartbeats 2000000 in
theorem less_num (k n n' : Int) (s s' : ByteArray) (w : World) (h : (k == 2) = false) :
    Calls Tryz.prog 54 #[V k n s, V k n' s'] w fun e w' => e = .returned (.bool (decide (n < n'))) ∧ Below w.heap.size w w' := by
  go_enter Tryz.func54, Tryz.ntmps54
  go_wp2_with fail
  go_ret
  exact ⟨rfl, ((Below.refl _ _).alloc (Nat.le_refl _) _).alloc (by simp) _⟩
theorem less_any (k n k' n' : Int) (s s' : ByteArray) (w : World) :
    Calls Tryz.prog 54 #[V k n s, V k' n' s'] w fun e w' => e = .returned (.bool (decide (cmpV k n s k' n' s' < 0))) ∧ Below w.heap.size w w' := by
  by_cases hk : k = k'
  · subst hk
    have h0 : ¬ (cmpI k k ≠ 0) := by simp [cmpI]
    by_cases h2 : k = 2
    · subst h2
      have := less_txt n n' s s' w
      rw [bl_cb, ByteArray.toList_eq, ByteArray.toList_eq] at this
      unfold cmpV
      rw [if_neg h0, if_pos rfl]
      exact this
    · unfold cmpV
      rw [if_neg h0, if_neg h2, cmpI_ltd]
      exact less_num k n n' s s' w (beq_eq_false_iff_ne.2 h2)
  · unfold cmpV
    rw [if_pos (fun e => hk (cmpI_zero.1 e)), cmpI_ltd]
    exact less_kind k n k' n' s s' w (bne_iff_ne.2 hk)
/-- Two values, each in a block of its own. -/
structure PS (w : World) (k n : Int) (s : ByteArray) (k' n' : Int) (s' : ByteArray) (wx : World) : Prop where
  a : wx.heap[w.heap.size]? = some (O3 k n s)
  b : wx.heap[w.heap.size + 1]? = some (O3 k' n' s')
  below : Below w.heap.size w wx
theorem PS.start (w : World) (k n : Int) (s : ByteArray) (k' n' : Int) (s' : ByteArray) : PS w k n s k' n' s' ((w.alloc (O3 k n s)).alloc (O3 k' n' s')) :=
  ⟨by rw [Below.heap_alloc _ _ _ (by simp), hat _ _ _ rfl], hat _ _ _ (by simp), ((Below.refl _ _).alloc (Nat.le_refl _) _).alloc (by simp) _⟩
theorem PS.next {w wx wy : World} {k n : Int} {s : ByteArray} {k' n' : Int} {s' : ByteArray} (h : PS w k n s k' n' s' wx) (hb : Below wx.heap.size wx wy) : PS w k n s k' n' s' wy := ⟨bk h.a hb, bk h.b hb, bnext h.below hb h.below.size⟩
set_option maxHeartbeats 4000000 in
theorem rcompare_any (k n k' n' : Int) (s s' : ByteArray) (w : World) :
    Calls Tryz.prog 21 #[V k n s, V k' n' s'] w fun e w' => e = .returned (.int .i64 (cmpV k n s k' n' s')) ∧ Below w.heap.size w w' := by
  have hS := PS.start w k n s k' n' s'
  obtain ⟨c, hc⟩ : ∃ c, cmpV k n s k' n' s' = c := ⟨_, rfl⟩
  have HC1 : Hid (cmpV k n s k' n' s' = c) := hc
  have HC2 : Hid (cmpV k' n' s' k n s = -c) := by unfold Hid; rw [cmpV_neg, hc]
  have HB : Hid (-1 ≤ c ∧ c ≤ 1) := by unfold Hid; rw [← hc]; exact cmpV_bd _ _ _ _ _ _
  rw [hc]
  clear hc
  go_enter Tryz.func21, Tryz.ntmps21
  obtain ⟨⟨o0, o1, o2⟩, p0, p1, p2⟩ := cells3 hS.a
  obtain ⟨⟨a0, a1, a2⟩, c0, c1, c2⟩ := cells3 hS.b
  go_wp2_with fail
  refine (less_any _ _ _ _ _ _ _).mono ?_
  rintro e w1 ⟨rfl, q1⟩
  rw [HC1.out]
  replace hS := hS.next q1
  clear o0 o1 o2 p0 p1 p2 a0 a1 a2 c0 c1 c2
  obtain ⟨⟨o0, o1, o2⟩, p0, p1, p2⟩ := cells3 hS.a
  obtain ⟨⟨a0, a1, a2⟩, c0, c1, c2⟩ := cells3 hS.b
  go_wp2_with fail
  refine (less_any _ _ _ _ _ _ _).mono ?_
  rintro e w2 ⟨rfl, q2⟩
  rw [HC2.out]
  replace hS := hS.next q2
  have hB := hS.below
  have hb := HB.out
  by_cases h1 : c < 0
  · have e1 : decide (c < 0) = true := decide_eq_true h1
    obtain rfl : c = -1 := by omega
    go_wp2_with fail
    go_ret
    exact ⟨rfl, hB⟩
  · by_cases h2 : -c < 0
    · obtain rfl : c = 1 := by omega
      go_wp2_with fail
      go_ret
      exact ⟨rfl, hB⟩
    · obtain rfl : c = 0 := by omega
      go_wp2_with fail
      go_ret
      exact ⟨rfl, hB⟩
/-- A value beside another: what is blank takes the other's kind. -/
def bsK (k k' : Int) : Int := if k = 0 then (if k' = 4 then 0 else k') else k
def bsN (k n : Int) : Int := if k = 0 then 0 else n
def bsS (k : Int) (s : ByteArray) : ByteArray := if k = 0 then nul else s
set_option maxHeartbeats 4000000 in
theorem beside_self (k n k' n' : Int) (s s' : ByteArray) (w : World) (h : (k == 0) = false) :
    Calls Tryz.prog 40 #[V k n s, V k' n' s'] w fun e w' => e = .returned (V k n s) ∧ Below w.heap.size w w' := by
  go_enter Tryz.func40, Tryz.ntmps40
  go_wp2_with fail
  exact bodyPost_ret (v := V k n s) (by simp [results, Tryz.results40, go_sem]) rfl ⟨rfl, by (repeat (first | exact Below.refl _ _ | assumption | (refine Below.setCell ?_ (by first | omega | (simp <;> omega)) _) | (refine Below.alloc ?_ (by first | omega | (simp <;> omega)) _) | (refine Below.drew ?_) | (refine Below.trans ?_ (Below.mono (by assumption) (by first | omega | (simp <;> omega))))))⟩
set_option maxHeartbeats 4000000 in
theorem beside_0 (k' n' : Int) (s' : ByteArray) (w : World) (h1 : (k' == 1) = false) (h2 : (k' == 2) = false) (h3 : (k' == 3) = false) :
    Calls Tryz.prog 40 #[V 0 0 nul, V k' n' s'] w fun e w' => e = .returned (V 0 0 nul) ∧ Below w.heap.size w w' := by
  go_enter Tryz.func40, Tryz.ntmps40
  go_wp2_with fail
  exact bodyPost_ret (v := V 0 0 nul) (by simp [results, Tryz.results40, go_sem]) rfl ⟨rfl, by (repeat (first | exact Below.refl _ _ | assumption | (refine Below.setCell ?_ (by first | omega | (simp <;> omega)) _) | (refine Below.alloc ?_ (by first | omega | (simp <;> omega)) _) | (refine Below.drew ?_) | (refine Below.trans ?_ (Below.mono (by assumption) (by first | omega | (simp <;> omega))))))⟩
set_option maxHeartbeats 4000000 in
theorem beside_1 (n' : Int) (s' : ByteArray) (w : World) :
    Calls Tryz.prog 40 #[V 0 0 nul, V 1 n' s'] w fun e w' => e = .returned (V 1 0 nul) ∧ Below w.heap.size w w' := by
  have hS := MS.start w 0 0 nul 1 n' s'
  go_enter Tryz.func40, Tryz.ntmps40
  go_wp2_with fail
  refine (rnum_any _ _).mono ?_
  rintro e w1 ⟨rfl, q1⟩
  replace hS := hS.next q1
  obtain ⟨⟨r0, r1, r2⟩, t0, t1, t2⟩ := cells3 hS.res
  have hB := hS.below
  go_wp2_with fail
  exact bodyPost_ret (v := V 1 0 nul) (by simp [results, Tryz.results40, go_sem, r0, r1, r2]) rfl ⟨rfl, hB.trans (below3 (by omega))⟩
set_option maxHeartbeats 4000000 in
theorem beside_2 (n' : Int) (s' : ByteArray) (w : World) :
    Calls Tryz.prog 40 #[V 0 0 nul, V 2 n' s'] w fun e w' => e = .returned (V 2 0 nul) ∧ Below w.heap.size w w' := by
  have hS := MS.start w 0 0 nul 2 n' s'
  go_enter Tryz.func40, Tryz.ntmps40
  go_wp2_with fail
  refine (rtxt_any _ _).mono ?_
  rintro e w1 ⟨rfl, q1⟩
  replace hS := hS.next q1
  obtain ⟨⟨r0, r1, r2⟩, t0, t1, t2⟩ := cells3 hS.res
  have hB := hS.below
  go_wp2_with fail
  exact bodyPost_ret (v := V 2 0 nul) (by simp [results, Tryz.results40, go_sem, r0, r1, r2]) rfl ⟨rfl, hB.trans (below3 (by omega))⟩
set_option maxHeartbeats 4000000 in
theorem beside_3 (n' : Int) (s' : ByteArray) (w : World) :
    Calls Tryz.prog 40 #[V 0 0 nul, V 3 n' s'] w fun e w' => e = .returned (V 3 0 nul) ∧ Below w.heap.size w w' := by
  have hS := MS.start w 0 0 nul 3 n' s'
  go_enter Tryz.func40, Tryz.ntmps40
  go_wp2_with fail
  refine (rtru_any _ _).mono ?_
  rintro e w1 ⟨rfl, q1⟩
  replace hS := hS.next q1
  obtain ⟨⟨r0, r1, r2⟩, t0, t1, t2⟩ := cells3 hS.res
  have hB := hS.below
  go_wp2_with fail
  exact bodyPost_ret (v := V 3 0 nul) (by simp [results, Tryz.results40, go_sem, r0, r1, r2, b2n]) rfl ⟨rfl, hB.trans (below3 (by omega))⟩
theorem val_zero {n : Int} {s : ByteArray} (h : isVal 0 n s = true) : n = 0 ∧ s = nul := by
  unfold isVal at h
  rw [if_pos rfl, Bool.and_eq_true, beq_iff_eq] at h
  exact ⟨h.1, toList_nil h.2⟩
theorem beside_any (k n k' n' : Int) (s s' : ByteArray) (w : World) (hv : isVal k n s = true) (hv' : isVal k' n' s' = true) :
    Calls Tryz.prog 40 #[V k n s, V k' n' s'] w fun e w' => e = .returned (V (bsK k k') (bsN k n) (bsS k s)) ∧ Below w.heap.size w w' := by
  unfold bsK bsN bsS
  by_cases h0 : k = 0
  · subst h0
    obtain ⟨rfl, rfl⟩ := val_zero hv
    rw [if_pos rfl, if_pos rfl, if_pos rfl]
    rcases val_kinds hv' with ⟨rfl, _⟩ | ⟨rfl, _⟩ | ⟨rfl, _⟩ | ⟨rfl, _⟩ | ⟨rfl, _⟩
    · exact beside_0 0 n' s' w (by decide) (by decide) (by decide)
    · exact beside_1 n' s' w
    · exact beside_2 n' s' w
    · exact beside_3 n' s' w
    · exact beside_0 4 n' s' w (by decide) (by decide) (by decide)
  · rw [if_neg h0, if_neg h0, if_neg h0]
    exact beside_self k n k' n' s s' w (beq_eq_false_iff_ne.2 h0)
theorem sh_len {k n : Int} {s : ByteArray} (hv : isVal k n s = true) (hb : B64 n) : (sh k n s).size ≤ 200 := by
  unfold sh
  have hl := itoa_len n hb.1 hb.2
  have hs : (itoaB n).size ≤ 20 := by
    show (itoaB n).data.size ≤ 20
    rw [← Array.length_toList]; exact hl
  have ht : (truText n).size ≤ 200 := by unfold truText; split <;> decide
  have hd : (badText n).size ≤ 200 := by unfold badText; repeat' split
                                         all_goals decide
  have hn : nul.size ≤ 200 := by decide
  rcases val_kinds hv with ⟨rfl, _⟩ | ⟨rfl, _⟩ | ⟨rfl, q⟩ | ⟨rfl, _⟩ | ⟨rfl, _⟩
  · simp; exact hn
  · simp; omega
  · simp; omega
  · simp; exact ht
  · simp; exact hd
/-- The two values, opened. -/
abbrev MO (w : World) (k n : Int) (s : ByteArray) (k' n' : Int) (s' : ByteArray) (wx : World) : Prop :=
  wx.cell? ⟨w.heap.size, 0, none⟩ = some (.int .i64 k) ∧ wx.cell? ⟨w.heap.size, 1, none⟩ = some (.int .i64 n) ∧ wx.cell? ⟨w.heap.size, 2, none⟩ = some (.string s) ∧ wx.cell? ⟨w.heap.size + 1, 0, none⟩ = some (.int .i64 k') ∧ wx.cell? ⟨w.heap.size + 1, 1, none⟩ = some (.int .i64 n') ∧ wx.cell? ⟨w.heap.size + 1, 2, none⟩ = some (.string s') ∧ MS w k n s k' n' s' wx
theorem MS.opened {w : World} {k n : Int} {s : ByteArray} {k' n' : Int} {s' : ByteArray} {wx : World} (h : MS w k n s k' n' s' wx) : MO w k n s k' n' s' wx := by
  obtain ⟨⟨o0, o1, o2⟩, -⟩ := cells3 h.a
  obtain ⟨⟨a0, a1, a2⟩, -⟩ := cells3 h.b
  exact ⟨o0, o1, o2, a0, a1, a2, h⟩
theorem mo_ms {w : World} {k n : Int} {s : ByteArray} {k' n' : Int} {s' : ByteArray} {wx : World} (h : MO w k n s k' n' s' wx) : MS w k n s k' n' s' wx := h.2.2.2.2.2.2
theorem mo_below {w : World} {k n : Int} {s : ByteArray} {k' n' : Int} {s' : ByteArray} {wx wy : World} (h : MO w k n s k' n' s' wx) (hb : Below wx.heap.size wx wy) : MO w k n s k' n' s' wy := ((mo_ms h).next hb).opened
/-- How two values stand to each other where what is blank takes the other's kind. -/
def cmpB (k n : Int) (s : ByteArray) (k' n' : Int) (s' : ByteArray) : Int := cmpV (bsK k k') (bsN k n) (bsS k s) (bsK k' k) (bsN k' n') (bsS k' s')
end Go.Proofs.YtgoadofnfaidcaaGreatDoor
