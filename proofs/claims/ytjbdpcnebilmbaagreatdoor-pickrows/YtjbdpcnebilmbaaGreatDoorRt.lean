
/- The document on operators that hold two values against each other. Conditions: as each theorem says. -/
import Derived.Test.YtjbdpcnebilmbaaGreatDoorRw
namespace Go.Proofs.YtjbdpcnebilmbaaGreatDoor.so
open Go.RowKit Go.Sort Go.Shelf
theorem rnum_any (n : Int) (w : World) :
    Calls Tryz.prog 35 #[.int .i64 n] w fun e w' => e = .returned (V 1 n nul) ∧ Below w.heap.size w w' := by
  go_enter Tryz.func35, Tryz.ntmps35
  go_wp2
  exact bodyPost_ret (v := V 1 n nul) (by simp [results, Tryz.results35, go_sem]) rfl ⟨rfl, (Below.refl _ _).alloc (Nat.le_refl _) _⟩
theorem rtxt_any (s : ByteArray) (w : World) :
    Calls Tryz.prog 25 #[.string s] w fun e w' => e = .returned (V 2 0 s) ∧ Below w.heap.size w w' := by
  go_enter Tryz.func25, Tryz.ntmps25
  go_wp2
  exact bodyPost_ret (v := V 2 0 s) (by simp [results, Tryz.results25, go_sem]) rfl ⟨rfl, (Below.refl _ _).alloc (Nat.le_refl _) _⟩
theorem rtru_any (t : Bool) (w : World) :
    Calls Tryz.prog 28 #[.bool t] w fun e w' => e = .returned (V 3 (b2n t) nul) ∧ Below w.heap.size w w' := by
  cases t
  · go_enter Tryz.func28, Tryz.ntmps28
    go_wp2
    exact bodyPost_ret (v := V 3 0 nul) (by simp [results, Tryz.results28, go_sem]) rfl ⟨rfl, (Below.refl _ _).alloc (Nat.le_refl _) _⟩
  · go_enter Tryz.func28, Tryz.ntmps28
    go_wp2
    exact bodyPost_ret (v := V 3 1 nul) (by simp [results, Tryz.results28, go_sem]) rfl ⟨rfl, (Below.refl _ _).alloc (Nat.le_refl _) _⟩
theorem rcompare_bw (k n k' n' : Int) (s s' : ByteArray) (w : World) : Calls Tryz.prog 26 #[V k n s, V k' n' s'] w fun e w' => e = .returned (.int .i64 (cmpV k n s k' n' s')) ∧ Below w.heap.size w w' := (rcompare_any k n k' n' s s' w).mono fun _ _ h => ⟨h.1, h.2.below⟩
theorem val_kinds {k n : Int} {s : ByteArray} (h : isVal k n s = true) : (k = 0 ∧ s = nul) ∨ (k = 1 ∧ s = nul) ∨ (k = 2 ∧ (s.size : Int) ≤ 200) ∨ (k = 3 ∧ s = nul) ∨ (k = 4 ∧ s = nul) := by
  unfold isVal at h
  by_cases h0 : k = 0
  · rw [if_pos h0, Bool.and_eq_true] at h; exact Or.inl ⟨h0, toList_nil h.2⟩
  rw [if_neg h0] at h
  by_cases h1 : k = 1
  · rw [if_pos h1] at h; exact Or.inr (Or.inl ⟨h1, toList_nil h⟩)
  rw [if_neg h1] at h
  by_cases h2 : k = 2
  · rw [if_pos h2, Bool.and_eq_true, decide_eq_true_eq] at h; exact Or.inr (Or.inr (Or.inl ⟨h2, h.2⟩))
  rw [if_neg h2] at h
  by_cases h3 : k = 3
  · rw [if_pos h3, Bool.and_eq_true] at h; exact Or.inr (Or.inr (Or.inr (Or.inl ⟨h3, toList_nil h.2⟩)))
  rw [if_neg h3] at h
  by_cases h4 : k = 4
  · rw [if_pos h4, Bool.and_eq_true] at h; exact Or.inr (Or.inr (Or.inr (Or.inr ⟨h4, toList_nil h.2⟩)))
  rw [if_neg h4] at h
  cases h
set_option maxHeartbeats 4000000 in
theorem beside_self (k n k' n' : Int) (s s' : ByteArray) (w : World) (h : (k == 0) = false) :
    Calls Tryz.prog 27 #[V k n s, V k' n' s'] w fun e w' => e = .returned (V k n s) ∧ Below w.heap.size w w' := by
  go_enter Tryz.func27, Tryz.ntmps27
  go_wp2_with fail
  exact bodyPost_ret (v := V k n s) (by simp [results, Tryz.results27, go_sem]) rfl ⟨rfl, by (repeat (first | exact Below.refl _ _ | assumption | (refine Below.setCell ?_ (by first | omega | (simp <;> omega)) _) | (refine Below.alloc ?_ (by first | omega | (simp <;> omega)) _) | (refine Below.drew ?_) | (refine Below.trans ?_ (Below.mono (by assumption) (by first | omega | (simp <;> omega))))))⟩
set_option maxHeartbeats 4000000 in
theorem beside_0 (k' n' : Int) (s' : ByteArray) (w : World) (h1 : (k' == 1) = false) (h2 : (k' == 2) = false) (h3 : (k' == 3) = false) :
    Calls Tryz.prog 27 #[V 0 0 nul, V k' n' s'] w fun e w' => e = .returned (V 0 0 nul) ∧ Below w.heap.size w w' := by
  go_enter Tryz.func27, Tryz.ntmps27
  go_wp2_with fail
  exact bodyPost_ret (v := V 0 0 nul) (by simp [results, Tryz.results27, go_sem]) rfl ⟨rfl, by (repeat (first | exact Below.refl _ _ | assumption | (refine Below.setCell ?_ (by first | omega | (simp <;> omega)) _) | (refine Below.alloc ?_ (by first | omega | (simp <;> omega)) _) | (refine Below.drew ?_) | (refine Below.trans ?_ (Below.mono (by assumption) (by first | omega | (simp <;> omega))))))⟩
set_option maxHeartbeats 4000000 in
theorem beside_1 (n' : Int) (s' : ByteArray) (w : World) :
    Calls Tryz.prog 27 #[V 0 0 nul, V 1 n' s'] w fun e w' => e = .returned (V 1 0 nul) ∧ Below w.heap.size w w' := by
  have hS := MS.start w 0 0 nul 1 n' s'
  go_enter Tryz.func27, Tryz.ntmps27
  go_wp2_with fail
  refine (rnum_any _ _).mono ?_
  rintro e w1 ⟨rfl, q1⟩
  replace hS := hS.next q1
  obtain ⟨⟨r0, r1, r2⟩, t0, t1, t2⟩ := cells3 hS.res
  have hB := hS.below
  go_wp2_with fail
  exact bodyPost_ret (v := V 1 0 nul) (by simp [results, Tryz.results27, go_sem, r0, r1, r2]) rfl ⟨rfl, hB.trans (below3 (by omega))⟩
set_option maxHeartbeats 4000000 in
theorem beside_2 (n' : Int) (s' : ByteArray) (w : World) :
    Calls Tryz.prog 27 #[V 0 0 nul, V 2 n' s'] w fun e w' => e = .returned (V 2 0 nul) ∧ Below w.heap.size w w' := by
  have hS := MS.start w 0 0 nul 2 n' s'
  go_enter Tryz.func27, Tryz.ntmps27
  go_wp2_with fail
  refine (rtxt_any _ _).mono ?_
  rintro e w1 ⟨rfl, q1⟩
  replace hS := hS.next q1
  obtain ⟨⟨r0, r1, r2⟩, t0, t1, t2⟩ := cells3 hS.res
  have hB := hS.below
  go_wp2_with fail
  exact bodyPost_ret (v := V 2 0 nul) (by simp [results, Tryz.results27, go_sem, r0, r1, r2]) rfl ⟨rfl, hB.trans (below3 (by omega))⟩
set_option maxHeartbeats 4000000 in
theorem beside_3 (n' : Int) (s' : ByteArray) (w : World) :
    Calls Tryz.prog 27 #[V 0 0 nul, V 3 n' s'] w fun e w' => e = .returned (V 3 0 nul) ∧ Below w.heap.size w w' := by
  have hS := MS.start w 0 0 nul 3 n' s'
  go_enter Tryz.func27, Tryz.ntmps27
  go_wp2_with fail
  refine (rtru_any _ _).mono ?_
  rintro e w1 ⟨rfl, q1⟩
  replace hS := hS.next q1
  obtain ⟨⟨r0, r1, r2⟩, t0, t1, t2⟩ := cells3 hS.res
  have hB := hS.below
  go_wp2_with fail
  exact bodyPost_ret (v := V 3 0 nul) (by simp [results, Tryz.results27, go_sem, r0, r1, r2, b2n]) rfl ⟨rfl, hB.trans (below3 (by omega))⟩
theorem val_zero {n : Int} {s : ByteArray} (h : isVal 0 n s = true) : n = 0 ∧ s = nul := by
  unfold isVal at h
  rw [if_pos rfl, Bool.and_eq_true, beq_iff_eq] at h
  exact ⟨h.1, toList_nil h.2⟩
theorem beside_any (k n k' n' : Int) (s s' : ByteArray) (w : World) (hv : isVal k n s = true) (hv' : isVal k' n' s' = true) :
    Calls Tryz.prog 27 #[V k n s, V k' n' s'] w fun e w' => e = .returned (V (bsK k k') (bsN k n) (bsS k s)) ∧ Below w.heap.size w w' := by
  unfold bsK bsN bsS
  by_cases h0 : k = 0
  · subst h0
    obtain ⟨rfl, rfl⟩ := val_zero hv
    rw [if_pos rfl, if_pos rfl, if_pos rfl]
    rcases val_kinds hv' with ⟨rfl, _⟩ | ⟨rfl, _⟩ | ⟨rfl, _⟩ | ⟨rfl, _⟩ | ⟨rfl, _⟩
    · exact beside_0 0 n' s' w (by decide) (by decide) (by decide)
    · exact beside_1 n' s' w
    · exact beside_2 n' s' w
    · exact beside_3 n' s' w
    · exact beside_0 4 n' s' w (by decide) (by decide) (by decide)
  · rw [if_neg h0, if_neg h0, if_neg h0]
    exact beside_self k n k' n' s s' w (beq_eq_false_iff_ne.2 h0)
set_option maxRecDepth 100000 in
set_option maxHeartbeats 8000000 in
theorem rtwo_a (op : Int) (h1 : 1 ≤ op) (h7 : op ≤ 7) (n : Int) (s : ByteArray) (k' n' : Int) (s' : ByteArray) (w : World) :
    Calls Tryz.prog 13 #[.int .i64 op, V 4 n s, V k' n' s'] w fun e w' => e = .returned (V 4 n s) ∧ Below w.heap.size w w' := by
  go_enter Tryz.func13, Tryz.ntmps13
  go_wp2_with fail
  exact bodyPost_ret (v := V 4 n s) (by simp [results, Tryz.results13, go_sem]) rfl ⟨rfl, by (repeat (first | exact Below.refl _ _ | assumption | (refine Below.setCell ?_ (by first | omega | (simp <;> omega)) _) | (refine Below.alloc ?_ (by first | omega | (simp <;> omega)) _) | (refine Below.drew ?_)))⟩
set_option maxRecDepth 100000 in
set_option maxHeartbeats 8000000 in
theorem rtwo_b (op : Int) (h1 : 1 ≤ op) (h7 : op ≤ 7) (k n : Int) (s : ByteArray) (n' : Int) (s' : ByteArray) (h4 : (k == 4) = false) (w : World) :
    Calls Tryz.prog 13 #[.int .i64 op, V k n s, V 4 n' s'] w fun e w' => e = .returned (V 4 n' s') ∧ Below w.heap.size w w' := by
  go_enter Tryz.func13, Tryz.ntmps13
  go_wp2_with fail
  exact bodyPost_ret (v := V 4 n' s') (by simp [results, Tryz.results13, go_sem]) rfl ⟨rfl, by (repeat (first | exact Below.refl _ _ | assumption | (refine Below.setCell ?_ (by first | omega | (simp <;> omega)) _) | (refine Below.alloc ?_ (by first | omega | (simp <;> omega)) _) | (refine Below.drew ?_)))⟩
set_option maxRecDepth 100000 in
set_option maxHeartbeats 8000000 in
theorem rtwo_1 (k n : Int) (s : ByteArray) (k' n' : Int) (s' : ByteArray) (w : World) (h4 : (k == 4) = false) (h4' : (k' == 4) = false) (hv : isVal k n s = true) (hv' : isVal k' n' s' = true) :
    Calls Tryz.prog 13 #[.int .i64 1, V k n s, V k' n' s'] w fun e w' => e = .returned (V 3 (b2n (cmpB k n s k' n' s' == 0)) nul) ∧ Below w.heap.size w w' := by
  have hS := MS.start w k n s k' n' s'
  have HV : Hid (isVal k n s = true) := hv
  have HV' : Hid (isVal k' n' s' = true) := hv'
  clear hv hv'
  obtain ⟨c, hc⟩ : ∃ c, cmpB k n s k' n' s' = c := ⟨_, rfl⟩
  have HC : Hid (cmpV (bsK k k') (bsN k n) (bsS k s) (bsK k' k) (bsN k' n') (bsS k' s') = c) := hc
  rw [hc]
  clear hc
  obtain ⟨⟨a0, a1, a2⟩, c0, c1, c2⟩ := cells3 hS.a
  obtain ⟨⟨b0, b1, b2⟩, d0, d1, d2⟩ := cells3 hS.b
  go_enter Tryz.func13, Tryz.ntmps13
  go_upto_region 17 with fail
  clear a0 a1 a2 c0 c1 c2 b0 b1 b2 d0 d1 d2
  go_cut [8] (fun s8 wx => s8 = .int .i64 c ∧ MS w k n s k' n' s' wx)
  case first =>
    have h0d := (hS.next (drew_below _)).opened
    have ⟨q0, q1, q2, q3, q4, q5, q6⟩ := hS.opened
    go_region_held3 (fun wx => MO w k n s k' n' s' wx) (first | exact h0d | exact mo_below (by assumption) (by assumption)) (first | (go_at_call 27; refine (beside_any _ _ _ _ _ _ _ (by first | exact HV.out | exact HV'.out) (by first | exact HV.out | exact HV'.out)).mono ?_; rintro e wa ⟨rfl, ha⟩) | (go_at_call 26; refine (rcompare_bw _ _ _ _ _ _ _).mono ?_; rintro e wa ⟨rfl, ha⟩))
    all_goals
      go_wp2_with fail
      go_meet
      case rel => exact ⟨by rw [HC.out], mo_ms (by assumption)⟩
  case rest =>
  clear hS HV HV' HC
  obtain ⟨rfl, hS⟩ := hcut
  go_wp2_with fail
  refine (rtru_any _ _).mono ?_
  rintro e w1 ⟨rfl, q1⟩
  replace hS := hS.next q1
  obtain ⟨⟨r0, r1, r2⟩, t0, t1, t2⟩ := cells3 hS.res
  have hB := hS.below
  go_wp2_with fail
  exact bodyPost_ret (v := V 3 (b2n (c == 0)) nul) (by simp [results, Tryz.results13, go_sem, r0, r1, r2]) rfl ⟨rfl, hB.trans (below3 (by omega))⟩
set_option maxRecDepth 100000 in
set_option maxHeartbeats 8000000 in
theorem rtwo_2 (k n : Int) (s : ByteArray) (k' n' : Int) (s' : ByteArray) (w : World) (h4 : (k == 4) = false) (h4' : (k' == 4) = false) (hv : isVal k n s = true) (hv' : isVal k' n' s' = true) :
    Calls Tryz.prog 13 #[.int .i64 2, V k n s, V k' n' s'] w fun e w' => e = .returned (V 3 (b2n (cmpB k n s k' n' s' != 0)) nul) ∧ Below w.heap.size w w' := by
  have hS := MS.start w k n s k' n' s'
  have HV : Hid (isVal k n s = true) := hv
  have HV' : Hid (isVal k' n' s' = true) := hv'
  clear hv hv'
  obtain ⟨c, hc⟩ : ∃ c, cmpB k n s k' n' s' = c := ⟨_, rfl⟩
  have HC : Hid (cmpV (bsK k k') (bsN k n) (bsS k s) (bsK k' k) (bsN k' n') (bsS k' s') = c) := hc
  rw [hc]
  clear hc
  obtain ⟨⟨a0, a1, a2⟩, c0, c1, c2⟩ := cells3 hS.a
  obtain ⟨⟨b0, b1, b2⟩, d0, d1, d2⟩ := cells3 hS.b
  go_enter Tryz.func13, Tryz.ntmps13
  go_upto_region 17 with fail
  clear a0 a1 a2 c0 c1 c2 b0 b1 b2 d0 d1 d2
  go_cut [8] (fun s8 wx => s8 = .int .i64 c ∧ MS w k n s k' n' s' wx)
  case first =>
    have h0d := (hS.next (drew_below _)).opened
    have ⟨q0, q1, q2, q3, q4, q5, q6⟩ := hS.opened
    go_region_held3 (fun wx => MO w k n s k' n' s' wx) (first | exact h0d | exact mo_below (by assumption) (by assumption)) (first | (go_at_call 27; refine (beside_any _ _ _ _ _ _ _ (by first | exact HV.out | exact HV'.out) (by first | exact HV.out | exact HV'.out)).mono ?_; rintro e wa ⟨rfl, ha⟩) | (go_at_call 26; refine (rcompare_bw _ _ _ _ _ _ _).mono ?_; rintro e wa ⟨rfl, ha⟩))
    all_goals
      go_wp2_with fail
      go_meet
      case rel => exact ⟨by rw [HC.out], mo_ms (by assumption)⟩
  case rest =>
  clear hS HV HV' HC
  obtain ⟨rfl, hS⟩ := hcut
  go_wp2_with fail
  refine (rtru_any _ _).mono ?_
  rintro e w1 ⟨rfl, q1⟩
  replace hS := hS.next q1
  obtain ⟨⟨r0, r1, r2⟩, t0, t1, t2⟩ := cells3 hS.res
  have hB := hS.below
  go_wp2_with fail
  exact bodyPost_ret (v := V 3 (b2n (c != 0)) nul) (by simp [results, Tryz.results13, go_sem, r0, r1, r2]) rfl ⟨rfl, hB.trans (below3 (by omega))⟩
set_option maxRecDepth 100000 in
set_option maxHeartbeats 8000000 in
theorem rtwo_3 (k n : Int) (s : ByteArray) (k' n' : Int) (s' : ByteArray) (w : World) (h4 : (k == 4) = false) (h4' : (k' == 4) = false) (hv : isVal k n s = true) (hv' : isVal k' n' s' = true) :
    Calls Tryz.prog 13 #[.int .i64 3, V k n s, V k' n' s'] w fun e w' => e = .returned (V 3 (b2n (decide (cmpB k n s k' n' s' < 0))) nul) ∧ Below w.heap.size w w' := by
  have hS := MS.start w k n s k' n' s'
  have HV : Hid (isVal k n s = true) := hv
  have HV' : Hid (isVal k' n' s' = true) := hv'
  clear hv hv'
  obtain ⟨c, hc⟩ : ∃ c, cmpB k n s k' n' s' = c := ⟨_, rfl⟩
  have HC : Hid (cmpV (bsK k k') (bsN k n) (bsS k s) (bsK k' k) (bsN k' n') (bsS k' s') = c) := hc
  rw [hc]
  clear hc
  obtain ⟨⟨a0, a1, a2⟩, c0, c1, c2⟩ := cells3 hS.a
  obtain ⟨⟨b0, b1, b2⟩, d0, d1, d2⟩ := cells3 hS.b
  go_enter Tryz.func13, Tryz.ntmps13
  go_upto_region 17 with fail
  clear a0 a1 a2 c0 c1 c2 b0 b1 b2 d0 d1 d2
  go_cut [8] (fun s8 wx => s8 = .int .i64 c ∧ MS w k n s k' n' s' wx)
  case first =>
    have h0d := (hS.next (drew_below _)).opened
    have ⟨q0, q1, q2, q3, q4, q5, q6⟩ := hS.opened
    go_region_held3 (fun wx => MO w k n s k' n' s' wx) (first | exact h0d | exact mo_below (by assumption) (by assumption)) (first | (go_at_call 27; refine (beside_any _ _ _ _ _ _ _ (by first | exact HV.out | exact HV'.out) (by first | exact HV.out | exact HV'.out)).mono ?_; rintro e wa ⟨rfl, ha⟩) | (go_at_call 26; refine (rcompare_bw _ _ _ _ _ _ _).mono ?_; rintro e wa ⟨rfl, ha⟩))
    all_goals
      go_wp2_with fail
      go_meet
      case rel => exact ⟨by rw [HC.out], mo_ms (by assumption)⟩
  case rest =>
  clear hS HV HV' HC
  obtain ⟨rfl, hS⟩ := hcut
  go_wp2_with fail
  refine (rtru_any _ _).mono ?_
  rintro e w1 ⟨rfl, q1⟩
  replace hS := hS.next q1
  obtain ⟨⟨r0, r1, r2⟩, t0, t1, t2⟩ := cells3 hS.res
  have hB := hS.below
  go_wp2_with fail
  exact bodyPost_ret (v := V 3 (b2n (decide (c < 0))) nul) (by simp [results, Tryz.results13, go_sem, r0, r1, r2]) rfl ⟨rfl, hB.trans (below3 (by omega))⟩
set_option maxRecDepth 100000 in
set_option maxHeartbeats 8000000 in
theorem rtwo_4 (k n : Int) (s : ByteArray) (k' n' : Int) (s' : ByteArray) (w : World) (h4 : (k == 4) = false) (h4' : (k' == 4) = false) (hv : isVal k n s = true) (hv' : isVal k' n' s' = true) :
    Calls Tryz.prog 13 #[.int .i64 4, V k n s, V k' n' s'] w fun e w' => e = .returned (V 3 (b2n (decide (cmpB k n s k' n' s' ≤ 0))) nul) ∧ Below w.heap.size w w' := by
  have hS := MS.start w k n s k' n' s'
  have HV : Hid (isVal k n s = true) := hv
  have HV' : Hid (isVal k' n' s' = true) := hv'
  clear hv hv'
  obtain ⟨c, hc⟩ : ∃ c, cmpB k n s k' n' s' = c := ⟨_, rfl⟩
  have HC : Hid (cmpV (bsK k k') (bsN k n) (bsS k s) (bsK k' k) (bsN k' n') (bsS k' s') = c) := hc
  rw [hc]
  clear hc
  obtain ⟨⟨a0, a1, a2⟩, c0, c1, c2⟩ := cells3 hS.a
  obtain ⟨⟨b0, b1, b2⟩, d0, d1, d2⟩ := cells3 hS.b
  go_enter Tryz.func13, Tryz.ntmps13
  go_upto_region 17 with fail
  clear a0 a1 a2 c0 c1 c2 b0 b1 b2 d0 d1 d2
  go_cut [8] (fun s8 wx => s8 = .int .i64 c ∧ MS w k n s k' n' s' wx)
  case first =>
    have h0d := (hS.next (drew_below _)).opened
    have ⟨q0, q1, q2, q3, q4, q5, q6⟩ := hS.opened
    go_region_held3 (fun wx => MO w k n s k' n' s' wx) (first | exact h0d | exact mo_below (by assumption) (by assumption)) (first | (go_at_call 27; refine (beside_any _ _ _ _ _ _ _ (by first | exact HV.out | exact HV'.out) (by first | exact HV.out | exact HV'.out)).mono ?_; rintro e wa ⟨rfl, ha⟩) | (go_at_call 26; refine (rcompare_bw _ _ _ _ _ _ _).mono ?_; rintro e wa ⟨rfl, ha⟩))
    all_goals
      go_wp2_with fail
      go_meet
      case rel => exact ⟨by rw [HC.out], mo_ms (by assumption)⟩
  case rest =>
  clear hS HV HV' HC
  obtain ⟨rfl, hS⟩ := hcut
  go_wp2_with fail
  refine (rtru_any _ _).mono ?_
  rintro e w1 ⟨rfl, q1⟩
  replace hS := hS.next q1
  obtain ⟨⟨r0, r1, r2⟩, t0, t1, t2⟩ := cells3 hS.res
  have hB := hS.below
  go_wp2_with fail
  exact bodyPost_ret (v := V 3 (b2n (decide (c ≤ 0))) nul) (by simp [results, Tryz.results13, go_sem, r0, r1, r2]) rfl ⟨rfl, hB.trans (below3 (by omega))⟩
set_option maxRecDepth 100000 in
set_option maxHeartbeats 8000000 in
theorem rtwo_5 (k n : Int) (s : ByteArray) (k' n' : Int) (s' : ByteArray) (w : World) (h4 : (k == 4) = false) (h4' : (k' == 4) = false) (hv : isVal k n s = true) (hv' : isVal k' n' s' = true) :
    Calls Tryz.prog 13 #[.int .i64 5, V k n s, V k' n' s'] w fun e w' => e = .returned (V 3 (b2n (decide (0 < cmpB k n s k' n' s'))) nul) ∧ Below w.heap.size w w' := by
  have hS := MS.start w k n s k' n' s'
  have HV : Hid (isVal k n s = true) := hv
  have HV' : Hid (isVal k' n' s' = true) := hv'
  clear hv hv'
  obtain ⟨c, hc⟩ : ∃ c, cmpB k n s k' n' s' = c := ⟨_, rfl⟩
  have HC : Hid (cmpV (bsK k k') (bsN k n) (bsS k s) (bsK k' k) (bsN k' n') (bsS k' s') = c) := hc
  rw [hc]
  clear hc
  obtain ⟨⟨a0, a1, a2⟩, c0, c1, c2⟩ := cells3 hS.a
  obtain ⟨⟨b0, b1, b2⟩, d0, d1, d2⟩ := cells3 hS.b
  go_enter Tryz.func13, Tryz.ntmps13
  go_upto_region 17 with fail
  clear a0 a1 a2 c0 c1 c2 b0 b1 b2 d0 d1 d2
  go_cut [8] (fun s8 wx => s8 = .int .i64 c ∧ MS w k n s k' n' s' wx)
  case first =>
    have h0d := (hS.next (drew_below _)).opened
    have ⟨q0, q1, q2, q3, q4, q5, q6⟩ := hS.opened
    go_region_held3 (fun wx => MO w k n s k' n' s' wx) (first | exact h0d | exact mo_below (by assumption) (by assumption)) (first | (go_at_call 27; refine (beside_any _ _ _ _ _ _ _ (by first | exact HV.out | exact HV'.out) (by first | exact HV.out | exact HV'.out)).mono ?_; rintro e wa ⟨rfl, ha⟩) | (go_at_call 26; refine (rcompare_bw _ _ _ _ _ _ _).mono ?_; rintro e wa ⟨rfl, ha⟩))
    all_goals
      go_wp2_with fail
      go_meet
      case rel => exact ⟨by rw [HC.out], mo_ms (by assumption)⟩
  case rest =>
  clear hS HV HV' HC
  obtain ⟨rfl, hS⟩ := hcut
  go_wp2_with fail
  refine (rtru_any _ _).mono ?_
  rintro e w1 ⟨rfl, q1⟩
  replace hS := hS.next q1
  obtain ⟨⟨r0, r1, r2⟩, t0, t1, t2⟩ := cells3 hS.res
  have hB := hS.below
  go_wp2_with fail
  exact bodyPost_ret (v := V 3 (b2n (decide (0 < c))) nul) (by simp [results, Tryz.results13, go_sem, r0, r1, r2]) rfl ⟨rfl, hB.trans (below3 (by omega))⟩
set_option maxRecDepth 100000 in
set_option maxHeartbeats 8000000 in
theorem rtwo_6 (k n : Int) (s : ByteArray) (k' n' : Int) (s' : ByteArray) (w : World) (h4 : (k == 4) = false) (h4' : (k' == 4) = false) (hv : isVal k n s = true) (hv' : isVal k' n' s' = true) :
    Calls Tryz.prog 13 #[.int .i64 6, V k n s, V k' n' s'] w fun e w' => e = .returned (V 3 (b2n (decide (0 ≤ cmpB k n s k' n' s'))) nul) ∧ Below w.heap.size w w' := by
  have hS := MS.start w k n s k' n' s'
  have HV : Hid (isVal k n s = true) := hv
  have HV' : Hid (isVal k' n' s' = true) := hv'
  clear hv hv'
  obtain ⟨c, hc⟩ : ∃ c, cmpB k n s k' n' s' = c := ⟨_, rfl⟩
  have HC : Hid (cmpV (bsK k k') (bsN k n) (bsS k s) (bsK k' k) (bsN k' n') (bsS k' s') = c) := hc
  rw [hc]
  clear hc
  obtain ⟨⟨a0, a1, a2⟩, c0, c1, c2⟩ := cells3 hS.a
  obtain ⟨⟨b0, b1, b2⟩, d0, d1, d2⟩ := cells3 hS.b
  go_enter Tryz.func13, Tryz.ntmps13
  go_upto_region 17 with fail
  clear a0 a1 a2 c0 c1 c2 b0 b1 b2 d0 d1 d2
  go_cut [8] (fun s8 wx => s8 = .int .i64 c ∧ MS w k n s k' n' s' wx)
  case first =>
    have h0d := (hS.next (drew_below _)).opened
    have ⟨q0, q1, q2, q3, q4, q5, q6⟩ := hS.opened
    go_region_held3 (fun wx => MO w k n s k' n' s' wx) (first | exact h0d | exact mo_below (by assumption) (by assumption)) (first | (go_at_call 27; refine (beside_any _ _ _ _ _ _ _ (by first | exact HV.out | exact HV'.out) (by first | exact HV.out | exact HV'.out)).mono ?_; rintro e wa ⟨rfl, ha⟩) | (go_at_call 26; refine (rcompare_bw _ _ _ _ _ _ _).mono ?_; rintro e wa ⟨rfl, ha⟩))
    all_goals
      go_wp2_with fail
      go_meet
      case rel => exact ⟨by rw [HC.out], mo_ms (by assumption)⟩
  case rest =>
  clear hS HV HV' HC
  obtain ⟨rfl, hS⟩ := hcut
  go_wp2_with fail
  refine (rtru_any _ _).mono ?_
  rintro e w1 ⟨rfl, q1⟩
  replace hS := hS.next q1
  obtain ⟨⟨r0, r1, r2⟩, t0, t1, t2⟩ := cells3 hS.res
  have hB := hS.below
  go_wp2_with fail
  exact bodyPost_ret (v := V 3 (b2n (decide (0 ≤ c))) nul) (by simp [results, Tryz.results13, go_sem, r0, r1, r2]) rfl ⟨rfl, hB.trans (below3 (by omega))⟩
end Go.Proofs.YtjbdpcnebilmbaaGreatDoor.so