/- The program's cat and hold. Conditions: as each theorem says. -/
import Derived.Test.YtgoadofnfaidcaaGreatDoorTwoB
namespace Go.Proofs.YtgoadofnfaidcaaGreatDoor
open Go.RowKit
theorem blankAs_any (kk k n : Int) (s : ByteArray) (w : World) (h : ¬ kk = 4) :
    Calls Tryz.prog 70 #[.int .i64 kk, V k n s] w fun e w' => e = .returned (V (bsK k kk) (bsN k n) (bsS k s)) ∧ Below w.heap.size w w' := by
  unfold bsK bsN bsS
  by_cases h0 : k = 0
  · subst h0
    rw [if_pos rfl, if_pos rfl, if_pos rfl, if_neg h]
    exact blankAs_blank kk n s w
  · rw [if_neg h0, if_neg h0, if_neg h0]
    exact blankAs_other kk k n s w (beq_eq_false_iff_ne.2 h0)
set_option maxRecDepth 100000 in
set_option maxHeartbeats 8000000 in
theorem firstBad_a (n k' n' : Int) (s s' : ByteArray) (w : World) :
    Calls Tryz.prog 68 #[V 4 n s, V k' n' s'] w fun e w' => e = .returned (.tuple #[V 4 n s, .bool true]) ∧ Below w.heap.size w w' := by
  go_enter Tryz.func68, Tryz.ntmps68
  go_wp2_with fail
  exact bodyPost_ret (v := .tuple #[V 4 n s, .bool true]) (by simp [results, Tryz.results68, go_sem]) rfl ⟨rfl, by (repeat (first | exact Below.refl _ _ | assumption | (refine Below.setCell ?_ (by first | omega | (simp <;> omega)) _) | (refine Below.alloc ?_ (by first | omega | (simp <;> omega)) _) | (refine Below.drew ?_)))⟩
set_option maxRecDepth 100000 in
set_option maxHeartbeats 8000000 in
theorem firstBad_b (k n n' : Int) (s s' : ByteArray) (w : World) (h : (k == 4) = false) :
    Calls Tryz.prog 68 #[V k n s, V 4 n' s'] w fun e w' => e = .returned (.tuple #[V 4 n' s', .bool true]) ∧ Below w.heap.size w w' := by
  go_enter Tryz.func68, Tryz.ntmps68
  go_wp2_with fail
  exact bodyPost_ret (v := .tuple #[V 4 n' s', .bool true]) (by simp [results, Tryz.results68, go_sem]) rfl ⟨rfl, by (repeat (first | exact Below.refl _ _ | assumption | (refine Below.setCell ?_ (by first | omega | (simp <;> omega)) _) | (refine Below.alloc ?_ (by first | omega | (simp <;> omega)) _) | (refine Below.drew ?_)))⟩
set_option maxRecDepth 100000 in
set_option maxHeartbeats 8000000 in
theorem cat_a (n : Int) (s : ByteArray) (k' n' : Int) (s' : ByteArray) (w : World) :
    Calls Tryz.prog 46 #[V 4 n s, V k' n' s'] w fun e w' => e = .returned (V 4 n s) ∧ Below w.heap.size w w' := by
  have hS := MS.start w 4 n s k' n' s'
  go_enter Tryz.func46, Tryz.ntmps46
  go_wp2_with fail
  refine (firstBad_a _ _ _ _ _ _).mono ?_
  rintro e w1 ⟨rfl, q1⟩
  have hC := hat w1 (O3 4 n s) _ rfl
  replace hS := (hS.next q1).alloc (O3 4 n s)
  obtain ⟨⟨r0, r1, r2⟩, t0, t1, t2⟩ := cells3 hS.res
  obtain ⟨⟨x0, x1, x2⟩, y0, y1, y2⟩ := cells3 hC
  have hB := hS.below
  go_wp2_with fail
  exact bodyPost_ret (v := V 4 n s) (by simp [results, Tryz.results46, go_sem, r0, r1, r2]) rfl ⟨rfl, hB.trans (below3 (by omega))⟩
set_option maxRecDepth 100000 in
set_option maxHeartbeats 8000000 in
theorem cat_b (k n : Int) (s : ByteArray) (n' : Int) (s' : ByteArray) (w : World) (h4 : (k == 4) = false) :
    Calls Tryz.prog 46 #[V k n s, V 4 n' s'] w fun e w' => e = .returned (V 4 n' s') ∧ Below w.heap.size w w' := by
  have hS := MS.start w k n s 4 n' s'
  go_enter Tryz.func46, Tryz.ntmps46
  go_wp2_with fail
  refine (firstBad_b _ _ _ _ _ _ h4).mono ?_
  rintro e w1 ⟨rfl, q1⟩
  have hC := hat w1 (O3 4 n' s') _ rfl
  replace hS := (hS.next q1).alloc (O3 4 n' s')
  obtain ⟨⟨r0, r1, r2⟩, t0, t1, t2⟩ := cells3 hS.res
  obtain ⟨⟨x0, x1, x2⟩, y0, y1, y2⟩ := cells3 hC
  have hB := hS.below
  go_wp2_with fail
  exact bodyPost_ret (v := V 4 n' s') (by simp [results, Tryz.results46, go_sem, r0, r1, r2]) rfl ⟨rfl, hB.trans (below3 (by omega))⟩
set_option maxRecDepth 100000 in
set_option maxHeartbeats 8000000 in
theorem hold_a (op : Int) (n : Int) (s : ByteArray) (k' n' : Int) (s' : ByteArray) (w : World) :
    Calls Tryz.prog 47 #[.int .i64 op, V 4 n s, V k' n' s'] w fun e w' => e = .returned (V 4 n s) ∧ Below w.heap.size w w' := by
  have hS := MS.start w 4 n s k' n' s'
  go_enter Tryz.func47, Tryz.ntmps47
  go_wp2_with fail
  refine (firstBad_a _ _ _ _ _ _).mono ?_
  rintro e w1 ⟨rfl, q1⟩
  have hC := hat w1 (O3 4 n s) _ rfl
  replace hS := (hS.next q1).alloc (O3 4 n s)
  obtain ⟨⟨r0, r1, r2⟩, t0, t1, t2⟩ := cells3 hS.res
  obtain ⟨⟨x0, x1, x2⟩, y0, y1, y2⟩ := cells3 hC
  have hB := hS.below
  go_wp2_with fail
  exact bodyPost_ret (v := V 4 n s) (by simp [results, Tryz.results47, go_sem, r0, r1, r2]) rfl ⟨rfl, hB.trans (below3 (by omega))⟩
set_option maxRecDepth 100000 in
set_option maxHeartbeats 8000000 in
theorem hold_b (op : Int) (k n : Int) (s : ByteArray) (n' : Int) (s' : ByteArray) (w : World) (h4 : (k == 4) = false) :
    Calls Tryz.prog 47 #[.int .i64 op, V k n s, V 4 n' s'] w fun e w' => e = .returned (V 4 n' s') ∧ Below w.heap.size w w' := by
  have hS := MS.start w k n s 4 n' s'
  go_enter Tryz.func47, Tryz.ntmps47
  go_wp2_with fail
  refine (firstBad_b _ _ _ _ _ _ h4).mono ?_
  rintro e w1 ⟨rfl, q1⟩
  have hC := hat w1 (O3 4 n' s') _ rfl
  replace hS := (hS.next q1).alloc (O3 4 n' s')
  obtain ⟨⟨r0, r1, r2⟩, t0, t1, t2⟩ := cells3 hS.res
  obtain ⟨⟨x0, x1, x2⟩, y0, y1, y2⟩ := cells3 hC
  have hB := hS.below
  go_wp2_with fail
  exact bodyPost_ret (v := V 4 n' s') (by simp [results, Tryz.results47, go_sem, r0, r1, r2]) rfl ⟨rfl, hB.trans (below3 (by omega))⟩
set_option maxRecDepth 100000 in
set_option maxHeartbeats 8000000 in
theorem cat_any (k n : Int) (s : ByteArray) (k' n' : Int) (s' : ByteArray) (w : World) (hE : Env w) (h4 : (k == 4) = false) (h4' : (k' == 4) = false) (hv : isVal k n s = true) (hv' : isVal k' n' s' = true) (hb : B64 n) (hb' : B64 n') :
    (Hid (200 < (sh k n s).size + (sh k' n' s').size) → Calls Tryz.prog 46 #[V k n s, V k' n' s'] w fun e w' => e = .returned (V 4 2 nul) ∧ Below w.heap.size w w') ∧
    (Hid ((sh k n s).size + (sh k' n' s').size ≤ 200) → Calls Tryz.prog 46 #[V k n s, V k' n' s'] w fun e w' => e = .returned (V 2 0 (sh k n s ++ sh k' n' s')) ∧ Below w.heap.size w w') := by
  have hS := MS.start w k n s k' n' s'
  have HE : Hid (Env w) := hE
  have hz : ¬ 9223372036854775807 < (sh k n s).size + (sh k' n' s').size := by
    have := sh_len hv hb
    have := sh_len hv' hb'
    omega
  have HBB : Hid (B64 n ∧ B64 n') := ⟨hb, hb'⟩
  clear hb hb' hv hv' hE
  constructor
  all_goals
    intro HL
    go_enter Tryz.func46, Tryz.ntmps46
    go_upto_region 4 with (go_at_call 68; refine (firstBad_no _ _ _ _ _ _ _ h4 h4').mono ?_; rintro e w1 ⟨rfl, h1⟩)
    replace hS := (hS.next h1).alloc (O3 0 0 nul)
    clear h1
    go_cut [7] (fun s7 wx => s7 = .string (sh k n s ++ sh k' n' s') ∧ MS w k n s k' n' s' wx)
    case first =>
      have h0d := (hS.next (drew_below _)).opened
      have ⟨q0, q1, q2, q3, q4, q5, q6⟩ := hS.opened
      go_region_held3 (fun wx => MO w k n s k' n' s' wx) (first | exact h0d | exact mo_below (by assumption) (by assumption)) (first | (go_at_call 8; refine (show_any _ _ _ _ ((mo_ms (w := w) (k := k) (n := n) (s := s) (k' := k') (n' := n') (s' := s') (by assumption)).env HE.out) (by first | exact HBB.out.1.1 | exact HBB.out.2.1) (by first | exact HBB.out.1.2 | exact HBB.out.2.2)).mono ?_; rintro e wa ⟨rfl, ha⟩))
      all_goals
        go_wp2_with fail
        go_meet
        case rel => exact ⟨rfl, mo_ms (by assumption)⟩
    case rest =>
    clear hS hz HBB HE
    obtain ⟨rfl, hS⟩ := hcut
    obtain ⟨t, ht⟩ : ∃ t, sh k n s ++ sh k' n' s' = t := ⟨_, rfl⟩
    have hsz : t.size = (sh k n s).size + (sh k' n' s').size := by rw [← ht, ByteArray.size_append]
    rw [ht]
    have HT : Hid (sh k n s ++ sh k' n' s' = t) := ht
    clear ht
    first
    | (have hl : (200 : Int) < (t.size : Int) := by have := HL.out; omega
       clear HL hsz
       go_wp2_with fail
       refine (bad_any _ _).mono ?_
       rintro e w1 ⟨rfl, q1⟩
       replace hS := hS.next q1
       obtain ⟨⟨r0, r1, r2⟩, t0, t1, t2⟩ := cells3 hS.res
       have hB := hS.below
       go_wp2_with fail
       exact bodyPost_ret (v := V 4 2 nul) (by simp [results, Tryz.results46, go_sem, r0, r1, r2]) rfl ⟨rfl, hB.trans (below3 (by omega))⟩)
    | (have hl : (t.size : Int) ≤ (200 : Int) := by have := HL.out; omega
       clear HL hsz
       go_wp2_with fail
       refine (text_any _ _).mono ?_
       rintro e w1 ⟨rfl, q1⟩
       replace hS := hS.next q1
       obtain ⟨⟨r0, r1, r2⟩, t0, t1, t2⟩ := cells3 hS.res
       have hB := hS.below
       go_wp2_with fail
       exact bodyPost_ret (v := V 2 0 t) (by simp [results, Tryz.results46, go_sem, r0, r1, r2]) rfl ⟨by rw [HT.out], hB.trans (below3 (by omega))⟩)
set_option maxRecDepth 100000 in
set_option maxHeartbeats 8000000 in
theorem hold_1 (k n : Int) (s : ByteArray) (k' n' : Int) (s' : ByteArray) (w : World) (h4 : (k == 4) = false) (h4' : (k' == 4) = false) :
    Calls Tryz.prog 47 #[.int .i64 1, V k n s, V k' n' s'] w fun e w' => e = .returned (V 3 (b2n (cmpB k n s k' n' s' == 0)) nul) ∧ Below w.heap.size w w' := by
  have hS := MS.start w k n s k' n' s'
  have H4 : Hid (¬ k = 4) := beq_eq_false_iff_ne.1 h4
  have H4' : Hid (¬ k' = 4) := beq_eq_false_iff_ne.1 h4'
  obtain ⟨c, hc⟩ : ∃ c, cmpB k n s k' n' s' = c := ⟨_, rfl⟩
  have HC : Hid (cmpV (bsK k k') (bsN k n) (bsS k s) (bsK k' k) (bsN k' n') (bsS k' s') = c) := hc
  rw [hc]
  clear hc
  go_enter Tryz.func47, Tryz.ntmps47
  go_upto_region 4 with (go_at_call 68; refine (firstBad_no _ _ _ _ _ _ _ h4 h4').mono ?_; rintro e w1 ⟨rfl, h1⟩)
  replace hS := (hS.next h1).alloc (O3 0 0 nul)
  clear h1
  clear h4 h4'
  go_cut [9] (fun s9 wx => s9 = .int .i64 c ∧ MS w k n s k' n' s' wx)
  case first =>
    have h0d := (hS.next (drew_below _)).opened
    have ⟨q0, q1, q2, q3, q4, q5, q6⟩ := hS.opened
    go_region_held3 (fun wx => MO w k n s k' n' s' wx) (first | exact h0d | exact mo_below (by assumption) (by assumption)) (first | (go_at_call 70; refine (blankAs_any _ _ _ _ _ (by first | exact H4.out | exact H4'.out)).mono ?_; rintro e wa ⟨rfl, ha⟩) | (go_at_call 17; refine (compare_any _ _ _ _ _ _ _).mono ?_; rintro e wa ⟨rfl, ha⟩))
    all_goals
      go_wp2_with fail
      go_meet
      case rel => exact ⟨by rw [HC.out], mo_ms (by assumption)⟩
  case rest =>
  clear hS H4 H4' HC
  obtain ⟨rfl, hS⟩ := hcut
  go_wp2_with fail
  refine (truth_any _ _).mono ?_
  rintro e w1 ⟨rfl, q1⟩
  replace hS := hS.next q1
  obtain ⟨⟨r0, r1, r2⟩, t0, t1, t2⟩ := cells3 hS.res
  have hB := hS.below
  go_wp2_with fail
  exact bodyPost_ret (v := V 3 (b2n (c == 0)) nul) (by simp [results, Tryz.results47, go_sem, r0, r1, r2]) rfl ⟨rfl, hB.trans (below3 (by omega))⟩
set_option maxRecDepth 100000 in
set_option maxHeartbeats 8000000 in
theorem hold_2 (k n : Int) (s : ByteArray) (k' n' : Int) (s' : ByteArray) (w : World) (h4 : (k == 4) = false) (h4' : (k' == 4) = false) :
    Calls Tryz.prog 47 #[.int .i64 2, V k n s, V k' n' s'] w fun e w' => e = .returned (V 3 (b2n (cmpB k n s k' n' s' != 0)) nul) ∧ Below w.heap.size w w' := by
  have hS := MS.start w k n s k' n' s'
  have H4 : Hid (¬ k = 4) := beq_eq_false_iff_ne.1 h4
  have H4' : Hid (¬ k' = 4) := beq_eq_false_iff_ne.1 h4'
  obtain ⟨c, hc⟩ : ∃ c, cmpB k n s k' n' s' = c := ⟨_, rfl⟩
  have HC : Hid (cmpV (bsK k k') (bsN k n) (bsS k s) (bsK k' k) (bsN k' n') (bsS k' s') = c) := hc
  rw [hc]
  clear hc
  go_enter Tryz.func47, Tryz.ntmps47
  go_upto_region 4 with (go_at_call 68; refine (firstBad_no _ _ _ _ _ _ _ h4 h4').mono ?_; rintro e w1 ⟨rfl, h1⟩)
  replace hS := (hS.next h1).alloc (O3 0 0 nul)
  clear h1
  clear h4 h4'
  go_cut [9] (fun s9 wx => s9 = .int .i64 c ∧ MS w k n s k' n' s' wx)
  case first =>
    have h0d := (hS.next (drew_below _)).opened
    have ⟨q0, q1, q2, q3, q4, q5, q6⟩ := hS.opened
    go_region_held3 (fun wx => MO w k n s k' n' s' wx) (first | exact h0d | exact mo_below (by assumption) (by assumption)) (first | (go_at_call 70; refine (blankAs_any _ _ _ _ _ (by first | exact H4.out | exact H4'.out)).mono ?_; rintro e wa ⟨rfl, ha⟩) | (go_at_call 17; refine (compare_any _ _ _ _ _ _ _).mono ?_; rintro e wa ⟨rfl, ha⟩))
    all_goals
      go_wp2_with fail
      go_meet
      case rel => exact ⟨by rw [HC.out], mo_ms (by assumption)⟩
  case rest =>
  clear hS H4 H4' HC
  obtain ⟨rfl, hS⟩ := hcut
  go_wp2_with fail
  refine (truth_any _ _).mono ?_
  rintro e w1 ⟨rfl, q1⟩
  replace hS := hS.next q1
  obtain ⟨⟨r0, r1, r2⟩, t0, t1, t2⟩ := cells3 hS.res
  have hB := hS.below
  go_wp2_with fail
  exact bodyPost_ret (v := V 3 (b2n (c != 0)) nul) (by simp [results, Tryz.results47, go_sem, r0, r1, r2]) rfl ⟨rfl, hB.trans (below3 (by omega))⟩
set_option maxRecDepth 100000 in
set_option maxHeartbeats 8000000 in
theorem hold_3 (k n : Int) (s : ByteArray) (k' n' : Int) (s' : ByteArray) (w : World) (h4 : (k == 4) = false) (h4' : (k' == 4) = false) :
    Calls Tryz.prog 47 #[.int .i64 3, V k n s, V k' n' s'] w fun e w' => e = .returned (V 3 (b2n (decide (cmpB k n s k' n' s' < 0))) nul) ∧ Below w.heap.size w w' := by
  have hS := MS.start w k n s k' n' s'
  have H4 : Hid (¬ k = 4) := beq_eq_false_iff_ne.1 h4
  have H4' : Hid (¬ k' = 4) := beq_eq_false_iff_ne.1 h4'
  obtain ⟨c, hc⟩ : ∃ c, cmpB k n s k' n' s' = c := ⟨_, rfl⟩
  have HC : Hid (cmpV (bsK k k') (bsN k n) (bsS k s) (bsK k' k) (bsN k' n') (bsS k' s') = c) := hc
  rw [hc]
  clear hc
  go_enter Tryz.func47, Tryz.ntmps47
  go_upto_region 4 with (go_at_call 68; refine (firstBad_no _ _ _ _ _ _ _ h4 h4').mono ?_; rintro e w1 ⟨rfl, h1⟩)
  replace hS := (hS.next h1).alloc (O3 0 0 nul)
  clear h1
  clear h4 h4'
  go_cut [9] (fun s9 wx => s9 = .int .i64 c ∧ MS w k n s k' n' s' wx)
  case first =>
    have h0d := (hS.next (drew_below _)).opened
    have ⟨q0, q1, q2, q3, q4, q5, q6⟩ := hS.opened
    go_region_held3 (fun wx => MO w k n s k' n' s' wx) (first | exact h0d | exact mo_below (by assumption) (by assumption)) (first | (go_at_call 70; refine (blankAs_any _ _ _ _ _ (by first | exact H4.out | exact H4'.out)).mono ?_; rintro e wa ⟨rfl, ha⟩) | (go_at_call 17; refine (compare_any _ _ _ _ _ _ _).mono ?_; rintro e wa ⟨rfl, ha⟩))
    all_goals
      go_wp2_with fail
      go_meet
      case rel => exact ⟨by rw [HC.out], mo_ms (by assumption)⟩
  case rest =>
  clear hS H4 H4' HC
  obtain ⟨rfl, hS⟩ := hcut
  go_wp2_with fail
  refine (truth_any _ _).mono ?_
  rintro e w1 ⟨rfl, q1⟩
  replace hS := hS.next q1
  obtain ⟨⟨r0, r1, r2⟩, t0, t1, t2⟩ := cells3 hS.res
  have hB := hS.below
  go_wp2_with fail
  exact bodyPost_ret (v := V 3 (b2n (decide (c < 0))) nul) (by simp [results, Tryz.results47, go_sem, r0, r1, r2]) rfl ⟨rfl, hB.trans (below3 (by omega))⟩
set_option maxRecDepth 100000 in
set_option maxHeartbeats 8000000 in
theorem hold_4 (k n : Int) (s : ByteArray) (k' n' : Int) (s' : ByteArray) (w : World) (h4 : (k == 4) = false) (h4' : (k' == 4) = false) :
    Calls Tryz.prog 47 #[.int .i64 4, V k n s, V k' n' s'] w fun e w' => e = .returned (V 3 (b2n (decide (cmpB k n s k' n' s' ≤ 0))) nul) ∧ Below w.heap.size w w' := by
  have hS := MS.start w k n s k' n' s'
  have H4 : Hid (¬ k = 4) := beq_eq_false_iff_ne.1 h4
  have H4' : Hid (¬ k' = 4) := beq_eq_false_iff_ne.1 h4'
  obtain ⟨c, hc⟩ : ∃ c, cmpB k n s k' n' s' = c := ⟨_, rfl⟩
  have HC : Hid (cmpV (bsK k k') (bsN k n) (bsS k s) (bsK k' k) (bsN k' n') (bsS k' s') = c) := hc
  rw [hc]
  clear hc
  go_enter Tryz.func47, Tryz.ntmps47
  go_upto_region 4 with (go_at_call 68; refine (firstBad_no _ _ _ _ _ _ _ h4 h4').mono ?_; rintro e w1 ⟨rfl, h1⟩)
  replace hS := (hS.next h1).alloc (O3 0 0 nul)
  clear h1
  clear h4 h4'
  go_cut [9] (fun s9 wx => s9 = .int .i64 c ∧ MS w k n s k' n' s' wx)
  case first =>
    have h0d := (hS.next (drew_below _)).opened
    have ⟨q0, q1, q2, q3, q4, q5, q6⟩ := hS.opened
    go_region_held3 (fun wx => MO w k n s k' n' s' wx) (first | exact h0d | exact mo_below (by assumption) (by assumption)) (first | (go_at_call 70; refine (blankAs_any _ _ _ _ _ (by first | exact H4.out | exact H4'.out)).mono ?_; rintro e wa ⟨rfl, ha⟩) | (go_at_call 17; refine (compare_any _ _ _ _ _ _ _).mono ?_; rintro e wa ⟨rfl, ha⟩))
    all_goals
      go_wp2_with fail
      go_meet
      case rel => exact ⟨by rw [HC.out], mo_ms (by assumption)⟩
  case rest =>
  clear hS H4 H4' HC
  obtain ⟨rfl, hS⟩ := hcut
  go_wp2_with fail
  refine (truth_any _ _).mono ?_
  rintro e w1 ⟨rfl, q1⟩
  replace hS := hS.next q1
  obtain ⟨⟨r0, r1, r2⟩, t0, t1, t2⟩ := cells3 hS.res
  have hB := hS.below
  go_wp2_with fail
  exact bodyPost_ret (v := V 3 (b2n (decide (c ≤ 0))) nul) (by simp [results, Tryz.results47, go_sem, r0, r1, r2]) rfl ⟨rfl, hB.trans (below3 (by omega))⟩
set_option maxRecDepth 100000 in
set_option maxHeartbeats 8000000 in
theorem hold_5 (k n : Int) (s : ByteArray) (k' n' : Int) (s' : ByteArray) (w : World) (h4 : (k == 4) = false) (h4' : (k' == 4) = false) :
    Calls Tryz.prog 47 #[.int .i64 5, V k n s, V k' n' s'] w fun e w' => e = .returned (V 3 (b2n (decide (0 < cmpB k n s k' n' s'))) nul) ∧ Below w.heap.size w w' := by
  have hS := MS.start w k n s k' n' s'
  have H4 : Hid (¬ k = 4) := beq_eq_false_iff_ne.1 h4
  have H4' : Hid (¬ k' = 4) := beq_eq_false_iff_ne.1 h4'
  obtain ⟨c, hc⟩ : ∃ c, cmpB k n s k' n' s' = c := ⟨_, rfl⟩
  have HC : Hid (cmpV (bsK k k') (bsN k n) (bsS k s) (bsK k' k) (bsN k' n') (bsS k' s') = c) := hc
  rw [hc]
  clear hc
  go_enter Tryz.func47, Tryz.ntmps47
  go_upto_region 4 with (go_at_call 68; refine (firstBad_no _ _ _ _ _ _ _ h4 h4').mono ?_; rintro e w1 ⟨rfl, h1⟩)
  replace hS := (hS.next h1).alloc (O3 0 0 nul)
  clear h1
  clear h4 h4'
  go_cut [9] (fun s9 wx => s9 = .int .i64 c ∧ MS w k n s k' n' s' wx)
  case first =>
    have h0d := (hS.next (drew_below _)).opened
    have ⟨q0, q1, q2, q3, q4, q5, q6⟩ := hS.opened
    go_region_held3 (fun wx => MO w k n s k' n' s' wx) (first | exact h0d | exact mo_below (by assumption) (by assumption)) (first | (go_at_call 70; refine (blankAs_any _ _ _ _ _ (by first | exact H4.out | exact H4'.out)).mono ?_; rintro e wa ⟨rfl, ha⟩) | (go_at_call 17; refine (compare_any _ _ _ _ _ _ _).mono ?_; rintro e wa ⟨rfl, ha⟩))
    all_goals
      go_wp2_with fail
      go_meet
      case rel => exact ⟨by rw [HC.out], mo_ms (by assumption)⟩
  case rest =>
  clear hS H4 H4' HC
  obtain ⟨rfl, hS⟩ := hcut
  go_wp2_with fail
  refine (truth_any _ _).mono ?_
  rintro e w1 ⟨rfl, q1⟩
  replace hS := hS.next q1
  obtain ⟨⟨r0, r1, r2⟩, t0, t1, t2⟩ := cells3 hS.res
  have hB := hS.below
  go_wp2_with fail
  exact bodyPost_ret (v := V 3 (b2n (decide (0 < c))) nul) (by simp [results, Tryz.results47, go_sem, r0, r1, r2]) rfl ⟨rfl, hB.trans (below3 (by omega))⟩
set_option maxRecDepth 100000 in
set_option maxHeartbeats 8000000 in
theorem hold_6 (k n : Int) (s : ByteArray) (k' n' : Int) (s' : ByteArray) (w : World) (h4 : (k == 4) = false) (h4' : (k' == 4) = false) :
    Calls Tryz.prog 47 #[.int .i64 6, V k n s, V k' n' s'] w fun e w' => e = .returned (V 3 (b2n (decide (0 ≤ cmpB k n s k' n' s'))) nul) ∧ Below w.heap.size w w' := by
  have hS := MS.start w k n s k' n' s'
  have H4 : Hid (¬ k = 4) := beq_eq_false_iff_ne.1 h4
  have H4' : Hid (¬ k' = 4) := beq_eq_false_iff_ne.1 h4'
  obtain ⟨c, hc⟩ : ∃ c, cmpB k n s k' n' s' = c := ⟨_, rfl⟩
  have HC : Hid (cmpV (bsK k k') (bsN k n) (bsS k s) (bsK k' k) (bsN k' n') (bsS k' s') = c) := hc
  rw [hc]
  clear hc
  go_enter Tryz.func47, Tryz.ntmps47
  go_upto_region 4 with (go_at_call 68; refine (firstBad_no _ _ _ _ _ _ _ h4 h4').mono ?_; rintro e w1 ⟨rfl, h1⟩)
  replace hS := (hS.next h1).alloc (O3 0 0 nul)
  clear h1
  clear h4 h4'
  go_cut [9] (fun s9 wx => s9 = .int .i64 c ∧ MS w k n s k' n' s' wx)
  case first =>
    have h0d := (hS.next (drew_below _)).opened
    have ⟨q0, q1, q2, q3, q4, q5, q6⟩ := hS.opened
    go_region_held3 (fun wx => MO w k n s k' n' s' wx) (first | exact h0d | exact mo_below (by assumption) (by assumption)) (first | (go_at_call 70; refine (blankAs_any _ _ _ _ _ (by first | exact H4.out | exact H4'.out)).mono ?_; rintro e wa ⟨rfl, ha⟩) | (go_at_call 17; refine (compare_any _ _ _ _ _ _ _).mono ?_; rintro e wa ⟨rfl, ha⟩))
    all_goals
      go_wp2_with fail
      go_meet
      case rel => exact ⟨by rw [HC.out], mo_ms (by assumption)⟩
  case rest =>
  clear hS H4 H4' HC
  obtain ⟨rfl, hS⟩ := hcut
  go_wp2_with fail
  refine (truth_any _ _).mono ?_
  rintro e w1 ⟨rfl, q1⟩
  replace hS := hS.next q1
  obtain ⟨⟨r0, r1, r2⟩, t0, t1, t2⟩ := cells3 hS.res
  have hB := hS.below
  go_wp2_with fail
  exact bodyPost_ret (v := V 3 (b2n (decide (0 ≤ c))) nul) (by simp [results, Tryz.results47, go_sem, r0, r1, r2]) rfl ⟨rfl, hB.trans (below3 (by omega))⟩
end Go.Proofs.YtgoadofnfaidcaaGreatDoor
