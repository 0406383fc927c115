/- The program's cat and hold, the reference's Two at an operator that does not reckon, the program's Two and Mod; both sides answer alike; the law ValueTwo: what it returns, whatever the operator and the two values' fields are. Conditions: as each theorem says; of the law: the package variables hold what the program's text lays. -/
import Derived.Test.YtgoadofnfaidcaaGreatDoorTwoB
import Derived.Test.YtgoadofnfaidcaaGreatDoorOps
namespace Go.Proofs.YtgoadofnfaidcaaGreatDoor
open Go.RowKit
theorem blankAs_any (kk k n : Int) (s : ByteArray) (w : World) (h : ¬ kk = 4) :
    Calls Tryz.prog 70 #[.int .i64 kk, V k n s] w fun e w' => e = .returned (V (bsK k kk) (bsN k n) (bsS k s)) ∧ Below w.heap.size w w' := by
  unfold bsK bsN bsS
  by_cases h0 : k = 0
  · subst h0
    rw [if_pos rfl, if_pos rfl, if_pos rfl, if_neg h]
    exact blankAs_blank kk n s w
  · rw [if_neg h0, if_neg h0, if_neg h0]
    exact blankAs_other kk k n s w (beq_eq_false_iff_ne.2 h0)
set_option maxRecDepth 100000 in
set_option maxHeartbeats 8000000 in
theorem firstBad_a (n k' n' : Int) (s s' : ByteArray) (w : World) :
    Calls Tryz.prog 68 #[V 4 n s, V k' n' s'] w fun e w' => e = .returned (.tuple #[V 4 n s, .bool true]) ∧ Below w.heap.size w w' := by
  go_enter Tryz.func68, Tryz.ntmps68
  go_wp2_with fail
  exact bodyPost_ret (v := .tuple #[V 4 n s, .bool true]) (by simp [results, Tryz.results68, go_sem]) rfl ⟨rfl, by (repeat (first | exact Below.refl _ _ | assumption | (refine Below.setCell ?_ (by first | omega | (simp <;> omega)) _) | (refine Below.alloc ?_ (by first | omega | (simp <;> omega)) _) | (refine Below.drew ?_)))⟩
set_option maxRecDepth 100000 in
set_option maxHeartbeats 8000000 in
theorem firstBad_b (k n n' : Int) (s s' : ByteArray) (w : World) (h : (k == 4) = false) :
    Calls Tryz.prog 68 #[V k n s, V 4 n' s'] w fun e w' => e = .returned (.tuple #[V 4 n' s', .bool true]) ∧ Below w.heap.size w w' := by
  go_enter Tryz.func68, Tryz.ntmps68
  go_wp2_with fail
  exact bodyPost_ret (v := .tuple #[V 4 n' s', .bool true]) (by simp [results, Tryz.results68, go_sem]) rfl ⟨rfl, by (repeat (first | exact Below.refl _ _ | assumption | (refine Below.setCell ?_ (by first | omega | (simp <;> omega)) _) | (refine Below.alloc ?_ (by first | omega | (simp <;> omega)) _) | (refine Below.drew ?_)))⟩
set_option maxRecDepth 100000 in
set_option maxHeartbeats 8000000 in
theorem cat_a (n : Int) (s : ByteArray) (k' n' : Int) (s' : ByteArray) (w : World) :
    Calls Tryz.prog 46 #[V 4 n s, V k' n' s'] w fun e w' => e = .returned (V 4 n s) ∧ Below w.heap.size w w' := by
  have hS := MS.start w 4 n s k' n' s'
  go_enter Tryz.func46, Tryz.ntmps46
  go_wp2_with fail
  refine (firstBad_a _ _ _ _ _ _).mono ?_
  rintro e w1 ⟨rfl, q1⟩
  have hC := hat w1 (O3 4 n s) _ rfl
  replace hS := (hS.next q1).alloc (O3 4 n s)
  obtain ⟨⟨r0, r1, r2⟩, t0, t1, t2⟩ := cells3 hS.res
  obtain ⟨⟨x0, x1, x2⟩, y0, y1, y2⟩ := cells3 hC
  have hB := hS.below
  go_wp2_with fail
  exact bodyPost_ret (v := V 4 n s) (by simp [results, Tryz.results46, go_sem, r0, r1, r2]) rfl ⟨rfl, hB.trans (below3 (by omega))⟩
set_option maxRecDepth 100000 in
set_option maxHeartbeats 8000000 in
theorem cat_b (k n : Int) (s : ByteArray) (n' : Int) (s' : ByteArray) (w : World) (h4 : (k == 4) = false) :
    Calls Tryz.prog 46 #[V k n s, V 4 n' s'] w fun e w' => e = .returned (V 4 n' s') ∧ Below w.heap.size w w' := by
  have hS := MS.start w k n s 4 n' s'
  go_enter Tryz.func46, Tryz.ntmps46
  go_wp2_with fail
  refine (firstBad_b _ _ _ _ _ _ h4).mono ?_
  rintro e w1 ⟨rfl, q1⟩
  have hC := hat w1 (O3 4 n' s') _ rfl
  replace hS := (hS.next q1).alloc (O3 4 n' s')
  obtain ⟨⟨r0, r1, r2⟩, t0, t1, t2⟩ := cells3 hS.res
  obtain ⟨⟨x0, x1, x2⟩, y0, y1, y2⟩ := cells3 hC
  have hB := hS.below
  go_wp2_with fail
  exact bodyPost_ret (v := V 4 n' s') (by simp [results, Tryz.results46, go_sem, r0, r1, r2]) rfl ⟨rfl, hB.trans (below3 (by omega))⟩
set_option maxRecDepth 100000 in
set_option maxHeartbeats 8000000 in
theorem hold_a (op : Int) (n : Int) (s : ByteArray) (k' n' : Int) (s' : ByteArray) (w : World) :
    Calls Tryz.prog 47 #[.int .i64 op, V 4 n s, V k' n' s'] w fun e w' => e = .returned (V 4 n s) ∧ Below w.heap.size w w' := by
  have hS := MS.start w 4 n s k' n' s'
  go_enter Tryz.func47, Tryz.ntmps47
  go_wp2_with fail
  refine (firstBad_a _ _ _ _ _ _).mono ?_
  rintro e w1 ⟨rfl, q1⟩
  have hC := hat w1 (O3 4 n s) _ rfl
  replace hS := (hS.next q1).alloc (O3 4 n s)
  obtain ⟨⟨r0, r1, r2⟩, t0, t1, t2⟩ := cells3 hS.res
  obtain ⟨⟨x0, x1, x2⟩, y0, y1, y2⟩ := cells3 hC
  have hB := hS.below
  go_wp2_with fail
  exact bodyPost_ret (v := V 4 n s) (by simp [results, Tryz.results47, go_sem, r0, r1, r2]) rfl ⟨rfl, hB.trans (below3 (by omega))⟩
set_option maxRecDepth 100000 in
set_option maxHeartbeats 8000000 in
theorem hold_b (op : Int) (k n : Int) (s : ByteArray) (n' : Int) (s' : ByteArray) (w : World) (h4 : (k == 4) = false) :
    Calls Tryz.prog 47 #[.int .i64 op, V k n s, V 4 n' s'] w fun e w' => e = .returned (V 4 n' s') ∧ Below w.heap.size w w' := by
  have hS := MS.start w k n s 4 n' s'
  go_enter Tryz.func47, Tryz.ntmps47
  go_wp2_with fail
  refine (firstBad_b _ _ _ _ _ _ h4).mono ?_
  rintro e w1 ⟨rfl, q1⟩
  have hC := hat w1 (O3 4 n' s') _ rfl
  replace hS := (hS.next q1).alloc (O3 4 n' s')
  obtain ⟨⟨r0, r1, r2⟩, t0, t1, t2⟩ := cells3 hS.res
  obtain ⟨⟨x0, x1, x2⟩, y0, y1, y2⟩ := cells3 hC
  have hB := hS.below
  go_wp2_with fail
  exact bodyPost_ret (v := V 4 n' s') (by simp [results, Tryz.results47, go_sem, r0, r1, r2]) rfl ⟨rfl, hB.trans (below3 (by omega))⟩
set_option maxRecDepth 100000 in
set_option maxHeartbeats 8000000 in
theorem cat_any (k n : Int) (s : ByteArray) (k' n' : Int) (s' : ByteArray) (w : World) (hE : Env w) (h4 : (k == 4) = false) (h4' : (k' == 4) = false) (hv : isVal k n s = true) (hv' : isVal k' n' s' = true) (hb : B64 n) (hb' : B64 n') :
    (Hid (200 < (sh k n s).size + (sh k' n' s').size) → Calls Tryz.prog 46 #[V k n s, V k' n' s'] w fun e w' => e = .returned (V 4 2 nul) ∧ Below w.heap.size w w') ∧
    (Hid ((sh k n s).size + (sh k' n' s').size ≤ 200) → Calls Tryz.prog 46 #[V k n s, V k' n' s'] w fun e w' => e = .returned (V 2 0 (sh k n s ++ sh k' n' s')) ∧ Below w.heap.size w w') := by
  have hS := MS.start w k n s k' n' s'
  have HE : Hid (Env w) := hE
  have hz : ¬ 9223372036854775807 < (sh k n s).size + (sh k' n' s').size := by
    have := sh_len hv hb
    have := sh_len hv' hb'
    omega
  have HBB : Hid (B64 n ∧ B64 n') := ⟨hb, hb'⟩
  clear hb hb' hv hv' hE
  constructor
  all_goals
    intro HL
    go_enter Tryz.func46, Tryz.ntmps46
    go_upto_region 4 with (go_at_call 68; refine (firstBad_no _ _ _ _ _ _ _ h4 h4').mono ?_; rintro e w1 ⟨rfl, h1⟩)
    replace hS := (hS.next h1).alloc (O3 0 0 nul)
    clear h1
    go_cut [7] (fun s7 wx => s7 = .string (sh k n s ++ sh k' n' s') ∧ MS w k n s k' n' s' wx)
    case first =>
      have h0d := (hS.next (drew_below _)).opened
      have ⟨q0, q1, q2, q3, q4, q5, q6⟩ := hS.opened
      go_region_held3 (fun wx => MO w k n s k' n' s' wx) (first | exact h0d | exact mo_below (by assumption) (by assumption)) (first | (go_at_call 8; refine (show_any _ _ _ _ ((mo_ms (w := w) (k := k) (n := n) (s := s) (k' := k') (n' := n') (s' := s') (by assumption)).env HE.out) (by first | exact HBB.out.1.1 | exact HBB.out.2.1) (by first | exact HBB.out.1.2 | exact HBB.out.2.2)).mono ?_; rintro e wa ⟨rfl, ha⟩))
      all_goals
        go_wp2_with fail
        go_meet
        case rel => exact ⟨rfl, mo_ms (by assumption)⟩
    case rest =>
    clear hS hz HBB HE
    obtain ⟨rfl, hS⟩ := hcut
    obtain ⟨t, ht⟩ : ∃ t, sh k n s ++ sh k' n' s' = t := ⟨_, rfl⟩
    have hsz : t.size = (sh k n s).size + (sh k' n' s').size := by rw [← ht, ByteArray.size_append]
    rw [ht]
    have HT : Hid (sh k n s ++ sh k' n' s' = t) := ht
    clear ht
    first
    | (have hl : (200 : Int) < (t.size : Int) := by have := HL.out; omega
       clear HL hsz
       go_wp2_with fail
       refine (bad_any _ _).mono ?_
       rintro e w1 ⟨rfl, q1⟩
       replace hS := hS.next q1
       obtain ⟨⟨r0, r1, r2⟩, t0, t1, t2⟩ := cells3 hS.res
       have hB := hS.below
       go_wp2_with fail
       exact bodyPost_ret (v := V 4 2 nul) (by simp [results, Tryz.results46, go_sem, r0, r1, r2]) rfl ⟨rfl, hB.trans (below3 (by omega))⟩)
    | (have hl : (t.size : Int) ≤ (200 : Int) := by have := HL.out; omega
       clear HL hsz
       go_wp2_with fail
       refine (text_any _ _).mono ?_
       rintro e w1 ⟨rfl, q1⟩
       replace hS := hS.next q1
       obtain ⟨⟨r0, r1, r2⟩, t0, t1, t2⟩ := cells3 hS.res
       have hB := hS.below
       go_wp2_with fail
       exact bodyPost_ret (v := V 2 0 t) (by simp [results, Tryz.results46, go_sem, r0, r1, r2]) rfl ⟨by rw [HT.out], hB.trans (below3 (by omega))⟩)
set_option maxRecDepth 100000 in
set_option maxHeartbeats 8000000 in
theorem hold_1 (k n : Int) (s : ByteArray) (k' n' : Int) (s' : ByteArray) (w : World) (h4 : (k == 4) = false) (h4' : (k' == 4) = false) :
    Calls Tryz.prog 47 #[.int .i64 1, V k n s, V k' n' s'] w fun e w' => e = .returned (V 3 (b2n (cmpB k n s k' n' s' == 0)) nul) ∧ Below w.heap.size w w' := by
  have hS := MS.start w k n s k' n' s'
  have H4 : Hid (¬ k = 4) := beq_eq_false_iff_ne.1 h4
  have H4' : Hid (¬ k' = 4) := beq_eq_false_iff_ne.1 h4'
  obtain ⟨c, hc⟩ : ∃ c, cmpB k n s k' n' s' = c := ⟨_, rfl⟩
  have HC : Hid (cmpV (bsK k k') (bsN k n) (bsS k s) (bsK k' k) (bsN k' n') (bsS k' s') = c) := hc
  rw [hc]
  clear hc
  go_enter Tryz.func47, Tryz.ntmps47
  go_upto_region 4 with (go_at_call 68; refine (firstBad_no _ _ _ _ _ _ _ h4 h4').mono ?_; rintro e w1 ⟨rfl, h1⟩)
  replace hS := (hS.next h1).alloc (O3 0 0 nul)
  clear h1
  clear h4 h4'
  go_cut [9] (fun s9 wx => s9 = .int .i64 c ∧ MS w k n s k' n' s' wx)
  case first =>
    have h0d := (hS.next (drew_below _)).opened
    have ⟨q0, q1, q2, q3, q4, q5, q6⟩ := hS.opened
    go_region_held3 (fun wx => MO w k n s k' n' s' wx) (first | exact h0d | exact mo_below (by assumption) (by assumption)) (first | (go_at_call 70; refine (blankAs_any _ _ _ _ _ (by first | exact H4.out | exact H4'.out)).mono ?_; rintro e wa ⟨rfl, ha⟩) | (go_at_call 17; refine (compare_any _ _ _ _ _ _ _).mono ?_; rintro e wa ⟨rfl, ha⟩))
    all_goals
      go_wp2_with fail
      go_meet
      case rel => exact ⟨by rw [HC.out], mo_ms (by assumption)⟩
  case rest =>
  clear hS H4 H4' HC
  obtain ⟨rfl, hS⟩ := hcut
  go_wp2_with fail
  refine (truth_any _ _).mono ?_
  rintro e w1 ⟨rfl, q1⟩
  replace hS := hS.next q1
  obtain ⟨⟨r0, r1, r2⟩, t0, t1, t2⟩ := cells3 hS.res
  have hB := hS.below
  go_wp2_with fail
  exact bodyPost_ret (v := V 3 (b2n (c == 0)) nul) (by simp [results, Tryz.results47, go_sem, r0, r1, r2]) rfl ⟨rfl, hB.trans (below3 (by omega))⟩
set_option maxRecDepth 100000 in
set_option maxHeartbeats 8000000 in
theorem hold_2 (k n : Int) (s : ByteArray) (k' n' : Int) (s' : ByteArray) (w : World) (h4 : (k == 4) = false) (h4' : (k' == 4) = false) :
    Calls Tryz.prog 47 #[.int .i64 2, V k n s, V k' n' s'] w fun e w' => e = .returned (V 3 (b2n (cmpB k n s k' n' s' != 0)) nul) ∧ Below w.heap.size w w' := by
  have hS := MS.start w k n s k' n' s'
  have H4 : Hid (¬ k = 4) := beq_eq_false_iff_ne.1 h4
  have H4' : Hid (¬ k' = 4) := beq_eq_false_iff_ne.1 h4'
  obtain ⟨c, hc⟩ : ∃ c, cmpB k n s k' n' s' = c := ⟨_, rfl⟩
  have HC : Hid (cmpV (bsK k k') (bsN k n) (bsS k s) (bsK k' k) (bsN k' n') (bsS k' s') = c) := hc
  rw [hc]
  clear hc
  go_enter Tryz.func47, Tryz.ntmps47
  go_upto_region 4 with (go_at_call 68; refine (firstBad_no _ _ _ _ _ _ _ h4 h4').mono ?_; rintro e w1 ⟨rfl, h1⟩)
  replace hS := (hS.next h1).alloc (O3 0 0 nul)
  clear h1
  clear h4 h4'
  go_cut [9] (fun s9 wx => s9 = .int .i64 c ∧ MS w k n s k' n' s' wx)
  case first =>
    have h0d := (hS.next (drew_below _)).opened
    have ⟨q0, q1, q2, q3, q4, q5, q6⟩ := hS.opened
    go_region_held3 (fun wx => MO w k n s k' n' s' wx) (first | exact h0d | exact mo_below (by assumption) (by assumption)) (first | (go_at_call 70; refine (blankAs_any _ _ _ _ _ (by first | exact H4.out | exact H4'.out)).mono ?_; rintro e wa ⟨rfl, ha⟩) | (go_at_call 17; refine (compare_any _ _ _ _ _ _ _).mono ?_; rintro e wa ⟨rfl, ha⟩))
    all_goals
      go_wp2_with fail
      go_meet
      case rel => exact ⟨by rw [HC.out], mo_ms (by assumption)⟩
  case rest =>
  clear hS H4 H4' HC
  obtain ⟨rfl, hS⟩ := hcut
  go_wp2_with fail
  refine (truth_any _ _).mono ?_
  rintro e w1 ⟨rfl, q1⟩
  replace hS := hS.next q1
  obtain ⟨⟨r0, r1, r2⟩, t0, t1, t2⟩ := cells3 hS.res
  have hB := hS.below
  go_wp2_with fail
  exact bodyPost_ret (v := V 3 (b2n (c != 0)) nul) (by simp [results, Tryz.results47, go_sem, r0, r1, r2]) rfl ⟨rfl, hB.trans (below3 (by omega))⟩
set_option maxRecDepth 100000 in
set_option maxHeartbeats 8000000 in
theorem hold_3 (k n : Int) (s : ByteArray) (k' n' : Int) (s' : ByteArray) (w : World) (h4 : (k == 4) = false) (h4' : (k' == 4) = false) :
    Calls Tryz.prog 47 #[.int .i64 3, V k n s, V k' n' s'] w fun e w' => e = .returned (V 3 (b2n (decide (cmpB k n s k' n' s' < 0))) nul) ∧ Below w.heap.size w w' := by
  have hS := MS.start w k n s k' n' s'
  have H4 : Hid (¬ k = 4) := beq_eq_false_iff_ne.1 h4
  have H4' : Hid (¬ k' = 4) := beq_eq_false_iff_ne.1 h4'
  obtain ⟨c, hc⟩ : ∃ c, cmpB k n s k' n' s' = c := ⟨_, rfl⟩
  have HC : Hid (cmpV (bsK k k') (bsN k n) (bsS k s) (bsK k' k) (bsN k' n') (bsS k' s') = c) := hc
  rw [hc]
  clear hc
  go_enter Tryz.func47, Tryz.ntmps47
  go_upto_region 4 with (go_at_call 68; refine (firstBad_no _ _ _ _ _ _ _ h4 h4').mono ?_; rintro e w1 ⟨rfl, h1⟩)
  replace hS := (hS.next h1).alloc (O3 0 0 nul)
  clear h1
  clear h4 h4'
  go_cut [9] (fun s9 wx => s9 = .int .i64 c ∧ MS w k n s k' n' s' wx)
  case first =>
    have h0d := (hS.next (drew_below _)).opened
    have ⟨q0, q1, q2, q3, q4, q5, q6⟩ := hS.opened
    go_region_held3 (fun wx => MO w k n s k' n' s' wx) (first | exact h0d | exact mo_below (by assumption) (by assumption)) (first | (go_at_call 70; refine (blankAs_any _ _ _ _ _ (by first | exact H4.out | exact H4'.out)).mono ?_; rintro e wa ⟨rfl, ha⟩) | (go_at_call 17; refine (compare_any _ _ _ _ _ _ _).mono ?_; rintro e wa ⟨rfl, ha⟩))
    all_goals
      go_wp2_with fail
      go_meet
      case rel => exact ⟨by rw [HC.out], mo_ms (by assumption)⟩
  case rest =>
  clear hS H4 H4' HC
  obtain ⟨rfl, hS⟩ := hcut
  go_wp2_with fail
  refine (truth_any _ _).mono ?_
  rintro e w1 ⟨rfl, q1⟩
  replace hS := hS.next q1
  obtain ⟨⟨r0, r1, r2⟩, t0, t1, t2⟩ := cells3 hS.res
  have hB := hS.below
  go_wp2_with fail
  exact bodyPost_ret (v := V 3 (b2n (decide (c < 0))) nul) (by simp [results, Tryz.results47, go_sem, r0, r1, r2]) rfl ⟨rfl, hB.trans (below3 (by omega))⟩
set_option maxRecDepth 100000 in
set_option maxHeartbeats 8000000 in
theorem hold_4 (k n : Int) (s : ByteArray) (k' n' : Int) (s' : ByteArray) (w : World) (h4 : (k == 4) = false) (h4' : (k' == 4) = false) :
    Calls Tryz.prog 47 #[.int .i64 4, V k n s, V k' n' s'] w fun e w' => e = .returned (V 3 (b2n (decide (cmpB k n s k' n' s' ≤ 0))) nul) ∧ Below w.heap.size w w' := by
  have hS := MS.start w k n s k' n' s'
  have H4 : Hid (¬ k = 4) := beq_eq_false_iff_ne.1 h4
  have H4' : Hid (¬ k' = 4) := beq_eq_false_iff_ne.1 h4'
  obtain ⟨c, hc⟩ : ∃ c, cmpB k n s k' n' s' = c := ⟨_, rfl⟩
  have HC : Hid (cmpV (bsK k k') (bsN k n) (bsS k s) (bsK k' k) (bsN k' n') (bsS k' s') = c) := hc
  rw [hc]
  clear hc
  go_enter Tryz.func47, Tryz.ntmps47
  go_upto_region 4 with (go_at_call 68; refine (firstBad_no _ _ _ _ _ _ _ h4 h4').mono ?_; rintro e w1 ⟨rfl, h1⟩)
  replace hS := (hS.next h1).alloc (O3 0 0 nul)
  clear h1
  clear h4 h4'
  go_cut [9] (fun s9 wx => s9 = .int .i64 c ∧ MS w k n s k' n' s' wx)
  case first =>
    have h0d := (hS.next (drew_below _)).opened
    have ⟨q0, q1, q2, q3, q4, q5, q6⟩ := hS.opened
    go_region_held3 (fun wx => MO w k n s k' n' s' wx) (first | exact h0d | exact mo_below (by assumption) (by assumption)) (first | (go_at_call 70; refine (blankAs_any _ _ _ _ _ (by first | exact H4.out | exact H4'.out)).mono ?_; rintro e wa ⟨rfl, ha⟩) | (go_at_call 17; refine (compare_any _ _ _ _ _ _ _).mono ?_; rintro e wa ⟨rfl, ha⟩))
    all_goals
      go_wp2_with fail
      go_meet
      case rel => exact ⟨by rw [HC.out], mo_ms (by assumption)⟩
  case rest =>
  clear hS H4 H4' HC
  obtain ⟨rfl, hS⟩ := hcut
  go_wp2_with fail
  refine (truth_any _ _).mono ?_
  rintro e w1 ⟨rfl, q1⟩
  replace hS := hS.next q1
  obtain ⟨⟨r0, r1, r2⟩, t0, t1, t2⟩ := cells3 hS.res
  have hB := hS.below
  go_wp2_with fail
  exact bodyPost_ret (v := V 3 (b2n (decide (c ≤ 0))) nul) (by simp [results, Tryz.results47, go_sem, r0, r1, r2]) rfl ⟨rfl, hB.trans (below3 (by omega))⟩
set_option maxRecDepth 100000 in
set_option maxHeartbeats 8000000 in
theorem hold_5 (k n : Int) (s : ByteArray) (k' n' : Int) (s' : ByteArray) (w : World) (h4 : (k == 4) = false) (h4' : (k' == 4) = false) :
    Calls Tryz.prog 47 #[.int .i64 5, V k n s, V k' n' s'] w fun e w' => e = .returned (V 3 (b2n (decide (0 < cmpB k n s k' n' s'))) nul) ∧ Below w.heap.size w w' := by
  have hS := MS.start w k n s k' n' s'
  have H4 : Hid (¬ k = 4) := beq_eq_false_iff_ne.1 h4
  have H4' : Hid (¬ k' = 4) := beq_eq_false_iff_ne.1 h4'
  obtain ⟨c, hc⟩ : ∃ c, cmpB k n s k' n' s' = c := ⟨_, rfl⟩
  have HC : Hid (cmpV (bsK k k') (bsN k n) (bsS k s) (bsK k' k) (bsN k' n') (bsS k' s') = c) := hc
  rw [hc]
  clear hc
  go_enter Tryz.func47, Tryz.ntmps47
  go_upto_region 4 with (go_at_call 68; refine (firstBad_no _ _ _ _ _ _ _ h4 h4').mono ?_; rintro e w1 ⟨rfl, h1⟩)
  replace hS := (hS.next h1).alloc (O3 0 0 nul)
  clear h1
  clear h4 h4'
  go_cut [9] (fun s9 wx => s9 = .int .i64 c ∧ MS w k n s k' n' s' wx)
  case first =>
    have h0d := (hS.next (drew_below _)).opened
    have ⟨q0, q1, q2, q3, q4, q5, q6⟩ := hS.opened
    go_region_held3 (fun wx => MO w k n s k' n' s' wx) (first | exact h0d | exact mo_below (by assumption) (by assumption)) (first | (go_at_call 70; refine (blankAs_any _ _ _ _ _ (by first | exact H4.out | exact H4'.out)).mono ?_; rintro e wa ⟨rfl, ha⟩) | (go_at_call 17; refine (compare_any _ _ _ _ _ _ _).mono ?_; rintro e wa ⟨rfl, ha⟩))
    all_goals
      go_wp2_with fail
      go_meet
      case rel => exact ⟨by rw [HC.out], mo_ms (by assumption)⟩
  case rest =>
  clear hS H4 H4' HC
  obtain ⟨rfl, hS⟩ := hcut
  go_wp2_with fail
  refine (truth_any _ _).mono ?_
  rintro e w1 ⟨rfl, q1⟩
  replace hS := hS.next q1
  obtain ⟨⟨r0, r1, r2⟩, t0, t1, t2⟩ := cells3 hS.res
  have hB := hS.below
  go_wp2_with fail
  exact bodyPost_ret (v := V 3 (b2n (decide (0 < c))) nul) (by simp [results, Tryz.results47, go_sem, r0, r1, r2]) rfl ⟨rfl, hB.trans (below3 (by omega))⟩
set_option maxRecDepth 100000 in
set_option maxHeartbeats 8000000 in
theorem hold_6 (k n : Int) (s : ByteArray) (k' n' : Int) (s' : ByteArray) (w : World) (h4 : (k == 4) = false) (h4' : (k' == 4) = false) :
    Calls Tryz.prog 47 #[.int .i64 6, V k n s, V k' n' s'] w fun e w' => e = .returned (V 3 (b2n (decide (0 ≤ cmpB k n s k' n' s'))) nul) ∧ Below w.heap.size w w' := by
  have hS := MS.start w k n s k' n' s'
  have H4 : Hid (¬ k = 4) := beq_eq_false_iff_ne.1 h4
  have H4' : Hid (¬ k' = 4) := beq_eq_false_iff_ne.1 h4'
  obtain ⟨c, hc⟩ : ∃ c, cmpB k n s k' n' s' = c := ⟨_, rfl⟩
  have HC : Hid (cmpV (bsK k k') (bsN k n) (bsS k s) (bsK k' k) (bsN k' n') (bsS k' s') = c) := hc
  rw [hc]
  clear hc
  go_enter Tryz.func47, Tryz.ntmps47
  go_upto_region 4 with (go_at_call 68; refine (firstBad_no _ _ _ _ _ _ _ h4 h4').mono ?_; rintro e w1 ⟨rfl, h1⟩)
  replace hS := (hS.next h1).alloc (O3 0 0 nul)
  clear h1
  clear h4 h4'
  go_cut [9] (fun s9 wx => s9 = .int .i64 c ∧ MS w k n s k' n' s' wx)
  case first =>
    have h0d := (hS.next (drew_below _)).opened
    have ⟨q0, q1, q2, q3, q4, q5, q6⟩ := hS.opened
    go_region_held3 (fun wx => MO w k n s k' n' s' wx) (first | exact h0d | exact mo_below (by assumption) (by assumption)) (first | (go_at_call 70; refine (blankAs_any _ _ _ _ _ (by first | exact H4.out | exact H4'.out)).mono ?_; rintro e wa ⟨rfl, ha⟩) | (go_at_call 17; refine (compare_any _ _ _ _ _ _ _).mono ?_; rintro e wa ⟨rfl, ha⟩))
    all_goals
      go_wp2_with fail
      go_meet
      case rel => exact ⟨by rw [HC.out], mo_ms (by assumption)⟩
  case rest =>
  clear hS H4 H4' HC
  obtain ⟨rfl, hS⟩ := hcut
  go_wp2_with fail
  refine (truth_any _ _).mono ?_
  rintro e w1 ⟨rfl, q1⟩
  replace hS := hS.next q1
  obtain ⟨⟨r0, r1, r2⟩, t0, t1, t2⟩ := cells3 hS.res
  have hB := hS.below
  go_wp2_with fail
  exact bodyPost_ret (v := V 3 (b2n (decide (0 ≤ c))) nul) (by simp [results, Tryz.results47, go_sem, r0, r1, r2]) rfl ⟨rfl, hB.trans (below3 (by omega))⟩
set_option maxRecDepth 100000 in
set_option maxHeartbeats 8000000 in
theorem rtwo_low (op : Int) (h : op < 1) (k n : Int) (s : ByteArray) (k' n' : Int) (s' : ByteArray) (w : World) :
    Calls Tryz.prog 15 #[.int .i64 op, V k n s, V k' n' s'] w fun e w' => e = .returned (V 4 4 nul) ∧ Below w.heap.size w w' := by
  have hS := MS.start w k n s k' n' s'
  go_enter Tryz.func15, Tryz.ntmps15
  go_wp2_with fail
  refine (rbad_any _ _).mono ?_
  rintro e w1 ⟨rfl, q1⟩
  replace hS := hS.next q1
  obtain ⟨⟨r0, r1, r2⟩, t0, t1, t2⟩ := cells3 hS.res
  have hB := hS.below
  go_wp2_with fail
  exact bodyPost_ret (v := V 4 4 nul) (by simp [results, Tryz.results15, go_sem, r0, r1, r2]) rfl ⟨rfl, hB.trans (below3 (by omega))⟩
set_option maxRecDepth 100000 in
set_option maxHeartbeats 8000000 in
theorem rtwo_high (op : Int) (h : 11 < op) (k n : Int) (s : ByteArray) (k' n' : Int) (s' : ByteArray) (w : World) :
    Calls Tryz.prog 15 #[.int .i64 op, V k n s, V k' n' s'] w fun e w' => e = .returned (V 4 4 nul) ∧ Below w.heap.size w w' := by
  have hS := MS.start w k n s k' n' s'
  go_enter Tryz.func15, Tryz.ntmps15
  go_wp2_with fail
  refine (rbad_any _ _).mono ?_
  rintro e w1 ⟨rfl, q1⟩
  replace hS := hS.next q1
  obtain ⟨⟨r0, r1, r2⟩, t0, t1, t2⟩ := cells3 hS.res
  have hB := hS.below
  go_wp2_with fail
  exact bodyPost_ret (v := V 4 4 nul) (by simp [results, Tryz.results15, go_sem, r0, r1, r2]) rfl ⟨rfl, hB.trans (below3 (by omega))⟩
set_option maxRecDepth 100000 in
set_option maxHeartbeats 8000000 in
theorem rtwo_a (op : Int) (h1 : 1 ≤ op) (h7 : op ≤ 7) (n : Int) (s : ByteArray) (k' n' : Int) (s' : ByteArray) (w : World) :
    Calls Tryz.prog 15 #[.int .i64 op, V 4 n s, V k' n' s'] w fun e w' => e = .returned (V 4 n s) ∧ Below w.heap.size w w' := by
  go_enter Tryz.func15, Tryz.ntmps15
  go_wp2_with fail
  exact bodyPost_ret (v := V 4 n s) (by simp [results, Tryz.results15, go_sem]) rfl ⟨rfl, by (repeat (first | exact Below.refl _ _ | assumption | (refine Below.setCell ?_ (by first | omega | (simp <;> omega)) _) | (refine Below.alloc ?_ (by first | omega | (simp <;> omega)) _) | (refine Below.drew ?_)))⟩
set_option maxRecDepth 100000 in
set_option maxHeartbeats 8000000 in
theorem rtwo_b (op : Int) (h1 : 1 ≤ op) (h7 : op ≤ 7) (k n : Int) (s : ByteArray) (n' : Int) (s' : ByteArray) (h4 : (k == 4) = false) (w : World) :
    Calls Tryz.prog 15 #[.int .i64 op, V k n s, V 4 n' s'] w fun e w' => e = .returned (V 4 n' s') ∧ Below w.heap.size w w' := by
  go_enter Tryz.func15, Tryz.ntmps15
  go_wp2_with fail
  exact bodyPost_ret (v := V 4 n' s') (by simp [results, Tryz.results15, go_sem]) rfl ⟨rfl, by (repeat (first | exact Below.refl _ _ | assumption | (refine Below.setCell ?_ (by first | omega | (simp <;> omega)) _) | (refine Below.alloc ?_ (by first | omega | (simp <;> omega)) _) | (refine Below.drew ?_)))⟩
set_option maxRecDepth 100000 in
set_option maxHeartbeats 8000000 in
theorem rtwo_cat (k n : Int) (s : ByteArray) (k' n' : Int) (s' : ByteArray) (w : World) (h4 : (k == 4) = false) (h4' : (k' == 4) = false) (hv : isVal k n s = true) (hv' : isVal k' n' s' = true) (hb : B64 n) (hb' : B64 n') :
    (Hid (200 < (sh k n s).size + (sh k' n' s').size) → Calls Tryz.prog 15 #[.int .i64 7, V k n s, V k' n' s'] w fun e w' => e = .returned (V 4 2 nul) ∧ Below w.heap.size w w') ∧
    (Hid ((sh k n s).size + (sh k' n' s').size ≤ 200) → Calls Tryz.prog 15 #[.int .i64 7, V k n s, V k' n' s'] w fun e w' => e = .returned (V 2 0 (sh k n s ++ sh k' n' s')) ∧ Below w.heap.size w w') := by
  have hS := MS.start w k n s k' n' s'
  have HV : Hid (isVal k n s = true) := hv
  have HV' : Hid (isVal k' n' s' = true) := hv'
  clear hv hv'
  have hz : ¬ 9223372036854775807 < (sh k n s).size + (sh k' n' s').size := by
    have := sh_len HV.out hb
    have := sh_len HV'.out hb'
    omega
  have HBB : Hid (B64 n ∧ B64 n') := ⟨hb, hb'⟩
  clear hb hb'
  constructor
  all_goals
    intro HL
    obtain ⟨⟨a0, a1, a2⟩, c0, c1, c2⟩ := cells3 hS.a
    obtain ⟨⟨b0, b1, b2⟩, d0, d1, d2⟩ := cells3 hS.b
    go_enter Tryz.func15, Tryz.ntmps15
    go_upto_region 13 with fail
    clear a0 a1 a2 c0 c1 c2 b0 b1 b2 d0 d1 d2
    go_cut [7] (fun s7 wx => s7 = .string (sh k n s ++ sh k' n' s') ∧ MS w k n s k' n' s' wx)
    case first =>
      have h0d := (hS.next (drew_below _)).opened
      have ⟨q0, q1, q2, q3, q4, q5, q6⟩ := hS.opened
      go_region_held3 (fun wx => MO w k n s k' n' s' wx) (first | exact h0d | exact mo_below (by assumption) (by assumption)) (first | (go_at_call 12; refine (rshow_any _ _ _ _ (by first | exact HV.out | exact HV'.out) (by first | exact HBB.out.1.1 | exact HBB.out.2.1) (by first | exact HBB.out.1.2 | exact HBB.out.2.2)).mono ?_; rintro e wa ⟨rfl, ha⟩))
      all_goals
        go_wp2_with fail
        go_meet
        case rel => exact ⟨rfl, mo_ms (by assumption)⟩
    case rest =>
    clear hS HV HV' hz HBB
    obtain ⟨rfl, hS⟩ := hcut
    obtain ⟨t, ht⟩ : ∃ t, sh k n s ++ sh k' n' s' = t := ⟨_, rfl⟩
    have hsz : t.size = (sh k n s).size + (sh k' n' s').size := by rw [← ht, ByteArray.size_append]
    rw [ht]
    have HT : Hid (sh k n s ++ sh k' n' s' = t) := ht
    clear ht
    first
    | (have hl : (200 : Int) < (t.size : Int) := by have := HL.out; omega
       clear HL hsz
       go_wp2_with fail
       refine (rbad_any _ _).mono ?_
       rintro e w1 ⟨rfl, q1⟩
       replace hS := hS.next q1
       obtain ⟨⟨r0, r1, r2⟩, t0, t1, t2⟩ := cells3 hS.res
       have hB := hS.below
       go_wp2_with fail
       exact bodyPost_ret (v := V 4 2 nul) (by simp [results, Tryz.results15, go_sem, r0, r1, r2]) rfl ⟨rfl, hB.trans (below3 (by omega))⟩)
    | (have hl : (t.size : Int) ≤ (200 : Int) := by have := HL.out; omega
       clear HL hsz
       go_wp2_with fail
       refine (rtxt_any _ _).mono ?_
       rintro e w1 ⟨rfl, q1⟩
       replace hS := hS.next q1
       obtain ⟨⟨r0, r1, r2⟩, t0, t1, t2⟩ := cells3 hS.res
       have hB := hS.below
       go_wp2_with fail
       exact bodyPost_ret (v := V 2 0 t) (by simp [results, Tryz.results15, go_sem, r0, r1, r2]) rfl ⟨by rw [HT.out], hB.trans (below3 (by omega))⟩)
set_option maxRecDepth 100000 in
set_option maxHeartbeats 8000000 in
theorem rtwo_1 (k n : Int) (s : ByteArray) (k' n' : Int) (s' : ByteArray) (w : World) (h4 : (k == 4) = false) (h4' : (k' == 4) = false) (hv : isVal k n s = true) (hv' : isVal k' n' s' = true) :
    Calls Tryz.prog 15 #[.int .i64 1, V k n s, V k' n' s'] w fun e w' => e = .returned (V 3 (b2n (cmpB k n s k' n' s' == 0)) nul) ∧ Below w.heap.size w w' := by
  have hS := MS.start w k n s k' n' s'
  have HV : Hid (isVal k n s = true) := hv
  have HV' : Hid (isVal k' n' s' = true) := hv'
  clear hv hv'
  obtain ⟨c, hc⟩ : ∃ c, cmpB k n s k' n' s' = c := ⟨_, rfl⟩
  have HC : Hid (cmpV (bsK k k') (bsN k n) (bsS k s) (bsK k' k) (bsN k' n') (bsS k' s') = c) := hc
  rw [hc]
  clear hc
  obtain ⟨⟨a0, a1, a2⟩, c0, c1, c2⟩ := cells3 hS.a
  obtain ⟨⟨b0, b1, b2⟩, d0, d1, d2⟩ := cells3 hS.b
  go_enter Tryz.func15, Tryz.ntmps15
  go_upto_region 17 with fail
  clear a0 a1 a2 c0 c1 c2 b0 b1 b2 d0 d1 d2
  go_cut [8] (fun s8 wx => s8 = .int .i64 c ∧ MS w k n s k' n' s' wx)
  case first =>
    have h0d := (hS.next (drew_below _)).opened
    have ⟨q0, q1, q2, q3, q4, q5, q6⟩ := hS.opened
    go_region_held3 (fun wx => MO w k n s k' n' s' wx) (first | exact h0d | exact mo_below (by assumption) (by assumption)) (first | (go_at_call 40; refine (beside_any _ _ _ _ _ _ _ (by first | exact HV.out | exact HV'.out) (by first | exact HV.out | exact HV'.out)).mono ?_; rintro e wa ⟨rfl, ha⟩) | (go_at_call 21; refine (rcompare_any _ _ _ _ _ _ _).mono ?_; rintro e wa ⟨rfl, ha⟩))
    all_goals
      go_wp2_with fail
      go_meet
      case rel => exact ⟨by rw [HC.out], mo_ms (by assumption)⟩
  case rest =>
  clear hS HV HV' HC
  obtain ⟨rfl, hS⟩ := hcut
  go_wp2_with fail
  refine (rtru_any _ _).mono ?_
  rintro e w1 ⟨rfl, q1⟩
  replace hS := hS.next q1
  obtain ⟨⟨r0, r1, r2⟩, t0, t1, t2⟩ := cells3 hS.res
  have hB := hS.below
  go_wp2_with fail
  exact bodyPost_ret (v := V 3 (b2n (c == 0)) nul) (by simp [results, Tryz.results15, go_sem, r0, r1, r2]) rfl ⟨rfl, hB.trans (below3 (by omega))⟩
set_option maxRecDepth 100000 in
set_option maxHeartbeats 8000000 in
theorem rtwo_2 (k n : Int) (s : ByteArray) (k' n' : Int) (s' : ByteArray) (w : World) (h4 : (k == 4) = false) (h4' : (k' == 4) = false) (hv : isVal k n s = true) (hv' : isVal k' n' s' = true) :
    Calls Tryz.prog 15 #[.int .i64 2, V k n s, V k' n' s'] w fun e w' => e = .returned (V 3 (b2n (cmpB k n s k' n' s' != 0)) nul) ∧ Below w.heap.size w w' := by
  have hS := MS.start w k n s k' n' s'
  have HV : Hid (isVal k n s = true) := hv
  have HV' : Hid (isVal k' n' s' = true) := hv'
  clear hv hv'
  obtain ⟨c, hc⟩ : ∃ c, cmpB k n s k' n' s' = c := ⟨_, rfl⟩
  have HC : Hid (cmpV (bsK k k') (bsN k n) (bsS k s) (bsK k' k) (bsN k' n') (bsS k' s') = c) := hc
  rw [hc]
  clear hc
  obtain ⟨⟨a0, a1, a2⟩, c0, c1, c2⟩ := cells3 hS.a
  obtain ⟨⟨b0, b1, b2⟩, d0, d1, d2⟩ := cells3 hS.b
  go_enter Tryz.func15, Tryz.ntmps15
  go_upto_region 17 with fail
  clear a0 a1 a2 c0 c1 c2 b0 b1 b2 d0 d1 d2
  go_cut [8] (fun s8 wx => s8 = .int .i64 c ∧ MS w k n s k' n' s' wx)
  case first =>
    have h0d := (hS.next (drew_below _)).opened
    have ⟨q0, q1, q2, q3, q4, q5, q6⟩ := hS.opened
    go_region_held3 (fun wx => MO w k n s k' n' s' wx) (first | exact h0d | exact mo_below (by assumption) (by assumption)) (first | (go_at_call 40; refine (beside_any _ _ _ _ _ _ _ (by first | exact HV.out | exact HV'.out) (by first | exact HV.out | exact HV'.out)).mono ?_; rintro e wa ⟨rfl, ha⟩) | (go_at_call 21; refine (rcompare_any _ _ _ _ _ _ _).mono ?_; rintro e wa ⟨rfl, ha⟩))
    all_goals
      go_wp2_with fail
      go_meet
      case rel => exact ⟨by rw [HC.out], mo_ms (by assumption)⟩
  case rest =>
  clear hS HV HV' HC
  obtain ⟨rfl, hS⟩ := hcut
  go_wp2_with fail
  refine (rtru_any _ _).mono ?_
  rintro e w1 ⟨rfl, q1⟩
  replace hS := hS.next q1
  obtain ⟨⟨r0, r1, r2⟩, t0, t1, t2⟩ := cells3 hS.res
  have hB := hS.below
  go_wp2_with fail
  exact bodyPost_ret (v := V 3 (b2n (c != 0)) nul) (by simp [results, Tryz.results15, go_sem, r0, r1, r2]) rfl ⟨rfl, hB.trans (below3 (by omega))⟩
set_option maxRecDepth 100000 in
set_option maxHeartbeats 8000000 in
theorem rtwo_3 (k n : Int) (s : ByteArray) (k' n' : Int) (s' : ByteArray) (w : World) (h4 : (k == 4) = false) (h4' : (k' == 4) = false) (hv : isVal k n s = true) (hv' : isVal k' n' s' = true) :
    Calls Tryz.prog 15 #[.int .i64 3, V k n s, V k' n' s'] w fun e w' => e = .returned (V 3 (b2n (decide (cmpB k n s k' n' s' < 0))) nul) ∧ Below w.heap.size w w' := by
  have hS := MS.start w k n s k' n' s'
  have HV : Hid (isVal k n s = true) := hv
  have HV' : Hid (isVal k' n' s' = true) := hv'
  clear hv hv'
  obtain ⟨c, hc⟩ : ∃ c, cmpB k n s k' n' s' = c := ⟨_, rfl⟩
  have HC : Hid (cmpV (bsK k k') (bsN k n) (bsS k s) (bsK k' k) (bsN k' n') (bsS k' s') = c) := hc
  rw [hc]
  clear hc
  obtain ⟨⟨a0, a1, a2⟩, c0, c1, c2⟩ := cells3 hS.a
  obtain ⟨⟨b0, b1, b2⟩, d0, d1, d2⟩ := cells3 hS.b
  go_enter Tryz.func15, Tryz.ntmps15
  go_upto_region 17 with fail
  clear a0 a1 a2 c0 c1 c2 b0 b1 b2 d0 d1 d2
  go_cut [8] (fun s8 wx => s8 = .int .i64 c ∧ MS w k n s k' n' s' wx)
  case first =>
    have h0d := (hS.next (drew_below _)).opened
    have ⟨q0, q1, q2, q3, q4, q5, q6⟩ := hS.opened
    go_region_held3 (fun wx => MO w k n s k' n' s' wx) (first | exact h0d | exact mo_below (by assumption) (by assumption)) (first | (go_at_call 40; refine (beside_any _ _ _ _ _ _ _ (by first | exact HV.out | exact HV'.out) (by first | exact HV.out | exact HV'.out)).mono ?_; rintro e wa ⟨rfl, ha⟩) | (go_at_call 21; refine (rcompare_any _ _ _ _ _ _ _).mono ?_; rintro e wa ⟨rfl, ha⟩))
    all_goals
      go_wp2_with fail
      go_meet
      case rel => exact ⟨by rw [HC.out], mo_ms (by assumption)⟩
  case rest =>
  clear hS HV HV' HC
  obtain ⟨rfl, hS⟩ := hcut
  go_wp2_with fail
  refine (rtru_any _ _).mono ?_
  rintro e w1 ⟨rfl, q1⟩
  replace hS := hS.next q1
  obtain ⟨⟨r0, r1, r2⟩, t0, t1, t2⟩ := cells3 hS.res
  have hB := hS.below
  go_wp2_with fail
  exact bodyPost_ret (v := V 3 (b2n (decide (c < 0))) nul) (by simp [results, Tryz.results15, go_sem, r0, r1, r2]) rfl ⟨rfl, hB.trans (below3 (by omega))⟩
set_option maxRecDepth 100000 in
set_option maxHeartbeats 8000000 in
theorem rtwo_4 (k n : Int) (s : ByteArray) (k' n' : Int) (s' : ByteArray) (w : World) (h4 : (k == 4) = false) (h4' : (k' == 4) = false) (hv : isVal k n s = true) (hv' : isVal k' n' s' = true) :
    Calls Tryz.prog 15 #[.int .i64 4, V k n s, V k' n' s'] w fun e w' => e = .returned (V 3 (b2n (decide (cmpB k n s k' n' s' ≤ 0))) nul) ∧ Below w.heap.size w w' := by
  have hS := MS.start w k n s k' n' s'
  have HV : Hid (isVal k n s = true) := hv
  have HV' : Hid (isVal k' n' s' = true) := hv'
  clear hv hv'
  obtain ⟨c, hc⟩ : ∃ c, cmpB k n s k' n' s' = c := ⟨_, rfl⟩
  have HC : Hid (cmpV (bsK k k') (bsN k n) (bsS k s) (bsK k' k) (bsN k' n') (bsS k' s') = c) := hc
  rw [hc]
  clear hc
  obtain ⟨⟨a0, a1, a2⟩, c0, c1, c2⟩ := cells3 hS.a
  obtain ⟨⟨b0, b1, b2⟩, d0, d1, d2⟩ := cells3 hS.b
  go_enter Tryz.func15, Tryz.ntmps15
  go_upto_region 17 with fail
  clear a0 a1 a2 c0 c1 c2 b0 b1 b2 d0 d1 d2
  go_cut [8] (fun s8 wx => s8 = .int .i64 c ∧ MS w k n s k' n' s' wx)
  case first =>
    have h0d := (hS.next (drew_below _)).opened
    have ⟨q0, q1, q2, q3, q4, q5, q6⟩ := hS.opened
    go_region_held3 (fun wx => MO w k n s k' n' s' wx) (first | exact h0d | exact mo_below (by assumption) (by assumption)) (first | (go_at_call 40; refine (beside_any _ _ _ _ _ _ _ (by first | exact HV.out | exact HV'.out) (by first | exact HV.out | exact HV'.out)).mono ?_; rintro e wa ⟨rfl, ha⟩) | (go_at_call 21; refine (rcompare_any _ _ _ _ _ _ _).mono ?_; rintro e wa ⟨rfl, ha⟩))
    all_goals
      go_wp2_with fail
      go_meet
      case rel => exact ⟨by rw [HC.out], mo_ms (by assumption)⟩
  case rest =>
  clear hS HV HV' HC
  obtain ⟨rfl, hS⟩ := hcut
  go_wp2_with fail
  refine (rtru_any _ _).mono ?_
  rintro e w1 ⟨rfl, q1⟩
  replace hS := hS.next q1
  obtain ⟨⟨r0, r1, r2⟩, t0, t1, t2⟩ := cells3 hS.res
  have hB := hS.below
  go_wp2_with fail
  exact bodyPost_ret (v := V 3 (b2n (decide (c ≤ 0))) nul) (by simp [results, Tryz.results15, go_sem, r0, r1, r2]) rfl ⟨rfl, hB.trans (below3 (by omega))⟩
set_option maxRecDepth 100000 in
set_option maxHeartbeats 8000000 in
theorem rtwo_5 (k n : Int) (s : ByteArray) (k' n' : Int) (s' : ByteArray) (w : World) (h4 : (k == 4) = false) (h4' : (k' == 4) = false) (hv : isVal k n s = true) (hv' : isVal k' n' s' = true) :
    Calls Tryz.prog 15 #[.int .i64 5, V k n s, V k' n' s'] w fun e w' => e = .returned (V 3 (b2n (decide (0 < cmpB k n s k' n' s'))) nul) ∧ Below w.heap.size w w' := by
  have hS := MS.start w k n s k' n' s'
  have HV : Hid (isVal k n s = true) := hv
  have HV' : Hid (isVal k' n' s' = true) := hv'
  clear hv hv'
  obtain ⟨c, hc⟩ : ∃ c, cmpB k n s k' n' s' = c := ⟨_, rfl⟩
  have HC : Hid (cmpV (bsK k k') (bsN k n) (bsS k s) (bsK k' k) (bsN k' n') (bsS k' s') = c) := hc
  rw [hc]
  clear hc
  obtain ⟨⟨a0, a1, a2⟩, c0, c1, c2⟩ := cells3 hS.a
  obtain ⟨⟨b0, b1, b2⟩, d0, d1, d2⟩ := cells3 hS.b
  go_enter Tryz.func15, Tryz.ntmps15
  go_upto_region 17 with fail
  clear a0 a1 a2 c0 c1 c2 b0 b1 b2 d0 d1 d2
  go_cut [8] (fun s8 wx => s8 = .int .i64 c ∧ MS w k n s k' n' s' wx)
  case first =>
    have h0d := (hS.next (drew_below _)).opened
    have ⟨q0, q1, q2, q3, q4, q5, q6⟩ := hS.opened
    go_region_held3 (fun wx => MO w k n s k' n' s' wx) (first | exact h0d | exact mo_below (by assumption) (by assumption)) (first | (go_at_call 40; refine (beside_any _ _ _ _ _ _ _ (by first | exact HV.out | exact HV'.out) (by first | exact HV.out | exact HV'.out)).mono ?_; rintro e wa ⟨rfl, ha⟩) | (go_at_call 21; refine (rcompare_any _ _ _ _ _ _ _).mono ?_; rintro e wa ⟨rfl, ha⟩))
    all_goals
      go_wp2_with fail
      go_meet
      case rel => exact ⟨by rw [HC.out], mo_ms (by assumption)⟩
  case rest =>
  clear hS HV HV' HC
  obtain ⟨rfl, hS⟩ := hcut
  go_wp2_with fail
  refine (rtru_any _ _).mono ?_
  rintro e w1 ⟨rfl, q1⟩
  replace hS := hS.next q1
  obtain ⟨⟨r0, r1, r2⟩, t0, t1, t2⟩ := cells3 hS.res
  have hB := hS.below
  go_wp2_with fail
  exact bodyPost_ret (v := V 3 (b2n (decide (0 < c))) nul) (by simp [results, Tryz.results15, go_sem, r0, r1, r2]) rfl ⟨rfl, hB.trans (below3 (by omega))⟩
set_option maxRecDepth 100000 in
set_option maxHeartbeats 8000000 in
theorem rtwo_6 (k n : Int) (s : ByteArray) (k' n' : Int) (s' : ByteArray) (w : World) (h4 : (k == 4) = false) (h4' : (k' == 4) = false) (hv : isVal k n s = true) (hv' : isVal k' n' s' = true) :
    Calls Tryz.prog 15 #[.int .i64 6, V k n s, V k' n' s'] w fun e w' => e = .returned (V 3 (b2n (decide (0 ≤ cmpB k n s k' n' s'))) nul) ∧ Below w.heap.size w w' := by
  have hS := MS.start w k n s k' n' s'
  have HV : Hid (isVal k n s = true) := hv
  have HV' : Hid (isVal k' n' s' = true) := hv'
  clear hv hv'
  obtain ⟨c, hc⟩ : ∃ c, cmpB k n s k' n' s' = c := ⟨_, rfl⟩
  have HC : Hid (cmpV (bsK k k') (bsN k n) (bsS k s) (bsK k' k) (bsN k' n') (bsS k' s') = c) := hc
  rw [hc]
  clear hc
  obtain ⟨⟨a0, a1, a2⟩, c0, c1, c2⟩ := cells3 hS.a
  obtain ⟨⟨b0, b1, b2⟩, d0, d1, d2⟩ := cells3 hS.b
  go_enter Tryz.func15, Tryz.ntmps15
  go_upto_region 17 with fail
  clear a0 a1 a2 c0 c1 c2 b0 b1 b2 d0 d1 d2
  go_cut [8] (fun s8 wx => s8 = .int .i64 c ∧ MS w k n s k' n' s' wx)
  case first =>
    have h0d := (hS.next (drew_below _)).opened
    have ⟨q0, q1, q2, q3, q4, q5, q6⟩ := hS.opened
    go_region_held3 (fun wx => MO w k n s k' n' s' wx) (first | exact h0d | exact mo_below (by assumption) (by assumption)) (first | (go_at_call 40; refine (beside_any _ _ _ _ _ _ _ (by first | exact HV.out | exact HV'.out) (by first | exact HV.out | exact HV'.out)).mono ?_; rintro e wa ⟨rfl, ha⟩) | (go_at_call 21; refine (rcompare_any _ _ _ _ _ _ _).mono ?_; rintro e wa ⟨rfl, ha⟩))
    all_goals
      go_wp2_with fail
      go_meet
      case rel => exact ⟨by rw [HC.out], mo_ms (by assumption)⟩
  case rest =>
  clear hS HV HV' HC
  obtain ⟨rfl, hS⟩ := hcut
  go_wp2_with fail
  refine (rtru_any _ _).mono ?_
  rintro e w1 ⟨rfl, q1⟩
  replace hS := hS.next q1
  obtain ⟨⟨r0, r1, r2⟩, t0, t1, t2⟩ := cells3 hS.res
  have hB := hS.below
  go_wp2_with fail
  exact bodyPost_ret (v := V 3 (b2n (decide (0 ≤ c))) nul) (by simp [results, Tryz.results15, go_sem, r0, r1, r2]) rfl ⟨rfl, hB.trans (below3 (by omega))⟩
/-- What a call returns wherever the package variables hold what the text lays. -/
def Gives (F : Nat) (args : Array Value) (k n : Int) (s : ByteArray) : Prop := ∀ W, Env W → Calls Tryz.prog F args W fun e w' => e = .returned (V k n s) ∧ Below W.heap.size W w'
set_option maxRecDepth 100000 in
set_option maxHeartbeats 8000000 in
theorem ptwo_8 (k n : Int) (s : ByteArray) (k' n' : Int) (s' : ByteArray) (rk rn : Int) (rs : ByteArray) (hC : Gives 31 #[V k n s, V k' n' s', .func (.func 43) #[] #[]] rk rn rs) :
    Gives 18 #[.int .i64 8, V k n s, V k' n' s'] rk rn rs := by
  intro w hE
  have HC : Hid (Gives 31 #[V k n s, V k' n' s', .func (.func 43) #[] #[]] rk rn rs) := hC
  have hS := MS.start w k n s k' n' s'
  have hE0 := hS.env hE
  clear hC
  go_enter Tryz.func18, Tryz.ntmps18
  go_wp2_with fail
  refine (HC.out _ hE0).mono ?_
  rintro e w1 ⟨rfl, q1⟩
  replace hS := hS.next q1
  obtain ⟨⟨r0, r1, r2⟩, t0, t1, t2⟩ := cells3 hS.res
  have hB := hS.below
  go_wp2_with fail
  exact bodyPost_ret (v := V rk rn rs) (by simp [results, Tryz.results18, go_sem, r0, r1, r2]) rfl ⟨rfl, hB.trans (below3 (by omega))⟩
set_option maxRecDepth 100000 in
set_option maxHeartbeats 8000000 in
theorem ptwo_9 (k n : Int) (s : ByteArray) (k' n' : Int) (s' : ByteArray) (rk rn : Int) (rs : ByteArray) (hC : Gives 31 #[V k n s, V k' n' s', .func (.func 32) #[] #[]] rk rn rs) :
    Gives 18 #[.int .i64 9, V k n s, V k' n' s'] rk rn rs := by
  intro w hE
  have HC : Hid (Gives 31 #[V k n s, V k' n' s', .func (.func 32) #[] #[]] rk rn rs) := hC
  have hS := MS.start w k n s k' n' s'
  have hE0 := hS.env hE
  clear hC
  go_enter Tryz.func18, Tryz.ntmps18
  go_wp2_with fail
  refine (HC.out _ hE0).mono ?_
  rintro e w1 ⟨rfl, q1⟩
  replace hS := hS.next q1
  obtain ⟨⟨r0, r1, r2⟩, t0, t1, t2⟩ := cells3 hS.res
  have hB := hS.below
  go_wp2_with fail
  exact bodyPost_ret (v := V rk rn rs) (by simp [results, Tryz.results18, go_sem, r0, r1, r2]) rfl ⟨rfl, hB.trans (below3 (by omega))⟩
set_option maxRecDepth 100000 in
set_option maxHeartbeats 8000000 in
theorem ptwo_10 (k n : Int) (s : ByteArray) (k' n' : Int) (s' : ByteArray) (rk rn : Int) (rs : ByteArray) (hC : Gives 31 #[V k n s, V k' n' s', .func (.func 44) #[] #[]] rk rn rs) :
    Gives 18 #[.int .i64 10, V k n s, V k' n' s'] rk rn rs := by
  intro w hE
  have HC : Hid (Gives 31 #[V k n s, V k' n' s', .func (.func 44) #[] #[]] rk rn rs) := hC
  have hS := MS.start w k n s k' n' s'
  have hE0 := hS.env hE
  clear hC
  go_enter Tryz.func18, Tryz.ntmps18
  go_wp2_with fail
  refine (HC.out _ hE0).mono ?_
  rintro e w1 ⟨rfl, q1⟩
  replace hS := hS.next q1
  obtain ⟨⟨r0, r1, r2⟩, t0, t1, t2⟩ := cells3 hS.res
  have hB := hS.below
  go_wp2_with fail
  exact bodyPost_ret (v := V rk rn rs) (by simp [results, Tryz.results18, go_sem, r0, r1, r2]) rfl ⟨rfl, hB.trans (below3 (by omega))⟩
set_option maxRecDepth 100000 in
set_option maxHeartbeats 8000000 in
theorem ptwo_11 (k n : Int) (s : ByteArray) (k' n' : Int) (s' : ByteArray) (rk rn : Int) (rs : ByteArray) (hC : Gives 31 #[V k n s, V k' n' s', .func (.func 45) #[] #[]] rk rn rs) :
    Gives 18 #[.int .i64 11, V k n s, V k' n' s'] rk rn rs := by
  intro w hE
  have HC : Hid (Gives 31 #[V k n s, V k' n' s', .func (.func 45) #[] #[]] rk rn rs) := hC
  have hS := MS.start w k n s k' n' s'
  have hE0 := hS.env hE
  clear hC
  go_enter Tryz.func18, Tryz.ntmps18
  go_wp2_with fail
  refine (HC.out _ hE0).mono ?_
  rintro e w1 ⟨rfl, q1⟩
  replace hS := hS.next q1
  obtain ⟨⟨r0, r1, r2⟩, t0, t1, t2⟩ := cells3 hS.res
  have hB := hS.below
  go_wp2_with fail
  exact bodyPost_ret (v := V rk rn rs) (by simp [results, Tryz.results18, go_sem, r0, r1, r2]) rfl ⟨rfl, hB.trans (below3 (by omega))⟩
set_option maxRecDepth 100000 in
set_option maxHeartbeats 8000000 in
theorem ptwo_7 (k n : Int) (s : ByteArray) (k' n' : Int) (s' : ByteArray) (rk rn : Int) (rs : ByteArray) (hC : Gives 46 #[V k n s, V k' n' s'] rk rn rs) :
    Gives 18 #[.int .i64 7, V k n s, V k' n' s'] rk rn rs := by
  intro w hE
  have HC : Hid (Gives 46 #[V k n s, V k' n' s'] rk rn rs) := hC
  have hS := MS.start w k n s k' n' s'
  have hE0 := hS.env hE
  clear hC
  go_enter Tryz.func18, Tryz.ntmps18
  go_wp2_with fail
  refine (HC.out _ hE0).mono ?_
  rintro e w1 ⟨rfl, q1⟩
  replace hS := hS.next q1
  obtain ⟨⟨r0, r1, r2⟩, t0, t1, t2⟩ := cells3 hS.res
  have hB := hS.below
  go_wp2_with fail
  exact bodyPost_ret (v := V rk rn rs) (by simp [results, Tryz.results18, go_sem, r0, r1, r2]) rfl ⟨rfl, hB.trans (below3 (by omega))⟩
set_option maxRecDepth 100000 in
set_option maxHeartbeats 8000000 in
theorem ptwo_1 (k n : Int) (s : ByteArray) (k' n' : Int) (s' : ByteArray) (rk rn : Int) (rs : ByteArray) (hC : Gives 47 #[.int .i64 1, V k n s, V k' n' s'] rk rn rs) :
    Gives 18 #[.int .i64 1, V k n s, V k' n' s'] rk rn rs := by
  intro w hE
  have HC : Hid (Gives 47 #[.int .i64 1, V k n s, V k' n' s'] rk rn rs) := hC
  have hS := MS.start w k n s k' n' s'
  have hE0 := hS.env hE
  clear hC
  go_enter Tryz.func18, Tryz.ntmps18
  go_wp2_with fail
  refine (HC.out _ hE0).mono ?_
  rintro e w1 ⟨rfl, q1⟩
  replace hS := hS.next q1
  obtain ⟨⟨r0, r1, r2⟩, t0, t1, t2⟩ := cells3 hS.res
  have hB := hS.below
  go_wp2_with fail
  exact bodyPost_ret (v := V rk rn rs) (by simp [results, Tryz.results18, go_sem, r0, r1, r2]) rfl ⟨rfl, hB.trans (below3 (by omega))⟩
set_option maxRecDepth 100000 in
set_option maxHeartbeats 8000000 in
theorem ptwo_2 (k n : Int) (s : ByteArray) (k' n' : Int) (s' : ByteArray) (rk rn : Int) (rs : ByteArray) (hC : Gives 47 #[.int .i64 2, V k n s, V k' n' s'] rk rn rs) :
    Gives 18 #[.int .i64 2, V k n s, V k' n' s'] rk rn rs := by
  intro w hE
  have HC : Hid (Gives 47 #[.int .i64 2, V k n s, V k' n' s'] rk rn rs) := hC
  have hS := MS.start w k n s k' n' s'
  have hE0 := hS.env hE
  clear hC
  go_enter Tryz.func18, Tryz.ntmps18
  go_wp2_with fail
  refine (HC.out _ hE0).mono ?_
  rintro e w1 ⟨rfl, q1⟩
  replace hS := hS.next q1
  obtain ⟨⟨r0, r1, r2⟩, t0, t1, t2⟩ := cells3 hS.res
  have hB := hS.below
  go_wp2_with fail
  exact bodyPost_ret (v := V rk rn rs) (by simp [results, Tryz.results18, go_sem, r0, r1, r2]) rfl ⟨rfl, hB.trans (below3 (by omega))⟩
set_option maxRecDepth 100000 in
set_option maxHeartbeats 8000000 in
theorem ptwo_3 (k n : Int) (s : ByteArray) (k' n' : Int) (s' : ByteArray) (rk rn : Int) (rs : ByteArray) (hC : Gives 47 #[.int .i64 3, V k n s, V k' n' s'] rk rn rs) :
    Gives 18 #[.int .i64 3, V k n s, V k' n' s'] rk rn rs := by
  intro w hE
  have HC : Hid (Gives 47 #[.int .i64 3, V k n s, V k' n' s'] rk rn rs) := hC
  have hS := MS.start w k n s k' n' s'
  have hE0 := hS.env hE
  clear hC
  go_enter Tryz.func18, Tryz.ntmps18
  go_wp2_with fail
  refine (HC.out _ hE0).mono ?_
  rintro e w1 ⟨rfl, q1⟩
  replace hS := hS.next q1
  obtain ⟨⟨r0, r1, r2⟩, t0, t1, t2⟩ := cells3 hS.res
  have hB := hS.below
  go_wp2_with fail
  exact bodyPost_ret (v := V rk rn rs) (by simp [results, Tryz.results18, go_sem, r0, r1, r2]) rfl ⟨rfl, hB.trans (below3 (by omega))⟩
set_option maxRecDepth 100000 in
set_option maxHeartbeats 8000000 in
theorem ptwo_4 (k n : Int) (s : ByteArray) (k' n' : Int) (s' : ByteArray) (rk rn : Int) (rs : ByteArray) (hC : Gives 47 #[.int .i64 4, V k n s, V k' n' s'] rk rn rs) :
    Gives 18 #[.int .i64 4, V k n s, V k' n' s'] rk rn rs := by
  intro w hE
  have HC : Hid (Gives 47 #[.int .i64 4, V k n s, V k' n' s'] rk rn rs) := hC
  have hS := MS.start w k n s k' n' s'
  have hE0 := hS.env hE
  clear hC
  go_enter Tryz.func18, Tryz.ntmps18
  go_wp2_with fail
  refine (HC.out _ hE0).mono ?_
  rintro e w1 ⟨rfl, q1⟩
  replace hS := hS.next q1
  obtain ⟨⟨r0, r1, r2⟩, t0, t1, t2⟩ := cells3 hS.res
  have hB := hS.below
  go_wp2_with fail
  exact bodyPost_ret (v := V rk rn rs) (by simp [results, Tryz.results18, go_sem, r0, r1, r2]) rfl ⟨rfl, hB.trans (below3 (by omega))⟩
set_option maxRecDepth 100000 in
set_option maxHeartbeats 8000000 in
theorem ptwo_5 (k n : Int) (s : ByteArray) (k' n' : Int) (s' : ByteArray) (rk rn : Int) (rs : ByteArray) (hC : Gives 47 #[.int .i64 5, V k n s, V k' n' s'] rk rn rs) :
    Gives 18 #[.int .i64 5, V k n s, V k' n' s'] rk rn rs := by
  intro w hE
  have HC : Hid (Gives 47 #[.int .i64 5, V k n s, V k' n' s'] rk rn rs) := hC
  have hS := MS.start w k n s k' n' s'
  have hE0 := hS.env hE
  clear hC
  go_enter Tryz.func18, Tryz.ntmps18
  go_wp2_with fail
  refine (HC.out _ hE0).mono ?_
  rintro e w1 ⟨rfl, q1⟩
  replace hS := hS.next q1
  obtain ⟨⟨r0, r1, r2⟩, t0, t1, t2⟩ := cells3 hS.res
  have hB := hS.below
  go_wp2_with fail
  exact bodyPost_ret (v := V rk rn rs) (by simp [results, Tryz.results18, go_sem, r0, r1, r2]) rfl ⟨rfl, hB.trans (below3 (by omega))⟩
set_option maxRecDepth 100000 in
set_option maxHeartbeats 8000000 in
theorem ptwo_6 (k n : Int) (s : ByteArray) (k' n' : Int) (s' : ByteArray) (rk rn : Int) (rs : ByteArray) (hC : Gives 47 #[.int .i64 6, V k n s, V k' n' s'] rk rn rs) :
    Gives 18 #[.int .i64 6, V k n s, V k' n' s'] rk rn rs := by
  intro w hE
  have HC : Hid (Gives 47 #[.int .i64 6, V k n s, V k' n' s'] rk rn rs) := hC
  have hS := MS.start w k n s k' n' s'
  have hE0 := hS.env hE
  clear hC
  go_enter Tryz.func18, Tryz.ntmps18
  go_wp2_with fail
  refine (HC.out _ hE0).mono ?_
  rintro e w1 ⟨rfl, q1⟩
  replace hS := hS.next q1
  obtain ⟨⟨r0, r1, r2⟩, t0, t1, t2⟩ := cells3 hS.res
  have hB := hS.below
  go_wp2_with fail
  exact bodyPost_ret (v := V rk rn rs) (by simp [results, Tryz.results18, go_sem, r0, r1, r2]) rfl ⟨rfl, hB.trans (below3 (by omega))⟩
set_option maxRecDepth 100000 in
set_option maxHeartbeats 8000000 in
theorem pmod (k n : Int) (s : ByteArray) (k' n' : Int) (s' : ByteArray) (rk rn : Int) (rs : ByteArray) (hC : Gives 31 #[V k n s, V k' n' s', .func (.func 48) #[] #[]] rk rn rs) :
    Gives 19 #[V k n s, V k' n' s'] rk rn rs := by
  intro w hE
  have HC : Hid (Gives 31 #[V k n s, V k' n' s', .func (.func 48) #[] #[]] rk rn rs) := hC
  have hS := MS.start w k n s k' n' s'
  have hE0 := hS.env hE
  clear hC
  go_enter Tryz.func19, Tryz.ntmps19
  go_wp2_with fail
  refine (HC.out _ hE0).mono ?_
  rintro e w1 ⟨rfl, q1⟩
  replace hS := hS.next q1
  obtain ⟨⟨r0, r1, r2⟩, t0, t1, t2⟩ := cells3 hS.res
  have hB := hS.below
  go_wp2_with fail
  exact bodyPost_ret (v := V rk rn rs) (by simp [results, Tryz.results19, go_sem, r0, r1, r2]) rfl ⟨rfl, hB.trans (below3 (by omega))⟩
set_option maxRecDepth 100000 in
set_option maxHeartbeats 8000000 in
theorem ptwo_out (op : Int) (k n : Int) (s : ByteArray) (k' n' : Int) (s' : ByteArray) (e1 : (op == 1) = false) (e2 : (op == 2) = false) (e3 : (op == 3) = false) (e4 : (op == 4) = false) (e5 : (op == 5) = false) (e6 : (op == 6) = false) (e7 : (op == 7) = false) (e8 : (op == 8) = false) (e9 : (op == 9) = false) (e10 : (op == 10) = false) (e11 : (op == 11) = false) :
    Gives 18 #[.int .i64 op, V k n s, V k' n' s'] 4 4 nul := by
  intro w _
  have hS := MS.start w k n s k' n' s'
  go_enter Tryz.func18, Tryz.ntmps18
  go_wp2_with fail
  refine (bad_any _ _).mono ?_
  rintro e w1 ⟨rfl, q1⟩
  replace hS := hS.next q1
  obtain ⟨⟨r0, r1, r2⟩, t0, t1, t2⟩ := cells3 hS.res
  have hB := hS.below
  go_wp2_with fail
  exact bodyPost_ret (v := V 4 4 nul) (by simp [results, Tryz.results18, go_sem, r0, r1, r2]) rfl ⟨rfl, hB.trans (below3 (by omega))⟩
theorem ptwo_none (op : Int) (h : op < 1 ∨ 11 < op) (k n : Int) (s : ByteArray) (k' n' : Int) (s' : ByteArray) : Gives 18 #[.int .i64 op, V k n s, V k' n' s'] 4 4 nul :=
  ptwo_out op k n s k' n' s' (beq_eq_false_iff_ne.2 (by omega)) (beq_eq_false_iff_ne.2 (by omega)) (beq_eq_false_iff_ne.2 (by omega)) (beq_eq_false_iff_ne.2 (by omega)) (beq_eq_false_iff_ne.2 (by omega)) (beq_eq_false_iff_ne.2 (by omega)) (beq_eq_false_iff_ne.2 (by omega)) (beq_eq_false_iff_ne.2 (by omega)) (beq_eq_false_iff_ne.2 (by omega)) (beq_eq_false_iff_ne.2 (by omega)) (beq_eq_false_iff_ne.2 (by omega))
/-- Both Twos give one answer. -/
theorem two_agree (op : Int) (k n : Int) (s : ByteArray) (k' n' : Int) (s' : ByteArray) (hv : isVal k n s = true) (hv' : isVal k' n' s' = true) (hb : B64 n) (hb' : B64 n') :
    ∃ (rk rn : Int) (rs : ByteArray), Gives 18 #[.int .i64 op, V k n s, V k' n' s'] rk rn rs ∧ Gives 15 #[.int .i64 op, V k n s, V k' n' s'] rk rn rs := by
  by_cases hl : op < 1
  · exact ⟨_, _, _, ptwo_none op (Or.inl hl) k n s k' n' s', fun W _ => rtwo_low op hl k n s k' n' s' W⟩
  by_cases hh : 11 < op
  · exact ⟨_, _, _, ptwo_none op (Or.inr hh) k n s k' n' s', fun W _ => rtwo_high op hh k n s k' n' s' W⟩
  have hop : op = 1 ∨ op = 2 ∨ op = 3 ∨ op = 4 ∨ op = 5 ∨ op = 6 ∨ op = 7 ∨ op = 8 ∨ op = 9 ∨ op = 10 ∨ op = 11 := by omega
  clear hl hh
  rcases hop with rfl | rfl | rfl | rfl | rfl | rfl | rfl | rfl | rfl | rfl | rfl
  · by_cases h : k = 4
    · subst h
      exact ⟨_, _, _, ptwo_1 4 n s k' n' s' _ _ _ (fun W _ => hold_a 1 n s k' n' s' W), fun W _ => rtwo_a 1 (by omega) (by omega) n s k' n' s' W⟩
    have b4 : (k == 4) = false := beq_eq_false_iff_ne.2 h
    by_cases h' : k' = 4
    · subst h'
      exact ⟨_, _, _, ptwo_1 k n s 4 n' s' _ _ _ (fun W _ => hold_b 1 k n s n' s' W b4), fun W _ => rtwo_b 1 (by omega) (by omega) k n s n' s' b4 W⟩
    have b4' : (k' == 4) = false := beq_eq_false_iff_ne.2 h'
    exact ⟨_, _, _, ptwo_1 k n s k' n' s' _ _ _ (fun W _ => hold_1 k n s k' n' s' W b4 b4'), fun W _ => rtwo_1 k n s k' n' s' W b4 b4' hv hv'⟩
  · by_cases h : k = 4
    · subst h
      exact ⟨_, _, _, ptwo_2 4 n s k' n' s' _ _ _ (fun W _ => hold_a 2 n s k' n' s' W), fun W _ => rtwo_a 2 (by omega) (by omega) n s k' n' s' W⟩
    have b4 : (k == 4) = false := beq_eq_false_iff_ne.2 h
    by_cases h' : k' = 4
    · subst h'
      exact ⟨_, _, _, ptwo_2 k n s 4 n' s' _ _ _ (fun W _ => hold_b 2 k n s n' s' W b4), fun W _ => rtwo_b 2 (by omega) (by omega) k n s n' s' b4 W⟩
    have b4' : (k' == 4) = false := beq_eq_false_iff_ne.2 h'
    exact ⟨_, _, _, ptwo_2 k n s k' n' s' _ _ _ (fun W _ => hold_2 k n s k' n' s' W b4 b4'), fun W _ => rtwo_2 k n s k' n' s' W b4 b4' hv hv'⟩
  · by_cases h : k = 4
    · subst h
      exact ⟨_, _, _, ptwo_3 4 n s k' n' s' _ _ _ (fun W _ => hold_a 3 n s k' n' s' W), fun W _ => rtwo_a 3 (by omega) (by omega) n s k' n' s' W⟩
    have b4 : (k == 4) = false := beq_eq_false_iff_ne.2 h
    by_cases h' : k' = 4
    · subst h'
      exact ⟨_, _, _, ptwo_3 k n s 4 n' s' _ _ _ (fun W _ => hold_b 3 k n s n' s' W b4), fun W _ => rtwo_b 3 (by omega) (by omega) k n s n' s' b4 W⟩
    have b4' : (k' == 4) = false := beq_eq_false_iff_ne.2 h'
    exact ⟨_, _, _, ptwo_3 k n s k' n' s' _ _ _ (fun W _ => hold_3 k n s k' n' s' W b4 b4'), fun W _ => rtwo_3 k n s k' n' s' W b4 b4' hv hv'⟩
  · by_cases h : k = 4
    · subst h
      exact ⟨_, _, _, ptwo_4 4 n s k' n' s' _ _ _ (fun W _ => hold_a 4 n s k' n' s' W), fun W _ => rtwo_a 4 (by omega) (by omega) n s k' n' s' W⟩
    have b4 : (k == 4) = false := beq_eq_false_iff_ne.2 h
    by_cases h' : k' = 4
    · subst h'
      exact ⟨_, _, _, ptwo_4 k n s 4 n' s' _ _ _ (fun W _ => hold_b 4 k n s n' s' W b4), fun W _ => rtwo_b 4 (by omega) (by omega) k n s n' s' b4 W⟩
    have b4' : (k' == 4) = false := beq_eq_false_iff_ne.2 h'
    exact ⟨_, _, _, ptwo_4 k n s k' n' s' _ _ _ (fun W _ => hold_4 k n s k' n' s' W b4 b4'), fun W _ => rtwo_4 k n s k' n' s' W b4 b4' hv hv'⟩
  · by_cases h : k = 4
    · subst h
      exact ⟨_, _, _, ptwo_5 4 n s k' n' s' _ _ _ (fun W _ => hold_a 5 n s k' n' s' W), fun W _ => rtwo_a 5 (by omega) (by omega) n s k' n' s' W⟩
    have b4 : (k == 4) = false := beq_eq_false_iff_ne.2 h
    by_cases h' : k' = 4
    · subst h'
      exact ⟨_, _, _, ptwo_5 k n s 4 n' s' _ _ _ (fun W _ => hold_b 5 k n s n' s' W b4), fun W _ => rtwo_b 5 (by omega) (by omega) k n s n' s' b4 W⟩
    have b4' : (k' == 4) = false := beq_eq_false_iff_ne.2 h'
    exact ⟨_, _, _, ptwo_5 k n s k' n' s' _ _ _ (fun W _ => hold_5 k n s k' n' s' W b4 b4'), fun W _ => rtwo_5 k n s k' n' s' W b4 b4' hv hv'⟩
  · by_cases h : k = 4
    · subst h
      exact ⟨_, _, _, ptwo_6 4 n s k' n' s' _ _ _ (fun W _ => hold_a 6 n s k' n' s' W), fun W _ => rtwo_a 6 (by omega) (by omega) n s k' n' s' W⟩
    have b4 : (k == 4) = false := beq_eq_false_iff_ne.2 h
    by_cases h' : k' = 4
    · subst h'
      exact ⟨_, _, _, ptwo_6 k n s 4 n' s' _ _ _ (fun W _ => hold_b 6 k n s n' s' W b4), fun W _ => rtwo_b 6 (by omega) (by omega) k n s n' s' b4 W⟩
    have b4' : (k' == 4) = false := beq_eq_false_iff_ne.2 h'
    exact ⟨_, _, _, ptwo_6 k n s k' n' s' _ _ _ (fun W _ => hold_6 k n s k' n' s' W b4 b4'), fun W _ => rtwo_6 k n s k' n' s' W b4 b4' hv hv'⟩
  · by_cases h : k = 4
    · subst h
      exact ⟨_, _, _, ptwo_7 4 n s k' n' s' _ _ _ (fun W _ => cat_a n s k' n' s' W), fun W _ => rtwo_a 7 (by omega) (by omega) n s k' n' s' W⟩
    have b4 : (k == 4) = false := beq_eq_false_iff_ne.2 h
    by_cases h' : k' = 4
    · subst h'
      exact ⟨_, _, _, ptwo_7 k n s 4 n' s' _ _ _ (fun W _ => cat_b k n s n' s' W b4), fun W _ => rtwo_b 7 (by omega) (by omega) k n s n' s' b4 W⟩
    have b4' : (k' == 4) = false := beq_eq_false_iff_ne.2 h'
    by_cases hz : (sh k n s).size + (sh k' n' s').size ≤ 200
    · exact ⟨_, _, _, ptwo_7 k n s k' n' s' _ _ _ (fun W hE => (cat_any k n s k' n' s' W hE b4 b4' hv hv' hb hb').2 hz), fun W _ => (rtwo_cat k n s k' n' s' W b4 b4' hv hv' hb hb').2 hz⟩
    · exact ⟨_, _, _, ptwo_7 k n s k' n' s' _ _ _ (fun W hE => (cat_any k n s k' n' s' W hE b4 b4' hv hv' hb hb').1 (Nat.lt_of_not_le hz)), fun W _ => (rtwo_cat k n s k' n' s' W b4 b4' hv hv' hb hb').1 (Nat.lt_of_not_le hz)⟩
  · exact ⟨_, _, _, ptwo_8 k n s k' n' s' _ _ _ (fun W hE => ofAdd _ _ works_add k n s k' n' s' W hv hv' hb hb' hE), fun W _ => rtwo_num 8 (by omega) (by omega) _ _ recks_8 k n s k' n' s' W hv hv' hb hb'⟩
  · exact ⟨_, _, _, ptwo_9 k n s k' n' s' _ _ _ (fun W hE => ofSub _ _ works_sub k n s k' n' s' W hv hv' hb hb' hE), fun W _ => rtwo_num 9 (by omega) (by omega) _ _ recks_9 k n s k' n' s' W hv hv' hb hb'⟩
  · exact ⟨_, _, _, ptwo_10 k n s k' n' s' _ _ _ (fun W hE => ofMul _ _ works_mul k n s k' n' s' W hv hv' hb hb' hE), fun W _ => rtwo_num 10 (by omega) (by omega) _ _ recks_10 k n s k' n' s' W hv hv' hb hb'⟩
  · exact ⟨_, _, _, ptwo_11 k n s k' n' s' _ _ _ (fun W hE => ofDiv _ _ works_div k n s k' n' s' W hv hv' hb hb' hE), fun W _ => rtwo_num 11 (by omega) (by omega) _ _ recks_11 k n s k' n' s' W hv hv' hb hb'⟩
theorem mod_agree (k n : Int) (s : ByteArray) (k' n' : Int) (s' : ByteArray) (hv : isVal k n s = true) (hv' : isVal k' n' s' = true) (hb : B64 n) (hb' : B64 n') :
    ∃ (rk rn : Int) (rs : ByteArray), Gives 19 #[V k n s, V k' n' s'] rk rn rs ∧ Gives 20 #[V k n s, V k' n' s'] rk rn rs :=
  ⟨_, _, _, pmod k n s k' n' s' _ _ _ (fun W hE => ofMod _ _ works_mod k n s k' n' s' W hv hv' hb hb' hE), fun W _ => rmod_any k n s k' n' s' W hv hv' hb hb'⟩
theorem PS.env {w wx : World} {k n : Int} {s : ByteArray} {k' n' : Int} {s' : ByteArray} (h : PS w k n s k' n' s' wx) (hE : Env w) : Env wx := hE.below h.below hE.size
theorem PS.alloc {w wx : World} {k n : Int} {s : ByteArray} {k' n' : Int} {s' : ByteArray} (h : PS w k n s k' n' s' wx) (o : Obj) : PS w k n s k' n' s' (wx.alloc o) := h.next ((Below.refl _ _).alloc (Nat.le_refl _) _)
theorem cmp21 : cmpV 1 2 nul 1 1 nul = 1 := by unfold cmpV cmpI; decide
set_option maxRecDepth 100000 in
set_option maxHeartbeats 8000000 in
theorem two_ff (op k n : Int) (s : ByteArray) (k' n' : Int) (s' : ByteArray) (w : World) (hv : isVal k n s = false) (hv' : isVal k' n' s' = false) :
    Calls Tryz.prog 4 #[.int .i64 op, V k n s, V k' n' s'] w fun e w' => e = .returned (.bool true) ∧ Below w.heap.size w w' := by
  have HV : Hid (isVal k n s = false) := hv
  have HV' : Hid (isVal k' n' s' = false) := hv'
  clear hv hv'
  have hS := PS.start w k n s k' n' s'
  go_enter Tryz.func4, Tryz.ntmps4
  go_wp2_with fail
  refine (rnum_any _ _).mono ?_
  rintro e w1 ⟨rfl, q1⟩
  replace hS := hS.next q1
  go_wp2_with fail
  refine (rnum_any _ _).mono ?_
  rintro e w2 ⟨rfl, q2⟩
  replace hS := hS.next q2
  go_wp2_with fail
  refine (compare_any _ _ _ _ _ _ _).mono ?_
  rintro e w3 ⟨rfl, q3⟩
  rw [cmp21]
  replace hS := hS.next q3
  obtain ⟨⟨o0, o1, o2⟩, p0, p1, p2⟩ := cells3 hS.a
  obtain ⟨⟨a0, a1, a2⟩, c0, c1, c2⟩ := cells3 hS.b
  go_wp2_with fail
  refine (is_any k n s _).mono ?_
  rintro e w4 ⟨rfl, q4⟩
  rw [HV.out]
  replace hS := hS.next q4
  clear o0 o1 o2 p0 p1 p2 a0 a1 a2 c0 c1 c2
  obtain ⟨⟨o0, o1, o2⟩, p0, p1, p2⟩ := cells3 hS.a
  obtain ⟨⟨a0, a1, a2⟩, c0, c1, c2⟩ := cells3 hS.b
  go_wp2_with fail
  refine (is_any k' n' s' _).mono ?_
  rintro e w5 ⟨rfl, q5⟩
  rw [HV'.out]
  replace hS := hS.next q5
  clear o0 o1 o2 p0 p1 p2 a0 a1 a2 c0 c1 c2
  clear q1 q2 q3 q4 q5
  have hB := hS.below
  go_wp2_with fail
  go_ret
  exact ⟨rfl, hB⟩
set_option maxRecDepth 100000 in
set_option maxHeartbeats 8000000 in
theorem two_ft (op k n : Int) (s : ByteArray) (k' n' : Int) (s' : ByteArray) (w : World) (hv : isVal k n s = false) (hv' : isVal k' n' s' = true) :
    Calls Tryz.prog 4 #[.int .i64 op, V k n s, V k' n' s'] w fun e w' => e = .returned (.bool true) ∧ Below w.heap.size w w' := by
  have HV : Hid (isVal k n s = false) := hv
  have HV' : Hid (isVal k' n' s' = true) := hv'
  clear hv hv'
  have hS := PS.start w k n s k' n' s'
  go_enter Tryz.func4, Tryz.ntmps4
  go_wp2_with fail
  refine (rnum_any _ _).mono ?_
  rintro e w1 ⟨rfl, q1⟩
  replace hS := hS.next q1
  go_wp2_with fail
  refine (rnum_any _ _).mono ?_
  rintro e w2 ⟨rfl, q2⟩
  replace hS := hS.next q2
  go_wp2_with fail
  refine (compare_any _ _ _ _ _ _ _).mono ?_
  rintro e w3 ⟨rfl, q3⟩
  rw [cmp21]
  replace hS := hS.next q3
  obtain ⟨⟨o0, o1, o2⟩, p0, p1, p2⟩ := cells3 hS.a
  obtain ⟨⟨a0, a1, a2⟩, c0, c1, c2⟩ := cells3 hS.b
  go_wp2_with fail
  refine (is_any k n s _).mono ?_
  rintro e w4 ⟨rfl, q4⟩
  rw [HV.out]
  replace hS := hS.next q4
  clear o0 o1 o2 p0 p1 p2 a0 a1 a2 c0 c1 c2
  obtain ⟨⟨o0, o1, o2⟩, p0, p1, p2⟩ := cells3 hS.a
  obtain ⟨⟨a0, a1, a2⟩, c0, c1, c2⟩ := cells3 hS.b
  go_wp2_with fail
  refine (is_any k' n' s' _).mono ?_
  rintro e w5 ⟨rfl, q5⟩
  rw [HV'.out]
  replace hS := hS.next q5
  clear o0 o1 o2 p0 p1 p2 a0 a1 a2 c0 c1 c2
  clear q1 q2 q3 q4 q5
  have hB := hS.below
  go_wp2_with fail
  go_ret
  exact ⟨rfl, hB⟩
set_option maxRecDepth 100000 in
set_option maxHeartbeats 8000000 in
theorem two_tf (op k n : Int) (s : ByteArray) (k' n' : Int) (s' : ByteArray) (w : World) (hv : isVal k n s = true) (hv' : isVal k' n' s' = false) :
    Calls Tryz.prog 4 #[.int .i64 op, V k n s, V k' n' s'] w fun e w' => e = .returned (.bool true) ∧ Below w.heap.size w w' := by
  have HV : Hid (isVal k n s = true) := hv
  have HV' : Hid (isVal k' n' s' = false) := hv'
  clear hv hv'
  have hS := PS.start w k n s k' n' s'
  go_enter Tryz.func4, Tryz.ntmps4
  go_wp2_with fail
  refine (rnum_any _ _).mono ?_
  rintro e w1 ⟨rfl, q1⟩
  replace hS := hS.next q1
  go_wp2_with fail
  refine (rnum_any _ _).mono ?_
  rintro e w2 ⟨rfl, q2⟩
  replace hS := hS.next q2
  go_wp2_with fail
  refine (compare_any _ _ _ _ _ _ _).mono ?_
  rintro e w3 ⟨rfl, q3⟩
  rw [cmp21]
  replace hS := hS.next q3
  obtain ⟨⟨o0, o1, o2⟩, p0, p1, p2⟩ := cells3 hS.a
  obtain ⟨⟨a0, a1, a2⟩, c0, c1, c2⟩ := cells3 hS.b
  go_wp2_with fail
  refine (is_any k n s _).mono ?_
  rintro e w4 ⟨rfl, q4⟩
  rw [HV.out]
  replace hS := hS.next q4
  clear o0 o1 o2 p0 p1 p2 a0 a1 a2 c0 c1 c2
  obtain ⟨⟨o0, o1, o2⟩, p0, p1, p2⟩ := cells3 hS.a
  obtain ⟨⟨a0, a1, a2⟩, c0, c1, c2⟩ := cells3 hS.b
  go_wp2_with fail
  refine (is_any k' n' s' _).mono ?_
  rintro e w5 ⟨rfl, q5⟩
  rw [HV'.out]
  replace hS := hS.next q5
  clear o0 o1 o2 p0 p1 p2 a0 a1 a2 c0 c1 c2
  clear q1 q2 q3 q4 q5
  have hB := hS.below
  go_wp2_with fail
  go_ret
  exact ⟨rfl, hB⟩
set_option maxRecDepth 100000 in
set_option maxHeartbeats 8000000 in
theorem two_yes (op k n : Int) (s : ByteArray) (k' n' : Int) (s' : ByteArray) (w : World) (hv : isVal k n s = true) (hv' : isVal k' n' s' = true) (hb : B64 n) (hb' : B64 n') (hE : Env w) :
    Calls Tryz.prog 4 #[.int .i64 op, V k n s, V k' n' s'] w fun e w' => e = .returned (.bool true) ∧ Below w.heap.size w w' := by
  obtain ⟨rk, rn, rs, hP, hR⟩ := two_agree op k n s k' n' s' hv hv' hb hb'
  obtain ⟨mk, mn, ms, hPm, hRm⟩ := mod_agree k n s k' n' s' hv hv' hb hb'
  have HP : Hid (Gives 18 #[.int .i64 op, V k n s, V k' n' s'] rk rn rs) := hP
  have HR : Hid (Gives 15 #[.int .i64 op, V k n s, V k' n' s'] rk rn rs) := hR
  have HPm : Hid (Gives 19 #[V k n s, V k' n' s'] mk mn ms) := hPm
  have HRm : Hid (Gives 20 #[V k n s, V k' n' s'] mk mn ms) := hRm
  have HV : Hid (isVal k n s = true) := hv
  have HV' : Hid (isVal k' n' s' = true) := hv'
  clear hv hv' hP hR hPm hRm hb hb'
  have hS := PS.start w k n s k' n' s'
  go_enter Tryz.func4, Tryz.ntmps4
  go_wp2_with fail
  refine (rnum_any _ _).mono ?_
  rintro e w1 ⟨rfl, q1⟩
  replace hS := hS.next q1
  go_wp2_with fail
  refine (rnum_any _ _).mono ?_
  rintro e w2 ⟨rfl, q2⟩
  replace hS := hS.next q2
  go_wp2_with fail
  refine (compare_any _ _ _ _ _ _ _).mono ?_
  rintro e w3 ⟨rfl, q3⟩
  rw [cmp21]
  replace hS := hS.next q3
  obtain ⟨⟨o0, o1, o2⟩, p0, p1, p2⟩ := cells3 hS.a
  obtain ⟨⟨a0, a1, a2⟩, c0, c1, c2⟩ := cells3 hS.b
  go_wp2_with fail
  refine (is_any k n s _).mono ?_
  rintro e w4 ⟨rfl, q4⟩
  rw [HV.out]
  replace hS := hS.next q4
  clear o0 o1 o2 p0 p1 p2 a0 a1 a2 c0 c1 c2
  obtain ⟨⟨o0, o1, o2⟩, p0, p1, p2⟩ := cells3 hS.a
  obtain ⟨⟨a0, a1, a2⟩, c0, c1, c2⟩ := cells3 hS.b
  go_wp2_with fail
  refine (is_any k' n' s' _).mono ?_
  rintro e w5 ⟨rfl, q5⟩
  rw [HV'.out]
  replace hS := hS.next q5
  clear o0 o1 o2 p0 p1 p2 a0 a1 a2 c0 c1 c2
  clear q1 q2 q3 q4 q5
  go_upto_region 8 with fail
  go_cut [10] (fun s10 wx => ∃ b10, s10 = ptr b10 ∧ wx.heap[b10]? = some (O3 rk rn rs) ∧ PS w k n s k' n' s' wx)
  case first =>
    obtain ⟨⟨o0, o1, o2⟩, p0, p1, p2⟩ := cells3 hS.a
    obtain ⟨⟨a0, a1, a2⟩, c0, c1, c2⟩ := cells3 hS.b
    go_wp2_with fail
    refine (HP.out _ (hS.env hE)).mono ?_
    rintro e w1 ⟨rfl, q1⟩
    replace hS := hS.next q1
    go_wp2_with fail
    go_meet
    case rel => exact ⟨_, rfl, hat _ _ _ rfl, hS.alloc _⟩
  case rest =>
  clear hS
  obtain ⟨b10, rfl, h10, hS⟩ := hcut
  go_upto_region 9 with fail
  go_cut [11] (fun s11 wx => ∃ b11, s11 = ptr b11 ∧ wx.heap[b11]? = some (O3 rk rn rs) ∧ wx.heap[b10]? = some (O3 rk rn rs) ∧ PS w k n s k' n' s' wx)
  case first =>
    obtain ⟨⟨o0, o1, o2⟩, p0, p1, p2⟩ := cells3 hS.a
    obtain ⟨⟨a0, a1, a2⟩, c0, c1, c2⟩ := cells3 hS.b
    go_wp2_with fail
    refine (HR.out _ (hS.env hE)).mono ?_
    rintro e w1 ⟨rfl, q1⟩
    replace hS := hS.next q1
    replace h10 := bk h10 q1
    go_wp2_with fail
    go_meet
    case rel => exact ⟨_, rfl, hat _ _ _ rfl, bkA h10 _, hS.alloc _⟩
  case rest =>
  clear hS h10
  obtain ⟨b11, rfl, h11, h10, hS⟩ := hcut
  go_upto_region 10 with fail
  go_cut [12] (fun s12 wx => ∃ b12, s12 = ptr b12 ∧ wx.heap[b12]? = some (O3 mk mn ms) ∧ wx.heap[b11]? = some (O3 rk rn rs) ∧ wx.heap[b10]? = some (O3 rk rn rs) ∧ PS w k n s k' n' s' wx)
  case first =>
    obtain ⟨⟨o0, o1, o2⟩, p0, p1, p2⟩ := cells3 hS.a
    obtain ⟨⟨a0, a1, a2⟩, c0, c1, c2⟩ := cells3 hS.b
    go_wp2_with fail
    refine (HPm.out _ (hS.env hE)).mono ?_
    rintro e w1 ⟨rfl, q1⟩
    replace hS := hS.next q1
    replace h10 := bk h10 q1
    replace h11 := bk h11 q1
    go_wp2_with fail
    go_meet
    case rel => exact ⟨_, rfl, hat _ _ _ rfl, bkA h11 _, bkA h10 _, hS.alloc _⟩
  case rest =>
  clear hS h10 h11
  obtain ⟨b12, rfl, h12, h11, h10, hS⟩ := hcut
  go_upto_region 11 with fail
  go_cut [13] (fun s13 wx => ∃ b13, s13 = ptr b13 ∧ wx.heap[b13]? = some (O3 mk mn ms) ∧ wx.heap[b12]? = some (O3 mk mn ms) ∧ wx.heap[b11]? = some (O3 rk rn rs) ∧ wx.heap[b10]? = some (O3 rk rn rs) ∧ PS w k n s k' n' s' wx)
  case first =>
    obtain ⟨⟨o0, o1, o2⟩, p0, p1, p2⟩ := cells3 hS.a
    obtain ⟨⟨a0, a1, a2⟩, c0, c1, c2⟩ := cells3 hS.b
    go_wp2_with fail
    refine (HRm.out _ (hS.env hE)).mono ?_
    rintro e w1 ⟨rfl, q1⟩
    replace hS := hS.next q1
    replace h10 := bk h10 q1
    replace h11 := bk h11 q1
    replace h12 := bk h12 q1
    go_wp2_with fail
    go_meet
    case rel => exact ⟨_, rfl, hat _ _ _ rfl, bkA h12 _, bkA h11 _, bkA h10 _, hS.alloc _⟩
  case rest =>
  clear hS h10 h11 h12
  obtain ⟨b13, rfl, h13, h12, h11, h10, hS⟩ := hcut
  obtain ⟨⟨o0, o1, o2⟩, p0, p1, p2⟩ := cells3 hS.a
  obtain ⟨⟨a0, a1, a2⟩, c0, c1, c2⟩ := cells3 hS.b
  go_wp2_with fail
  refine (compare_any _ _ _ _ _ _ _).mono ?_
  rintro e w6 ⟨rfl, q6⟩
  replace hS := hS.next q6
  replace h10 := bk h10 q6
  replace h11 := bk h11 q6
  replace h12 := bk h12 q6
  replace h13 := bk h13 q6
  clear o0 o1 o2 p0 p1 p2 a0 a1 a2 c0 c1 c2
  obtain ⟨⟨o0, o1, o2⟩, p0, p1, p2⟩ := cells3 hS.a
  obtain ⟨⟨a0, a1, a2⟩, c0, c1, c2⟩ := cells3 hS.b
  go_wp2_with fail
  refine (rcompare_any _ _ _ _ _ _ _).mono ?_
  rintro e w7 ⟨rfl, q7⟩
  replace hS := hS.next q7
  replace h10 := bk h10 q7
  replace h11 := bk h11 q7
  replace h12 := bk h12 q7
  replace h13 := bk h13 q7
  clear o0 o1 o2 p0 p1 p2 a0 a1 a2 c0 c1 c2
  obtain ⟨c, hc⟩ : ∃ c, cmpV k n s k' n' s' = c := ⟨_, rfl⟩
  rw [hc]
  clear hc q6 q7
  obtain ⟨⟨d0, d1, d2⟩, _, _, _⟩ := cells3 h10
  obtain ⟨⟨e0, e1, e2⟩, _, _, _⟩ := cells3 h11
  obtain ⟨⟨f0, f1, f2⟩, _, _, _⟩ := cells3 h12
  obtain ⟨⟨g0, g1, g2⟩, _, _, _⟩ := cells3 h13
  have hB := hS.below
  go_wp2_with fail
  go_ret
  exact ⟨by simp, hB⟩
theorem two_law (op k n : Int) (s : ByteArray) (k' n' : Int) (s' : ByteArray) (w : World) (hb : B64 n) (hb' : B64 n') (hE : Env w) :
    Calls Tryz.prog 4 #[.int .i64 op, V k n s, V k' n' s'] w fun e w' => e = .returned (.bool true) ∧ Below w.heap.size w w' := by
  cases h : isVal k n s <;> cases h' : isVal k' n' s'
  · exact two_ff op k n s k' n' s' w h h'
  · exact two_ft op k n s k' n' s' w h h'
  · exact two_tf op k n s k' n' s' w h h'
  · exact two_yes op k n s k' n' s' w h h' hb hb' hE
end Go.Proofs.YtgoadofnfaidcaaGreatDoor
