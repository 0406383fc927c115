/- The reference's Two at an operator that does not reckon. Conditions: as each theorem says. -/
import Derived.Test.YtgoadofnfaidcaaGreatDoorTwoB
namespace Go.Proofs.YtgoadofnfaidcaaGreatDoor
open Go.RowKit
set_option maxRecDepth 100000 in
set_option maxHeartbeats 8000000 in
theorem rtwo_low (op : Int) (h : op < 1) (k n : Int) (s : ByteArray) (k' n' : Int) (s' : ByteArray) (w : World) :
    Calls Tryz.prog 15 #[.int .i64 op, V k n s, V k' n' s'] w fun e w' => e = .returned (V 4 4 nul) ∧ Below w.heap.size w w' := by
  have hS := MS.start w k n s k' n' s'
  go_enter Tryz.func15, Tryz.ntmps15
  go_wp2_with fail
  refine (rbad_any _ _).mono ?_
  rintro e w1 ⟨rfl, q1⟩
  replace hS := hS.next q1
  obtain ⟨⟨r0, r1, r2⟩, t0, t1, t2⟩ := cells3 hS.res
  have hB := hS.below
  go_wp2_with fail
  exact bodyPost_ret (v := V 4 4 nul) (by simp [results, Tryz.results15, go_sem, r0, r1, r2]) rfl ⟨rfl, hB.trans (below3 (by omega))⟩
set_option maxRecDepth 100000 in
set_option maxHeartbeats 8000000 in
theorem rtwo_high (op : Int) (h : 11 < op) (k n : Int) (s : ByteArray) (k' n' : Int) (s' : ByteArray) (w : World) :
    Calls Tryz.prog 15 #[.int .i64 op, V k n s, V k' n' s'] w fun e w' => e = .returned (V 4 4 nul) ∧ Below w.heap.size w w' := by
  have hS := MS.start w k n s k' n' s'
  go_enter Tryz.func15, Tryz.ntmps15
  go_wp2_with fail
  refine (rbad_any _ _).mono ?_
  rintro e w1 ⟨rfl, q1⟩
  replace hS := hS.next q1
  obtain ⟨⟨r0, r1, r2⟩, t0, t1, t2⟩ := cells3 hS.res
  have hB := hS.below
  go_wp2_with fail
  exact bodyPost_ret (v := V 4 4 nul) (by simp [results, Tryz.results15, go_sem, r0, r1, r2]) rfl ⟨rfl, hB.trans (below3 (by omega))⟩
set_option maxRecDepth 100000 in
set_option maxHeartbeats 8000000 in
theorem rtwo_a (op : Int) (h1 : 1 ≤ op) (h7 : op ≤ 7) (n : Int) (s : ByteArray) (k' n' : Int) (s' : ByteArray) (w : World) :
    Calls Tryz.prog 15 #[.int .i64 op, V 4 n s, V k' n' s'] w fun e w' => e = .returned (V 4 n s) ∧ Below w.heap.size w w' := by
  go_enter Tryz.func15, Tryz.ntmps15
  go_wp2_with fail
  exact bodyPost_ret (v := V 4 n s) (by simp [results, Tryz.results15, go_sem]) rfl ⟨rfl, by (repeat (first | exact Below.refl _ _ | assumption | (refine Below.setCell ?_ (by first | omega | (simp <;> omega)) _) | (refine Below.alloc ?_ (by first | omega | (simp <;> omega)) _) | (refine Below.drew ?_)))⟩
set_option maxRecDepth 100000 in
set_option maxHeartbeats 8000000 in
theorem rtwo_b (op : Int) (h1 : 1 ≤ op) (h7 : op ≤ 7) (k n : Int) (s : ByteArray) (n' : Int) (s' : ByteArray) (h4 : (k == 4) = false) (w : World) :
    Calls Tryz.prog 15 #[.int .i64 op, V k n s, V 4 n' s'] w fun e w' => e = .returned (V 4 n' s') ∧ Below w.heap.size w w' := by
  go_enter Tryz.func15, Tryz.ntmps15
  go_wp2_with fail
  exact bodyPost_ret (v := V 4 n' s') (by simp [results, Tryz.results15, go_sem]) rfl ⟨rfl, by (repeat (first | exact Below.refl _ _ | assumption | (refine Below.setCell ?_ (by first | omega | (simp <;> omega)) _) | (refine Below.alloc ?_ (by first | omega | (simp <;> omega)) _) | (refine Below.drew ?_)))⟩
set_option maxRecDepth 100000 in
set_option maxHeartbeats 8000000 in
theorem rtwo_cat (k n : Int) (s : ByteArray) (k' n' : Int) (s' : ByteArray) (w : World) (h4 : (k == 4) = false) (h4' : (k' == 4) = false) (hv : isVal k n s = true) (hv' : isVal k' n' s' = true) (hb : B64 n) (hb' : B64 n') :
    (Hid (200 < (sh k n s).size + (sh k' n' s').size) → Calls Tryz.prog 15 #[.int .i64 7, V k n s, V k' n' s'] w fun e w' => e = .returned (V 4 2 nul) ∧ Below w.heap.size w w') ∧
    (Hid ((sh k n s).size + (sh k' n' s').size ≤ 200) → Calls Tryz.prog 15 #[.int .i64 7, V k n s, V k' n' s'] w fun e w' => e = .returned (V 2 0 (sh k n s ++ sh k' n' s')) ∧ Below w.heap.size w w') := by
  have hS := MS.start w k n s k' n' s'
  have HV : Hid (isVal k n s = true) := hv
  have HV' : Hid (isVal k' n' s' = true) := hv'
  clear hv hv'
  have hz : ¬ 9223372036854775807 < (sh k n s).size + (sh k' n' s').size := by
    have := sh_len HV.out hb
    have := sh_len HV'.out hb'
    omega
  have HBB : Hid (B64 n ∧ B64 n') := ⟨hb, hb'⟩
  clear hb hb'
  constructor
  all_goals
    intro HL
    obtain ⟨⟨a0, a1, a2⟩, c0, c1, c2⟩ := cells3 hS.a
    obtain ⟨⟨b0, b1, b2⟩, d0, d1, d2⟩ := cells3 hS.b
    go_enter Tryz.func15, Tryz.ntmps15
    go_upto_region 13 with fail
    clear a0 a1 a2 c0 c1 c2 b0 b1 b2 d0 d1 d2
    go_cut [7] (fun s7 wx => s7 = .string (sh k n s ++ sh k' n' s') ∧ MS w k n s k' n' s' wx)
    case first =>
      have h0d := (hS.next (drew_below _)).opened
      have ⟨q0, q1, q2, q3, q4, q5, q6⟩ := hS.opened
      go_region_held3 (fun wx => MO w k n s k' n' s' wx) (first | exact h0d | exact mo_below (by assumption) (by assumption)) (first | (go_at_call 12; refine (rshow_any _ _ _ _ (by first | exact HV.out | exact HV'.out) (by first | exact HBB.out.1.1 | exact HBB.out.2.1) (by first | exact HBB.out.1.2 | exact HBB.out.2.2)).mono ?_; rintro e wa ⟨rfl, ha⟩))
      all_goals
        go_wp2_with fail
        go_meet
        case rel => exact ⟨rfl, mo_ms (by assumption)⟩
    case rest =>
    clear hS HV HV' hz HBB
    obtain ⟨rfl, hS⟩ := hcut
    obtain ⟨t, ht⟩ : ∃ t, sh k n s ++ sh k' n' s' = t := ⟨_, rfl⟩
    have hsz : t.size = (sh k n s).size + (sh k' n' s').size := by rw [← ht, ByteArray.size_append]
    rw [ht]
    have HT : Hid (sh k n s ++ sh k' n' s' = t) := ht
    clear ht
    first
    | (have hl : (200 : Int) < (t.size : Int) := by have := HL.out; omega
       clear HL hsz
       go_wp2_with fail
       refine (rbad_any _ _).mono ?_
       rintro e w1 ⟨rfl, q1⟩
       replace hS := hS.next q1
       obtain ⟨⟨r0, r1, r2⟩, t0, t1, t2⟩ := cells3 hS.res
       have hB := hS.below
       go_wp2_with fail
       exact bodyPost_ret (v := V 4 2 nul) (by simp [results, Tryz.results15, go_sem, r0, r1, r2]) rfl ⟨rfl, hB.trans (below3 (by omega))⟩)
    | (have hl : (t.size : Int) ≤ (200 : Int) := by have := HL.out; omega
       clear HL hsz
       go_wp2_with fail
       refine (rtxt_any _ _).mono ?_
       rintro e w1 ⟨rfl, q1⟩
       replace hS := hS.next q1
       obtain ⟨⟨r0, r1, r2⟩, t0, t1, t2⟩ := cells3 hS.res
       have hB := hS.below
       go_wp2_with fail
       exact bodyPost_ret (v := V 2 0 t) (by simp [results, Tryz.results15, go_sem, r0, r1, r2]) rfl ⟨by rw [HT.out], hB.trans (below3 (by omega))⟩)
set_option maxRecDepth 100000 in
set_option maxHeartbeats 8000000 in
theorem rtwo_1 (k n : Int) (s : ByteArray) (k' n' : Int) (s' : ByteArray) (w : World) (h4 : (k == 4) = false) (h4' : (k' == 4) = false) (hv : isVal k n s = true) (hv' : isVal k' n' s' = true) :
    Calls Tryz.prog 15 #[.int .i64 1, V k n s, V k' n' s'] w fun e w' => e = .returned (V 3 (b2n (cmpB k n s k' n' s' == 0)) nul) ∧ Below w.heap.size w w' := by
  have hS := MS.start w k n s k' n' s'
  have HV : Hid (isVal k n s = true) := hv
  have HV' : Hid (isVal k' n' s' = true) := hv'
  clear hv hv'
  obtain ⟨c, hc⟩ : ∃ c, cmpB k n s k' n' s' = c := ⟨_, rfl⟩
  have HC : Hid (cmpV (bsK k k') (bsN k n) (bsS k s) (bsK k' k) (bsN k' n') (bsS k' s') = c) := hc
  rw [hc]
  clear hc
  obtain ⟨⟨a0, a1, a2⟩, c0, c1, c2⟩ := cells3 hS.a
  obtain ⟨⟨b0, b1, b2⟩, d0, d1, d2⟩ := cells3 hS.b
  go_enter Tryz.func15, Tryz.ntmps15
  go_upto_region 17 with fail
  clear a0 a1 a2 c0 c1 c2 b0 b1 b2 d0 d1 d2
  go_cut [8] (fun s8 wx => s8 = .int .i64 c ∧ MS w k n s k' n' s' wx)
  case first =>
    have h0d := (hS.next (drew_below _)).opened
    have ⟨q0, q1, q2, q3, q4, q5, q6⟩ := hS.opened
    go_region_held3 (fun wx => MO w k n s k' n' s' wx) (first | exact h0d | exact mo_below (by assumption) (by assumption)) (first | (go_at_call 40; refine (beside_any _ _ _ _ _ _ _ (by first | exact HV.out | exact HV'.out) (by first | exact HV.out | exact HV'.out)).mono ?_; rintro e wa ⟨rfl, ha⟩) | (go_at_call 21; refine (rcompare_any _ _ _ _ _ _ _).mono ?_; rintro e wa ⟨rfl, ha⟩))
    all_goals
      go_wp2_with fail
      go_meet
      case rel => exact ⟨by rw [HC.out], mo_ms (by assumption)⟩
  case rest =>
  clear hS HV HV' HC
  obtain ⟨rfl, hS⟩ := hcut
  go_wp2_with fail
  refine (rtru_any _ _).mono ?_
  rintro e w1 ⟨rfl, q1⟩
  replace hS := hS.next q1
  obtain ⟨⟨r0, r1, r2⟩, t0, t1, t2⟩ := cells3 hS.res
  have hB := hS.below
  go_wp2_with fail
  exact bodyPost_ret (v := V 3 (b2n (c == 0)) nul) (by simp [results, Tryz.results15, go_sem, r0, r1, r2]) rfl ⟨rfl, hB.trans (below3 (by omega))⟩
set_option maxRecDepth 100000 in
set_option maxHeartbeats 8000000 in
theorem rtwo_2 (k n : Int) (s : ByteArray) (k' n' : Int) (s' : ByteArray) (w : World) (h4 : (k == 4) = false) (h4' : (k' == 4) = false) (hv : isVal k n s = true) (hv' : isVal k' n' s' = true) :
    Calls Tryz.prog 15 #[.int .i64 2, V k n s, V k' n' s'] w fun e w' => e = .returned (V 3 (b2n (cmpB k n s k' n' s' != 0)) nul) ∧ Below w.heap.size w w' := by
  have hS := MS.start w k n s k' n' s'
  have HV : Hid (isVal k n s = true) := hv
  have HV' : Hid (isVal k' n' s' = true) := hv'
  clear hv hv'
  obtain ⟨c, hc⟩ : ∃ c, cmpB k n s k' n' s' = c := ⟨_, rfl⟩
  have HC : Hid (cmpV (bsK k k') (bsN k n) (bsS k s) (bsK k' k) (bsN k' n') (bsS k' s') = c) := hc
  rw [hc]
  clear hc
  obtain ⟨⟨a0, a1, a2⟩, c0, c1, c2⟩ := cells3 hS.a
  obtain ⟨⟨b0, b1, b2⟩, d0, d1, d2⟩ := cells3 hS.b
  go_enter Tryz.func15, Tryz.ntmps15
  go_upto_region 17 with fail
  clear a0 a1 a2 c0 c1 c2 b0 b1 b2 d0 d1 d2
  go_cut [8] (fun s8 wx => s8 = .int .i64 c ∧ MS w k n s k' n' s' wx)
  case first =>
    have h0d := (hS.next (drew_below _)).opened
    have ⟨q0, q1, q2, q3, q4, q5, q6⟩ := hS.opened
    go_region_held3 (fun wx => MO w k n s k' n' s' wx) (first | exact h0d | exact mo_below (by assumption) (by assumption)) (first | (go_at_call 40; refine (beside_any _ _ _ _ _ _ _ (by first | exact HV.out | exact HV'.out) (by first | exact HV.out | exact HV'.out)).mono ?_; rintro e wa ⟨rfl, ha⟩) | (go_at_call 21; refine (rcompare_any _ _ _ _ _ _ _).mono ?_; rintro e wa ⟨rfl, ha⟩))
    all_goals
      go_wp2_with fail
      go_meet
      case rel => exact ⟨by rw [HC.out], mo_ms (by assumption)⟩
  case rest =>
  clear hS HV HV' HC
  obtain ⟨rfl, hS⟩ := hcut
  go_wp2_with fail
  refine (rtru_any _ _).mono ?_
  rintro e w1 ⟨rfl, q1⟩
  replace hS := hS.next q1
  obtain ⟨⟨r0, r1, r2⟩, t0, t1, t2⟩ := cells3 hS.res
  have hB := hS.below
  go_wp2_with fail
  exact bodyPost_ret (v := V 3 (b2n (c != 0)) nul) (by simp [results, Tryz.results15, go_sem, r0, r1, r2]) rfl ⟨rfl, hB.trans (below3 (by omega))⟩
set_option maxRecDepth 100000 in
set_option maxHeartbeats 8000000 in
theorem rtwo_3 (k n : Int) (s : ByteArray) (k' n' : Int) (s' : ByteArray) (w : World) (h4 : (k == 4) = false) (h4' : (k' == 4) = false) (hv : isVal k n s = true) (hv' : isVal k' n' s' = true) :
    Calls Tryz.prog 15 #[.int .i64 3, V k n s, V k' n' s'] w fun e w' => e = .returned (V 3 (b2n (decide (cmpB k n s k' n' s' < 0))) nul) ∧ Below w.heap.size w w' := by
  have hS := MS.start w k n s k' n' s'
  have HV : Hid (isVal k n s = true) := hv
  have HV' : Hid (isVal k' n' s' = true) := hv'
  clear hv hv'
  obtain ⟨c, hc⟩ : ∃ c, cmpB k n s k' n' s' = c := ⟨_, rfl⟩
  have HC : Hid (cmpV (bsK k k') (bsN k n) (bsS k s) (bsK k' k) (bsN k' n') (bsS k' s') = c) := hc
  rw [hc]
  clear hc
  obtain ⟨⟨a0, a1, a2⟩, c0, c1, c2⟩ := cells3 hS.a
  obtain ⟨⟨b0, b1, b2⟩, d0, d1, d2⟩ := cells3 hS.b
  go_enter Tryz.func15, Tryz.ntmps15
  go_upto_region 17 with fail
  clear a0 a1 a2 c0 c1 c2 b0 b1 b2 d0 d1 d2
  go_cut [8] (fun s8 wx => s8 = .int .i64 c ∧ MS w k n s k' n' s' wx)
  case first =>
    have h0d := (hS.next (drew_below _)).opened
    have ⟨q0, q1, q2, q3, q4, q5, q6⟩ := hS.opened
    go_region_held3 (fun wx => MO w k n s k' n' s' wx) (first | exact h0d | exact mo_below (by assumption) (by assumption)) (first | (go_at_call 40; refine (beside_any _ _ _ _ _ _ _ (by first | exact HV.out | exact HV'.out) (by first | exact HV.out | exact HV'.out)).mono ?_; rintro e wa ⟨rfl, ha⟩) | (go_at_call 21; refine (rcompare_any _ _ _ _ _ _ _).mono ?_; rintro e wa ⟨rfl, ha⟩))
    all_goals
      go_wp2_with fail
      go_meet
      case rel => exact ⟨by rw [HC.out], mo_ms (by assumption)⟩
  case rest =>
  clear hS HV HV' HC
  obtain ⟨rfl, hS⟩ := hcut
  go_wp2_with fail
  refine (rtru_any _ _).mono ?_
  rintro e w1 ⟨rfl, q1⟩
  replace hS := hS.next q1
  obtain ⟨⟨r0, r1, r2⟩, t0, t1, t2⟩ := cells3 hS.res
  have hB := hS.below
  go_wp2_with fail
  exact bodyPost_ret (v := V 3 (b2n (decide (c < 0))) nul) (by simp [results, Tryz.results15, go_sem, r0, r1, r2]) rfl ⟨rfl, hB.trans (below3 (by omega))⟩
set_option maxRecDepth 100000 in
set_option maxHeartbeats 8000000 in
theorem rtwo_4 (k n : Int) (s : ByteArray) (k' n' : Int) (s' : ByteArray) (w : World) (h4 : (k == 4) = false) (h4' : (k' == 4) = false) (hv : isVal k n s = true) (hv' : isVal k' n' s' = true) :
    Calls Tryz.prog 15 #[.int .i64 4, V k n s, V k' n' s'] w fun e w' => e = .returned (V 3 (b2n (decide (cmpB k n s k' n' s' ≤ 0))) nul) ∧ Below w.heap.size w w' := by
  have hS := MS.start w k n s k' n' s'
  have HV : Hid (isVal k n s = true) := hv
  have HV' : Hid (isVal k' n' s' = true) := hv'
  clear hv hv'
  obtain ⟨c, hc⟩ : ∃ c, cmpB k n s k' n' s' = c := ⟨_, rfl⟩
  have HC : Hid (cmpV (bsK k k') (bsN k n) (bsS k s) (bsK k' k) (bsN k' n') (bsS k' s') = c) := hc
  rw [hc]
  clear hc
  obtain ⟨⟨a0, a1, a2⟩, c0, c1, c2⟩ := cells3 hS.a
  obtain ⟨⟨b0, b1, b2⟩, d0, d1, d2⟩ := cells3 hS.b
  go_enter Tryz.func15, Tryz.ntmps15
  go_upto_region 17 with fail
  clear a0 a1 a2 c0 c1 c2 b0 b1 b2 d0 d1 d2
  go_cut [8] (fun s8 wx => s8 = .int .i64 c ∧ MS w k n s k' n' s' wx)
  case first =>
    have h0d := (hS.next (drew_below _)).opened
    have ⟨q0, q1, q2, q3, q4, q5, q6⟩ := hS.opened
    go_region_held3 (fun wx => MO w k n s k' n' s' wx) (first | exact h0d | exact mo_below (by assumption) (by assumption)) (first | (go_at_call 40; refine (beside_any _ _ _ _ _ _ _ (by first | exact HV.out | exact HV'.out) (by first | exact HV.out | exact HV'.out)).mono ?_; rintro e wa ⟨rfl, ha⟩) | (go_at_call 21; refine (rcompare_any _ _ _ _ _ _ _).mono ?_; rintro e wa ⟨rfl, ha⟩))
    all_goals
      go_wp2_with fail
      go_meet
      case rel => exact ⟨by rw [HC.out], mo_ms (by assumption)⟩
  case rest =>
  clear hS HV HV' HC
  obtain ⟨rfl, hS⟩ := hcut
  go_wp2_with fail
  refine (rtru_any _ _).mono ?_
  rintro e w1 ⟨rfl, q1⟩
  replace hS := hS.next q1
  obtain ⟨⟨r0, r1, r2⟩, t0, t1, t2⟩ := cells3 hS.res
  have hB := hS.below
  go_wp2_with fail
  exact bodyPost_ret (v := V 3 (b2n (decide (c ≤ 0))) nul) (by simp [results, Tryz.results15, go_sem, r0, r1, r2]) rfl ⟨rfl, hB.trans (below3 (by omega))⟩
set_option maxRecDepth 100000 in
set_option maxHeartbeats 8000000 in
theorem rtwo_5 (k n : Int) (s : ByteArray) (k' n' : Int) (s' : ByteArray) (w : World) (h4 : (k == 4) = false) (h4' : (k' == 4) = false) (hv : isVal k n s = true) (hv' : isVal k' n' s' = true) :
    Calls Tryz.prog 15 #[.int .i64 5, V k n s, V k' n' s'] w fun e w' => e = .returned (V 3 (b2n (decide (0 < cmpB k n s k' n' s'))) nul) ∧ Below w.heap.size w w' := by
  have hS := MS.start w k n s k' n' s'
  have HV : Hid (isVal k n s = true) := hv
  have HV' : Hid (isVal k' n' s' = true) := hv'
  clear hv hv'
  obtain ⟨c, hc⟩ : ∃ c, cmpB k n s k' n' s' = c := ⟨_, rfl⟩
  have HC : Hid (cmpV (bsK k k') (bsN k n) (bsS k s) (bsK k' k) (bsN k' n') (bsS k' s') = c) := hc
  rw [hc]
  clear hc
  obtain ⟨⟨a0, a1, a2⟩, c0, c1, c2⟩ := cells3 hS.a
  obtain ⟨⟨b0, b1, b2⟩, d0, d1, d2⟩ := cells3 hS.b
  go_enter Tryz.func15, Tryz.ntmps15
  go_upto_region 17 with fail
  clear a0 a1 a2 c0 c1 c2 b0 b1 b2 d0 d1 d2
  go_cut [8] (fun s8 wx => s8 = .int .i64 c ∧ MS w k n s k' n' s' wx)
  case first =>
    have h0d := (hS.next (drew_below _)).opened
    have ⟨q0, q1, q2, q3, q4, q5, q6⟩ := hS.opened
    go_region_held3 (fun wx => MO w k n s k' n' s' wx) (first | exact h0d | exact mo_below (by assumption) (by assumption)) (first | (go_at_call 40; refine (beside_any _ _ _ _ _ _ _ (by first | exact HV.out | exact HV'.out) (by first | exact HV.out | exact HV'.out)).mono ?_; rintro e wa ⟨rfl, ha⟩) | (go_at_call 21; refine (rcompare_any _ _ _ _ _ _ _).mono ?_; rintro e wa ⟨rfl, ha⟩))
    all_goals
      go_wp2_with fail
      go_meet
      case rel => exact ⟨by rw [HC.out], mo_ms (by assumption)⟩
  case rest =>
  clear hS HV HV' HC
  obtain ⟨rfl, hS⟩ := hcut
  go_wp2_with fail
  refine (rtru_any _ _).mono ?_
  rintro e w1 ⟨rfl, q1⟩
  replace hS := hS.next q1
  obtain ⟨⟨r0, r1, r2⟩, t0, t1, t2⟩ := cells3 hS.res
  have hB := hS.below
  go_wp2_with fail
  exact bodyPost_ret (v := V 3 (b2n (decide (0 < c))) nul) (by simp [results, Tryz.results15, go_sem, r0, r1, r2]) rfl ⟨rfl, hB.trans (below3 (by omega))⟩
set_option maxRecDepth 100000 in
set_option maxHeartbeats 8000000 in
theorem rtwo_6 (k n : Int) (s : ByteArray) (k' n' : Int) (s' : ByteArray) (w : World) (h4 : (k == 4) = false) (h4' : (k' == 4) = false) (hv : isVal k n s = true) (hv' : isVal k' n' s' = true) :
    Calls Tryz.prog 15 #[.int .i64 6, V k n s, V k' n' s'] w fun e w' => e = .returned (V 3 (b2n (decide (0 ≤ cmpB k n s k' n' s'))) nul) ∧ Below w.heap.size w w' := by
  have hS := MS.start w k n s k' n' s'
  have HV : Hid (isVal k n s = true) := hv
  have HV' : Hid (isVal k' n' s' = true) := hv'
  clear hv hv'
  obtain ⟨c, hc⟩ : ∃ c, cmpB k n s k' n' s' = c := ⟨_, rfl⟩
  have HC : Hid (cmpV (bsK k k') (bsN k n) (bsS k s) (bsK k' k) (bsN k' n') (bsS k' s') = c) := hc
  rw [hc]
  clear hc
  obtain ⟨⟨a0, a1, a2⟩, c0, c1, c2⟩ := cells3 hS.a
  obtain ⟨⟨b0, b1, b2⟩, d0, d1, d2⟩ := cells3 hS.b
  go_enter Tryz.func15, Tryz.ntmps15
  go_upto_region 17 with fail
  clear a0 a1 a2 c0 c1 c2 b0 b1 b2 d0 d1 d2
  go_cut [8] (fun s8 wx => s8 = .int .i64 c ∧ MS w k n s k' n' s' wx)
  case first =>
    have h0d := (hS.next (drew_below _)).opened
    have ⟨q0, q1, q2, q3, q4, q5, q6⟩ := hS.opened
    go_region_held3 (fun wx => MO w k n s k' n' s' wx) (first | exact h0d | exact mo_below (by assumption) (by assumption)) (first | (go_at_call 40; refine (beside_any _ _ _ _ _ _ _ (by first | exact HV.out | exact HV'.out) (by first | exact HV.out | exact HV'.out)).mono ?_; rintro e wa ⟨rfl, ha⟩) | (go_at_call 21; refine (rcompare_any _ _ _ _ _ _ _).mono ?_; rintro e wa ⟨rfl, ha⟩))
    all_goals
      go_wp2_with fail
      go_meet
      case rel => exact ⟨by rw [HC.out], mo_ms (by assumption)⟩
  case rest =>
  clear hS HV HV' HC
  obtain ⟨rfl, hS⟩ := hcut
  go_wp2_with fail
  refine (rtru_any _ _).mono ?_
  rintro e w1 ⟨rfl, q1⟩
  replace hS := hS.next q1
  obtain ⟨⟨r0, r1, r2⟩, t0, t1, t2⟩ := cells3 hS.res
  have hB := hS.below
  go_wp2_with fail
  exact bodyPost_ret (v := V 3 (b2n (decide (0 ≤ c))) nul) (by simp [results, Tryz.results15, go_sem, r0, r1, r2]) rfl ⟨rfl, hB.trans (below3 (by omega))⟩
end Go.Proofs.YtgoadofnfaidcaaGreatDoor
