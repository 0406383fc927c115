/- The cells of a box, as the program makes them. Conditions: it is a box. -/
import Derived.Test.YtmaiabkggpifgaaDoorAcells
namespace Go.Proofs.YtmaiabkggpifgaaDoor.adr
open Go.RowKit
set_option maxRecDepth 100000 in
set_option maxHeartbeats 2000000 in
theorem pcells_no (a b c d : Int) (w : World) (h : bxB a b c d = false) :
    Calls Tryd.prog 21 #[X a b c d] w fun e w' => e = .returned (.tuple #[.slice none 0 0, .iface 59 (.int .i64 1)]) ∧ Below w.heap.size w w' := by
  have HH : Hid (bxB a b c d = false) := h
  clear h
  have hS := XS.start w a b c d
  go_enter Tryd.func21, Tryd.ntmps21
  go_wp2_with fail
  refine (isBox_any _ _ _ _ _).mono ?_
  rintro e w1 ⟨rfl, q1⟩
  rw [HH.out]
  have hB := (hS.next q1).below
  go_wp2_with fail
  go_ret2
  exact ⟨rfl, hB⟩
theorem bx_yes {a b : Int} {wd ht : Nat} (a1 : 1 ≤ a) (b1 : 1 ≤ b) (c1 : a + wd ≤ 27) (d1 : b + ht ≤ 100) (w1 : 1 ≤ wd) (h1 : 1 ≤ ht) : bxB a b (a + wd - 1) (b + ht - 1) = true := by
  unfold bxB
  rw [isC_iff.2 ⟨by omega, by omega⟩, isC_iff.2 ⟨by omega, by omega⟩, decide_eq_true (by omega), decide_eq_true (by omega)]
  rfl
set_option maxRecDepth 100000 in
set_option maxHeartbeats 8000000 in
theorem pcells_yes (a b : Int) (wd ht : Nat) (w : World) (a1 : 1 ≤ a) (b1 : 1 ≤ b) (c1 : a + wd ≤ 27) (d1 : b + ht ≤ 100) (g1 : 1 ≤ wd) (g2 : 1 ≤ ht) :
    Calls Tryd.prog 21 #[X a b (a + wd - 1) (b + ht - 1)] w fun e w' => (∃ v, e = .returned (.tuple #[v, .nilIface]) ∧ w'.ownsRow w.heap.size 23 2 v (ht * wd) (boxL a b wd ht)) ∧ Below w.heap.size w w' := by
  have hS := XS.start w a b (a + wd - 1) (b + ht - 1)
  obtain ⟨i0, hi, hz0, hz1, hz2⟩ := info_split info23
  have HH : Hid (bxB a b (a + wd - 1) (b + ht - 1) = true) := bx_yes a1 b1 c1 d1 g1 g2
  go_enter Tryd.func21, Tryd.ntmps21
  go_upto_region 1 with fail
  go_cut [9] (fun s9 wx => s9 = .bool false ∧ XS w a b (a + wd - 1) (b + ht - 1) wx)
  case first =>
    go_wp2_with fail
    refine (isBox_any _ _ _ _ _).mono ?_
    rintro e w1 ⟨rfl, q1⟩
    rw [HH.out]
    go_wp2_with fail
    go_meet
    case rel => exact ⟨rfl, hS.next q1⟩
  case rest =>
  clear hS
  obtain ⟨rfl, hS⟩ := hcut
  have HS : Hid (XS w a b (a + wd - 1) (b + ht - 1) wc) := hS
  have hsz0 : w.heap.size < wc.heap.size := lt_of_block hS.own
  obtain ⟨⟨o0, o1, o2, o3⟩, p0, p1, p2, p3⟩ := cells_four hS.own
  have hmul : (a + wd - 1 - a + 1) * (b + ht - 1 - b + 1) = ((wd * ht : Nat) : Int) := by
    rw [show a + (wd : Int) - 1 - a + 1 = wd from by omega, show b + (ht : Int) - 1 - b + 1 = ht from by omega]
    rfl
  have hwh : wd * ht ≤ 2600 := by
    have h1 : wd * ht ≤ 26 * 99 := Nat.mul_le_mul (by omega) (by omega)
    omega
  generalize hw0 : wc = w0 at *
  go_upto_region 3 with fail
  go_wp2_with (first | (at_make; (refine wpList_make_own _ rfl _ _ 48 rfl (w.heap.size + 1) 23 i0 (C 0 0) 2 Tryd.underlying48 hi hz0 hz1 .i64 .i64 _ (wd * ht) rfl rfl ?m0 ?m1 ?m2 ?m3 ?_)))
  case m0 => simp
  case m1 => rw [hz2]; omega
  case m2 => unfold maxLen; omega
  case m3 => omega
  intro w5 hown hg
  have hBm : Below (w.heap.size + 1) w0 w5 := (Below.refl _ _).grown hg (by omega) (fun k hk => by cases hk)
  have e0 := hBm.cell (p := ⟨w.heap.size, 0, none⟩) (by simp)
  have e1 := hBm.cell (p := ⟨w.heap.size, 1, none⟩) (by simp)
  rw [o0] at e0
  rw [o1] at e1
  go_wp2_with fail
  clear e0 e1
  go_loopw [4, 5] (fun vl vr wr => ∃ m : Nat, m ≤ ht ∧ vr = .int .i64 (b + m) ∧ wr.ownsRow (w.heap.size + 1) 23 2 vl (m * wd) (boxL a b wd m) ∧ Below (w.heap.size + 1) w0 wr) (fun _ vr _ => (b + ht - intOf vr).toNat)
  case atStart => exact ⟨0, Nat.zero_le _, by simp, by simpa [boxL] using hown, hBm⟩
  case round =>
    clear hown hBm
    obtain ⟨m, hm, rfl, hown, hB⟩ := hrel
    have hS := HS.out
    have e0 := hB.cell (p := ⟨w.heap.size, 0, none⟩) (by simp)
    have e1 := hB.cell (p := ⟨w.heap.size, 1, none⟩) (by simp)
    have e2 := hB.cell (p := ⟨w.heap.size, 2, none⟩) (by simp)
    have e3 := hB.cell (p := ⟨w.heap.size, 3, none⟩) (by simp)
    rw [o0] at e0
    rw [o1] at e1
    rw [o2] at e2
    rw [o3] at e3
    have hbs := hB.size
    by_cases hlt : m < ht
    · have hdm : decide (b + (m : Int) ≤ b + (ht : Int) - 1) = true := by simp; omega
      go_wp2_with fail
      go_loopw [4, 6] (fun vl vc wq => ∃ k : Nat, k ≤ wd ∧ vc = .int .i64 (a + k) ∧ wq.ownsRow (w.heap.size + 1) 23 2 vl (m * wd + k) (boxL a b wd m ++ rowL (b + m) a k) ∧ Below (w.heap.size + 1) w0 wq) (fun _ vc _ => (a + wd - intOf vc).toNat)
      case atStart => exact ⟨0, Nat.zero_le _, by simp, by simpa [rowL] using hown, hB⟩
      case round =>
        clear hown hB e0 e1 e2 e3 hbs
        obtain ⟨k, hk, rfl, hown, hB⟩ := hrel
        have e0 := hB.cell (p := ⟨w.heap.size, 0, none⟩) (by simp)
        have e1 := hB.cell (p := ⟨w.heap.size, 1, none⟩) (by simp)
        have e2 := hB.cell (p := ⟨w.heap.size, 2, none⟩) (by simp)
        have e3 := hB.cell (p := ⟨w.heap.size, 3, none⟩) (by simp)
        rw [o0] at e0
        rw [o1] at e1
        rw [o2] at e2
        rw [o3] at e3
        have hbs := hB.size
        have hmw : m * wd + k ≤ 2600 := by
          have h1 : m * wd ≤ 99 * 26 := Nat.mul_le_mul (by omega) (by omega)
          omega
        by_cases hkl : k < wd
        · have hcap : (m * wd + k + 1) * 16 ≤ 140737488355328 := by omega
          go_wp2_with (first | (at_builtin; refine wpList_append_own _ rfl _ _ 48 rfl (w.heap.size + 1) 23 i0 (C 0 0) 2 16 Tryd.underlying48 hi hz0 hz1 hz2 rfl (by decide) _ _ _ rfl (hown.alloc _) ⟨wr.heap.size, 0, none⟩ 1 1 [.int .i64 (a + k), .int .i64 (b + m)] rfl rfl ?c1 ?c2 ?c3 ?c4 ?c5 ?_))
          case c1 =>
            intro j u hj
            match j, hj with
            | 0, hj => simp at hj; subst hj; simp [Addr.add]
            | 1, hj => simp at hj; subst hj; simp [Addr.add]
          case c2 =>
            intro u hu
            simp at hu
            rcases hu with rfl | rfl <;> rfl
          case c3 => unfold maxLen; omega
          case c4 => omega
          case c5 => simp; omega
          · intro v' w3 hown' hgrow _
            go_wp2_with fail
            have hb3 : Below (w.heap.size + 1) w0 w3 := (hB.alloc (by omega) _).grown hgrow (by simp; omega) (fun q hq => (hown.lt q hq).1)
            exact ⟨⟨k + 1, by omega, by congr 1; omega, hown', hb3⟩, by simp [intOf]; omega⟩
        · have hkw : k = wd := by omega
          subst hkw
          go_wp2_with fail
          exact ⟨⟨m + 1, by omega, by congr 1; omega, by rw [Nat.succ_mul]; exact hown, hB⟩, by simp [intOf]; omega⟩
    · have hmt : m = ht := by omega
      subst hmt
      go_wp2_with fail
      go_ret2
      exact ⟨⟨_, rfl, own_mono hown (by omega)⟩, HS.out.below.trans (hB.mono (by omega))⟩
end Go.Proofs.YtmaiabkggpifgaaDoor.adr
