
/- The law FormatWides, whole, by what Wide, Column and Number answer. Conditions: as each theorem says. -/
import Derived.Test.YtnelglmbckgbgaaFwh
import Derived.BigQuiet
namespace Go.Proofs.Ytnelglmbckgbgaa.fw
open Go.RowKit Go.Sort
theorem ext_txt (b : ByteArray) (i j : Nat) : b.extract i j = txt ((b.toList.take j).drop i) := by
  apply ByteArray.ext
  rw [ByteArray.data_extract, ByteArray.toList_eq]
  apply Array.toList_inj.1
  rw [Array.toList_extract]
  simp [txt, List.drop_take]
theorem txt_toList (b : ByteArray) : txt b.toList = b := by
  apply ByteArray.ext
  rw [ByteArray.toList_eq]
  simp [txt]
theorem wide_head (s : ByteArray) (wd : Nat) : (txt (wideL s.toList wd 0)).extract 0 (min s.size wd) = s.extract 0 (min s.size wd) := by
  rw [ext_txt, ext_txt, txt_list, List.drop_zero, List.drop_zero, ← size_list s, wideL_head]
theorem wide_tail (s : ByteArray) (wd : Nat) (h : s.size ≤ wd) : (txt (wideL s.toList wd 2)).extract (wd - s.size) wd = s := by
  rw [ext_txt, txt_list, List.take_of_length_le (by rw [wideL_len]; exact Nat.le_refl _), ← size_list s, wideL_tail _ _ (by rw [size_list]; exact h), txt_toList]
theorem drewN_bw (w : World) (m : Nat) : Bw w (w.drewN m) := ⟨rfl, rfl, rfl, Nat.le_refl _, fun _ _ => rfl⟩
theorem co_28 : coE 28 = 0 ∧ coT 28 = ⟨#[65, 66]⟩ := by
  have h : coB 28 = true := by decide
  unfold coE coT
  rw [h, show Int.toNat 28 = 28 from rfl, letL_28]
  exact ⟨rfl, rfl⟩
set_option maxRecDepth 1000000 in
set_option maxHeartbeats 8000000 in
/-- FormatWides, by what Wide, Column and Number answer. -/
theorem formatWides_any (s : ByteArray) (wide side a b : Int) (w0 : World) (hs : s.size ≤ 140737488351232) (HN : Hid (∀ (t : ByteArray) wx, t.size ≤ 140737488351232 → Bw w0 wx → Calls Try.prog 6 #[.string t] wx fun r w' => r = .returned (.tuple #[.int .i64 (nmN t.toList), errV (nmE t.toList)]) ∧ Bw wx w')) (HC : Hid (∀ c wx, Bw w0 wx → Calls Try.prog 4 #[.int .i64 c] wx fun r w' => r = .returned (.tuple #[.string (coT c), errV (coE c)]) ∧ Bw wx w')) (HW : Hid (∀ wx, Bw w0 wx → Calls Try.prog 5 #[.string s, .int .i64 wide, .int .i64 side] wx fun r w' => r = .returned (.tuple #[.string (wiT s wide side), errV (wiE wide side)]) ∧ Bw wx w')) :
    Calls Try.prog 3 #[.string s, .int .i64 wide, .int .i64 side, .int .i64 a, .int .i64 b] w0 fun e w' => e = .returned (.bool true) ∧ Bw w0 w' := by
  have c0 := HC.out 28 w0 (Below.refl _ _)
  rw [co_28.1, co_28.2, errV_zero] at c0
  go_enter Try.func3, Try.ntmps3
  let BPX := bodyPost Try.prog Try.f3 (fun _ _ => True)
  go_upto_region 2 with fail
  refine c0.mono ?_
  clear c0
  rintro r w1 ⟨rfl, hb1⟩
  have HB1 : Hid (Bw w0 w1) := hb1
  have c1 := HW.out w1 hb1
  clear hb1 HW
  go_upto_region 2 with fail
  go_upto_region 4 with fail
  cases hw : wiB wide side with
  | false =>
    have e1 : wiE wide side = 1 ∧ wiT s wide side = ⟨#[]⟩ := by unfold wiE wiT; rw [hw]; exact ⟨rfl, rfl⟩
    rw [e1.1, e1.2, errV_one] at c1
    clear e1 hw
    go_upto_region 5 with fail
    refine c1.mono ?_
    clear c1
    rintro r w2 ⟨rfl, hb2⟩
    have HB2 : Hid (Bw w0 w2) := HB1.out.tr hb2
    clear hb2 HB1
    go_upto_region 5 with fail
    go_cut [41] (fun sx wx => sx = .bool false ∧ wx = w2)
    case first =>
      go_wp2_with fail
      go_meet
      case rel => exact ⟨by simp, rfl⟩
    case rest =>
    obtain ⟨rfl, rfl⟩ := hcut
    apply_assumption
    refine wp_cond_false (by simp [Act.eval]) ?_
    refine wp_skip ?_
    apply_assumption
    exact xtail13 a b w0 wc HB2 HN HC _ _ _ _ _ _ _ _ _ _ _ _ _ _ _ _ _ _ _ _ _ _ _ _ _ _ _ _ _ _ _ _ _ _ _ _ _ _ _ _ _ _ _ _ _ _ _ _ _ _ _ _ _ _ _ _ _ _ _ _ _ _ _ _ _ _ _ _ _ _ _ _ _ _ _ _ _ _ _ _ _ _ _ _ _ _ _ _ _ _ _ _ _ _ _ _ _ _ _ _ _ _ _ _ _ _ _ _ _ _ _ _ _ _ _ _ _ _ _ _ _ _ _ _ _ _ _ _ _ _
  | true =>
    have e1 : wiE wide side = 0 ∧ wiT s wide side = txt (wideL s.toList wide.toNat side) := by unfold wiE wiT; rw [hw]; exact ⟨rfl, rfl⟩
    rw [e1.1, e1.2, errV_zero] at c1
    unfold wiB at hw
    simp at hw
    obtain ⟨wd, rfl⟩ : ∃ wd : Nat, wide = (wd : Int) := ⟨wide.toNat, by omega⟩
    rw [show Int.toNat (wd : Int) = wd from rfl] at c1
    obtain ⟨x, hx⟩ : ∃ x, txt (wideL s.toList wd side) = x := ⟨_, rfl⟩
    have HX : Hid (txt (wideL s.toList wd side) = x) := hx
    rw [hx] at c1
    have hxs : x.size = wd := by rw [← hx, txt_size, wideL_len]
    have hxs' : (x.size : Int) = (wd : Int) := by omega
    clear e1 hx
    go_upto_region 5 with fail
    refine c1.mono ?_
    clear c1
    rintro r w2 ⟨rfl, hb2⟩
    have HB2 : Hid (Bw w0 w2) := HB1.out.tr hb2
    clear hb2 HB1
    go_upto_region 5 with fail
    go_cut [41] (fun sx wx => sx = .bool true ∧ wx = w2)
    case first =>
      go_wp2_with fail
      go_meet
      case rel => exact ⟨by simp, rfl⟩
    case rest =>
    obtain ⟨rfl, rfl⟩ := hcut
    apply_assumption
    go_cut [] (fun wx => Hid (Bw w0 wx))
    case first =>
      generalize wc = wo at *
      clear HN HC
      have hw2 : side = 0 ∨ side = 2 ∨ side = 1 := by omega
      by_cases hn : s.size > wd
      · have hn' : (s.size : Int) > (wd : Int) := by omega
        have hn3 : ¬ s.size ≤ wd := by omega
        have hn2 : decide (s.size ≤ wd) = false := by simp; omega
        have hlo : (0 : Int) ≤ (wd : Int) := by omega
        have hxb : wd ≤ x.size := by omega
        have hsb : wd ≤ s.size := by omega
        rcases hw2 with rfl | rfl | rfl
        · have hq : x.extract 0 wd = s.extract 0 wd := by
            have := wide_head s wd
            rw [HX.out, Nat.min_eq_right (by omega)] at this
            exact this
          go_upto_region 11 with fail
          go_quiet (fail)
          go_wp2_with fail
          go_meet
          case rel => exact HB2.out.tr (drewN_bw _ _)
        · go_upto_region 11 with fail
          go_quiet (fail)
          go_wp2_with fail
          go_meet
          case rel => exact HB2.out.tr (drewN_bw _ _)
        · go_upto_region 11 with fail
          go_quiet (fail)
          go_wp2_with fail
          go_meet
          case rel => exact HB2.out.tr (drewN_bw _ _)
      · have hn' : ¬ (s.size : Int) > (wd : Int) := by omega
        have hn3 : s.size ≤ wd := by omega
        have hn2 : decide (s.size ≤ wd) = true := by simp; omega
        have hlo : (0 : Int) ≤ (s.size : Int) := by omega
        have hxb : s.size ≤ x.size := by omega
        have hwr : wrap64 ((wd : Int) - (s.size : Int)) = ((wd - s.size : Nat) : Int) := by unfold wrap64; omega
        rcases hw2 with rfl | rfl | rfl
        · have hq : x.extract 0 s.size = s.extract 0 s.size := by
            have := wide_head s wd
            rw [HX.out, Nat.min_eq_left (by omega)] at this
            exact this
          go_upto_region 11 with fail
          go_quiet (fail)
          go_wp2_with fail
          go_meet
          case rel => exact HB2.out.tr (drewN_bw _ _)
        · have hq2 : x.extract (wd - s.size) wd = s := by
            have := wide_tail s wd (by omega)
            rw [HX.out] at this
            exact this
          have hq : x.extract (wd - s.size) x.size = s := by rw [hxs]; exact hq2
          have hlo2 : (0 : Int) ≤ ((wd - s.size : Nat) : Int) := by omega
          have hlo3 : wd - s.size ≤ x.size := by omega
          go_upto_region 11 with fail
          go_quiet (fail)
          go_wp2_with fail
          go_meet
          case rel => exact HB2.out.tr (drewN_bw _ _)
        · go_upto_region 11 with fail
          go_quiet (fail)
          go_wp2_with fail
          go_meet
          case rel => exact HB2.out.tr (drewN_bw _ _)
    case rest =>
    have HB3 := hcut
    apply_assumption
    exact xtail13 a b w0 _ HB3 HN HC _ _ _ _ _ _ _ _ _ _ _ _ _ _ _ _ _ _ _ _ _ _ _ _ _ _ _ _ _ _ _ _ _ _ _ _ _ _ _ _ _ _ _ _ _ _ _ _ _ _ _ _ _ _ _ _ _ _ _ _ _ _ _ _ _ _ _ _ _ _ _ _ _ _ _ _ _ _ _ _ _ _ _ _ _ _ _ _ _ _ _ _ _ _ _ _ _ _ _ _ _ _ _ _ _ _ _ _ _ _ _ _ _ _ _ _ _ _ _ _ _ _ _ _ _ _ _ _ _ _
end Go.Proofs.Ytnelglmbckgbgaa.fw
