
/- The law FormatSigns, whole, by what Show and Read answer. Conditions: as each theorem says. -/
import Derived.Test.YtnelglmbckgbgaaDoorFyb
import Derived.Test.YtnelglmbckgbgaaDoorFxe
namespace Go.Proofs.YtnelglmbckgbgaaDoor.fw
open Go.RowKit Go.Sort
theorem rnum_bw (n : Int) (w : World) : Calls Tryd.prog 12 #[.int .i64 n] w fun e w' => e = .returned (VV 1 n ⟨#[]⟩) ∧ Bw w w' := (rnum_gr n w).mono fun e w' ⟨h, m, os, h2⟩ => ⟨h, by rw [h2]; exact grow_bw _ _ _⟩
theorem rep_snoc2 (l : List UInt8) (n : Nat) : txt (l ++ List.replicate n 48) ++ ⟨#[48]⟩ = txt (l ++ List.replicate (n + 1) 48) := by
  rw [List.replicate_succ', ← List.append_assoc]
  exact txt_app _ [48]
theorem show_sz (c : Bool) (z : Nat) (n : Int) (hz : z ≤ 20) (h0 : -9223372036854775808 ≤ n) (h1 : n ≤ 9223372036854775807) : (showL (sgK c z) n).length ≤ 200 ∧ (padL (sgK c z) n).length ≤ 100 := by
  have e : (sgK c z).digits = z := rfl
  have e2 : (sgK c z).places = 0 := rfl
  have h3 := dec_len n h0 h1
  have h4 := padL_len (sgK c z) n
  have h5 := cs_len true (padL (sgK c z) n)
  refine ⟨?_, by omega⟩
  rw [show_sg, List.length_append]
  have h6 : (sgL n).length ≤ 1 := by unfold sgL; split <;> simp
  unfold csB
  split <;> omega
set_option maxRecDepth 1000000 in
set_option maxHeartbeats 8000000 in
theorem formatSigns_any (n zeros : Int) (c : Bool) (w0 : World) (h0 : -9223372036854775808 ≤ n) (h1 : n ≤ 9223372036854775807)
    (HSH : Hid (∀ m u s wx, -9223372036854775808 ≤ m → m ≤ 9223372036854775807 → Bw w0 wx → Calls Tryd.prog 11 #[VV 1 m u, .string s] wx fun e w' => e = .returned (snV (rcL s.toList) m) ∧ Bw wx w'))
    (HRD : Hid (∀ m wx, -9223372036854775808 ≤ m → m ≤ 9223372036854775807 → Bw w0 wx → Calls Tryd.prog 13 #[.string (txt (Lib.itoa m))] wx fun e w' => e = .returned (VV 1 m ⟨#[]⟩) ∧ Bw wx w')) :
    Calls Tryd.prog 4 #[.int .i64 n, .int .i64 zeros, .bool c] w0 fun e w' => e = .returned (.bool true) ∧ Bw w0 w' := by
  have f0 : ∀ wx, Bw w0 wx → Calls Tryd.prog 11 #[VV 1 (-1234567) ⟨#[]⟩, .string ⟨#[34, 36, 34, 35, 44, 48, 46, 48, 48]⟩] wx fun e w' => e = .returned (.tuple #[.string ⟨#[45, 36, 49, 50, 44, 51, 52, 53, 46, 54, 55]⟩, .nilIface]) ∧ Bw wx w' := fun wx hb => by
    have h := HSH.out (-1234567) ⟨#[]⟩ ⟨#[34, 36, 34, 35, 44, 48, 46, 48, 48]⟩ wx (by omega) (by omega) hb
    have e1 : (⟨#[34, 36, 34, 35, 44, 48, 46, 48, 48]⟩ : ByteArray).toList = [34, 36, 34, 35, 44, 48, 46, 48, 48] := by rw [ByteArray.toList_eq]
    rw [e1, sg_fact.1] at h
    have e2 : snV (some ⟨[36], true, 1, 2, []⟩) (-1234567) = .tuple #[.string ⟨#[45, 36, 49, 50, 44, 51, 52, 53, 46, 54, 55]⟩, .nilIface] := by
      show Value.tuple #[.string (txt (showL ⟨[36], true, 1, 2, []⟩ (-1234567))), .nilIface] = _
      rw [sg_fact.2]
      rfl
    rw [e2] at h
    exact h
  have rn := rnum_bw (-1234567) w0
  have hfl : ((⟨#[45, 36, 49, 50, 44, 51, 52, 53, 46, 54, 55]⟩ : ByteArray).toList == [45, 36, 49, 50, 44, 51, 52, 53, 46, 54, 55]) = true := by rw [ByteArray.toList_eq]; rfl
  go_enter Tryd.func4, Tryd.ntmps4
  let BPX := bodyPost Tryd.prog Tryd.f4 (fun _ _ => True)
  go_wp2_with fail
  refine rn.mono ?_
  rintro e w1 ⟨rfl, hb1⟩
  have HB1 : Hid (Bw w0 w1) := hb1
  have hf := f0 w1 hb1
  clear rn hb1 f0
  go_wp2_with fail
  refine hf.mono ?_
  rintro e w2 ⟨rfl, hb2⟩
  have HB2 : Hid (Bw w0 w2) := HB1.out.tr hb2
  clear hb2 hf HB1
  go_upto_region 5 with fail
  go_cut [30] (fun s30 wx => s30 = .bool c ∧ wx = w2)
  case first =>
    go_wp2_with fail
    go_meet
    case rel => exact ⟨by simp, rfl⟩
  case rest =>
  obtain ⟨rfl, rfl⟩ := hcut
  apply_assumption
  obtain ⟨pre, hpre⟩ : ∃ pre : List UInt8, (if c = true then [35, 44] else []) = pre := ⟨_, rfl⟩
  have hpl : pre.length ≤ 2 := by rw [← hpre]; split <;> simp
  have HPR : Hid ((if c = true then [35, 44] else []) = pre) := hpre
  clear hpre
  go_cut [9] (fun s9 wx => s9 = .string (txt pre) ∧ wx = wc)
  case first =>
    cases c with
    | true =>
      have hp2 : txt pre = ⟨#[35, 44]⟩ := by rw [← HPR.out]; rfl
      go_wp2_with fail
      go_meet
      case rel => exact ⟨by rw [hp2], rfl⟩
    | false =>
      have hp2 : txt pre = ⟨#[]⟩ := by rw [← HPR.out]; rfl
      go_wp2_with fail
      go_meet
      case rel => exact ⟨by rw [hp2], rfl⟩
  case rest =>
  obtain ⟨rfl, rfl⟩ := hcut
  apply_assumption
  clear hfl
  generalize wc = w3 at *
  by_cases hz1 : zeros < 1
  · go_wp2_with fail
    go_ret
    exact ⟨rfl, HB2.out⟩
  by_cases hz2 : zeros > 20
  · go_wp2_with fail
    go_ret
    exact ⟨rfl, HB2.out⟩
  obtain ⟨z, rfl⟩ : ∃ z : Nat, zeros = (z : Int) := ⟨zeros.toNat, by omega⟩
  have hz3 : 1 ≤ z := by omega
  have hz4 : z ≤ 20 := by omega
  have HPRE : Hid (sgC c z = pre ++ List.replicate z 48) := by show _ = _; unfold sgC; rw [HPR.out]
  go_upto_block 0 with fail
  go_cut [9] (fun s9 wx => s9 = .string (txt (pre ++ List.replicate z 48)) ∧ wx = w3)
  case first =>
    go_wp2_with fail
    go_loopw [9, 10] (fun s9 s10 wr => ∃ j : Nat, s10 = .int .i64 (j : Int) ∧ j ≤ z ∧ s9 = .string (txt (pre ++ List.replicate j 48)) ∧ wr = w3) (fun _ s10 _ => z - (intOf s10).toNat)
    case atStart => exact ⟨0, rfl, Nat.zero_le _, by simp, rfl⟩
    case round =>
      obtain ⟨j, rfl, hj, rfl, rfl⟩ := hrel
      by_cases hlt : j < z
      · have hlt' : (j : Int) < (z : Int) := by omega
        have hsz : ¬ 9223372036854775807 < (txt (pre ++ List.replicate j (48 : UInt8))).size + 1 := by rw [txt_len]; simp; omega
        have hnx := rep_snoc2 pre j
        have HNX : Hid (txt (pre ++ List.replicate j 48) ++ ⟨#[48]⟩ = txt (pre ++ List.replicate (j + 1) 48)) := hnx
        clear hnx
        generalize txt (pre ++ List.replicate j (48 : UInt8)) = cj at *
        go_wp2_with fail
        exact ⟨⟨j + 1, rfl, hlt, by rw [HNX.out], trivial⟩, by simp [intOf]; omega⟩
      · have hlt' : ¬ (j : Int) < (z : Int) := by omega
        have hjz : j = z := by omega
        subst hjz
        go_wp2_with fail
        go_meet
        case rel => exact ⟨rfl, rfl⟩
  case rest =>
  obtain ⟨rfl, rfl⟩ := hcut
  apply_assumption
  generalize wc = w4 at *
  have hsh := fun wx => HSH.out n ⟨#[]⟩ (txt (pre ++ List.replicate z 48)) wx h0 h1
  have e1 : (txt (pre ++ List.replicate z (48 : UInt8))).toList = sgC c z := by rw [ByteArray.toList_eq, txt_data]; exact HPRE.out.symm
  rw [e1, rc_sgC c z hz3 hz4] at hsh
  have hsh2 : ∀ wx, Bw w0 wx → Calls Tryd.prog 11 #[VV 1 n ⟨#[]⟩, .string (txt (pre ++ List.replicate z 48))] wx fun e w' => e = .returned (.tuple #[.string (txt (showL (sgK c z) n)), .nilIface]) ∧ Bw wx w' := hsh
  clear hsh e1 HSH
  have hLR := lr_start c z n
  have hss := show_sz c z n hz4 h0 h1
  have hpz := pad_z c z n
  have hS : (txt (showL (sgK c z) n)).toList = showL (sgK c z) n := by rw [ByteArray.toList_eq, txt_data]
  have hS2 : (txt (showL (sgK c z) n)).size ≤ 200 := hss.1
  have HNEG : Hid (n < 0 → 0 < (txt (showL (sgK c z) n)).size ∧ (txt (showL (sgK c z) n)).toList[0]? = some 45) := fun hn => by
    rw [hS]
    have e : showL (sgK c z) n = 45 :: csB c true (padL (sgK c z) n) := by rw [show_sg]; unfold sgL; rw [if_pos hn]; rfl
    rw [txt_len, e]
    exact ⟨by simp, rfl⟩
  have hsgl : (sgL n).length ≤ (txt (showL (sgK c z) n)).size := by rw [txt_len, show_sg]; simp
  rw [← hS] at hLR
  obtain ⟨pl, hpl2⟩ : ∃ pl, (padL (sgK c z) n).length = pl := ⟨_, rfl⟩
  rw [hpl2] at hLR hss hpz
  have hpl3 := hss.2
  clear hpl2 hss hS
  have HLR : Hid (LR c pl (Lib.itoa n) (sgL n) (Lib.decDigits n.natAbs) (txt (showL (sgK c z) n)).toList (sgL n).length 0 false (sgL n)) := hLR
  clear hLR
  generalize txt (showL (sgK c z) n) = S at *
  generalize txt (pre ++ List.replicate z 48) = CD at *
  have rn := rnum_bw n w4
  go_wp2_with fail
  refine rn.mono ?_
  rintro e w5 ⟨rfl, hb5⟩
  have HB5 : Hid (Bw w0 w5) := HB2.out.tr hb5
  have hf := hsh2 w5 HB5.out
  clear rn hb5 hsh2 HB2
  go_wp2_with fail
  refine hf.mono ?_
  rintro e w6 ⟨rfl, hb6⟩
  have HB6 : Hid (Bw w0 w6) := HB5.out.tr hb6
  clear hb6 hf HB5
  go_upto_region 19 with fail
  go_cut [54] (fun s54 wx => s54 = .bool (decide (n < 0)) ∧ wx = w6)
  case first =>
    by_cases hn : n < 0
    · go_wp2_with fail
      go_meet
      case rel => exact ⟨by simp [hn], rfl⟩
    · go_wp2_with fail
      go_meet
      case rel => exact ⟨by simp; omega, rfl⟩
  case rest =>
  obtain ⟨rfl, rfl⟩ := hcut
  apply_assumption
  go_cut [13, 15] (fun s13 s15 wx => s15 = .int .i64 ((sgL n).length : Int) ∧ Hid (BV w0 s13 (sgL n) wx))
  case first =>
    by_cases hn : n < 0
    · rw [decide_eq_true hn]
      obtain ⟨hp0, hp1⟩ := HNEG.out hn
      have hsg : sgL n = [45] := by unfold sgL; rw [if_pos hn]
      have hx : S[0] = 45 := by
        have := at_list hp0
        rw [hp1] at this
        exact (Option.some.inj this).symm
      have hx2 : ((S[0].toNat : Int) == 45) = true := by rw [hx]; rfl
      have hemp : S.toList.isEmpty = false := by
        cases hl : S.toList with
        | nil => rw [hl] at hp1; cases hp1
        | cons => rfl
      obtain ⟨g2, c2, w7, hr, hV7⟩ := (BV.nil w0 |>.next HB6.out).one (by simp) 45
      have HV7 : Hid (BV w0 (.slice (some ⟨g2, 0, none⟩) 1 c2) (sgL n) w7) := by show BV _ _ _ _; rw [hsg]; exact hV7
      have HRR : Hid ((Builtin.append_ #[37, 37] 37 #[.slice none 0 0, .slice (some ⟨wc.heap.size, 0, none⟩) 1 1]).run Tryd.prog (wc.alloc (.cells #[.int .u8 45] 5)) = .ok (.slice (some ⟨g2, 0, none⟩) 1 c2) w7) := hr
      have HLEN : Hid ((sgL n).length = 1) := by show _ = _; rw [hsg]; rfl
      clear hr hV7 hp1 hsg hx
      go_wp2_with (first | (at_builtin; refine wpList_append_eq rfl _ _ 37 37 rfl _ _ _ _ rfl rfl HRR.out ?_))
      go_meet
      case rel => exact ⟨by rw [HLEN.out]; rfl, HV7⟩
    · rw [decide_eq_false hn]
      have hsg : sgL n = [] := by unfold sgL; rw [if_neg hn]
      have HV7 : Hid (BV w0 (.slice none 0 0) (sgL n) wc) := by show BV _ _ _ _; rw [hsg]; exact (BV.nil w0).next HB6.out
      have HLEN : Hid ((sgL n).length = 0) := by show _ = _; rw [hsg]; rfl
      clear hsg
      go_wp2_with fail
      go_meet
      case rel => exact ⟨by rw [HLEN.out]; rfl, HV7⟩
  case rest =>
  obtain ⟨rfl, HV7⟩ := hcut
  apply_assumption
  exact stail24 n z (sgL n).length pl c S (Lib.itoa n) (sgL n) (Lib.decDigits n.natAbs) (sgL n) _ w0 _ hS2 hsgl hpz hpl3 (by rw [itoa_is]; intro e; have := dec_pos n.natAbs; have h2 := congrArg List.length e; simp at h2; rw [h2.2] at this; simp at this) (by rw [itoa_is, List.length_append]; have := dec_len n h0 h1; have h6 : (sgL n).length ≤ 1 := by { unfold sgL; split <;> simp }; omega) HLR HV7 (fun wx hb => HRD.out n wx h0 h1 hb) _ _ _ _ _ _ _ _ _ _ _ _ _ _ _ _ _ _ _ _ _ _ _ _ _ _ _ _ _ _ _ _ _ _ _ _ _ _ _ _ _ _ _ _ _ _ _ _ _ _ _ _ _ _ _ _ _ _ _ _ _ _ _ _ _ _ _ _ _ _ _ _ _ _ _ _ _ _ _ _ _ _ _ _ _ _ _ _ _ _ _ _ _ _ _ _ _ _ _ _ _ _ _ _ _ _ _
end Go.Proofs.YtnelglmbckgbgaaDoor.fw
