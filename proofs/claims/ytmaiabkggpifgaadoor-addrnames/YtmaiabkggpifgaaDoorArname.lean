/- The reference's Ref and RefName, and the program's Cell. Conditions: as each theorem says. -/
import Derived.Test.YtmaiabkggpifgaaDoorArref
import Derived.Test.YtmaiabkggpifgaaDoorArsh
import Derived.Test.YtmaiabkggpifgaaDoorText
import Derived.Test.YtmaiabkggpifgaaDoorAbacklaw
namespace Go.Proofs.YtmaiabkggpifgaaDoor.adr
open Go.RowKit
theorem rdR_short {s : ByteArray} (h : ¬ b2N (isD s 0) < s.size) : rdR s = ⟨0, 0, false, false, false⟩ := by unfold rdR; rw [dif_neg h]
theorem rdR_out {s : ByteArray} (h : b2N (isD s 0) < s.size) (h2 : isC ((s[b2N (isD s 0)].toNat : Int) - 64) (rowAt s (b2N (isD s 0) + 1 + b2N (isD s (b2N (isD s 0) + 1)))) = false) : rdR s = ⟨0, 0, false, false, false⟩ := by
  unfold rdR; rw [dif_pos h, if_neg (by simp [h2])]
theorem rdR_in {s : ByteArray} (h : b2N (isD s 0) < s.size) (h2 : isC ((s[b2N (isD s 0)].toNat : Int) - 64) (rowAt s (b2N (isD s 0) + 1 + b2N (isD s (b2N (isD s 0) + 1)))) = true) :
    rdR s = ⟨(s[b2N (isD s 0)].toNat : Int) - 64, rowAt s (b2N (isD s 0) + 1 + b2N (isD s (b2N (isD s 0) + 1))), isD s 0, isD s (b2N (isD s 0) + 1), true⟩ := by
  unfold rdR; rw [dif_pos h, if_pos h2]
theorem rref_any (s : ByteArray) (w : World) (hs : s.size ≤ 140737488355328) :
    Calls Tryd.prog 6 #[.string s] w fun e w' => e = .returned (.tuple #[R (rdR s).c (rdR s).r (rdR s).fc (rdR s).fr, .bool (rdR s).ok]) ∧ Below w.heap.size w w' := by
  by_cases h : b2N (isD s 0) < s.size
  · by_cases hl : 65 ≤ s[b2N (isD s 0)].toNat ∧ s[b2N (isD s 0)].toNat ≤ 90
    · refine rref_walk s w hs _ _ _ _ rfl rfl _ rfl rfl (Or.inr ⟨h, Or.inr ⟨hl, ?_⟩⟩)
      generalize hk3 : b2N (isD s 0) + 1 + b2N (isD s (b2N (isD s 0) + 1)) = k3
      have hrow : rowAt s k3 = ((rowAcc 0 (s.data.toList.drop k3) : Nat) : Int) := rfl
      by_cases hr : 1 ≤ rowAcc 0 (s.data.toList.drop k3)
      · obtain ⟨e, e99⟩ := row_some (r := rowAcc 0 (s.data.toList.drop k3)) rfl hr
        have hw : wholeN (s.data.toList.drop k3) = some (rowAcc 0 (s.data.toList.drop k3)) := by
          have := dec_whole (v := rowAcc 0 (s.data.toList.drop k3)) (by omega)
          rw [← e] at this
          exact this
        have hc : isC ((s[b2N (isD s 0)].toNat : Int) - 64) (rowAt s k3) = true := isC_iff.2 ⟨by omega, by rw [hrow]; omega⟩
        have hR := rdR_in h (by rw [hk3]; exact hc)
        rw [hk3] at hR
        rw [hR, hw, hrow]
        unfold rrA
        rw [if_pos (by simp; omega)]
        rfl
      · have hc : isC ((s[b2N (isD s 0)].toNat : Int) - 64) (rowAt s k3) = false := isC_row (by rw [hrow]; omega)
        rw [rdR_out h (by rw [hk3]; exact hc)]
        unfold rrA
        rw [if_neg]
        intro q
        cases hw : wholeN (s.data.toList.drop k3) with
        | none => rw [hw] at q; simp at q
        | some v =>
          rw [hw] at q
          simp at q
          have := whole_dec hw
          have h2 := row_dec (u := v) (by omega) (by omega)
          rw [this] at h2
          omega
    · rw [rdR_out h (isC_col (by omega))]
      exact rref_walk s w hs _ _ _ _ rfl rfl _ rfl rfl (Or.inr ⟨h, Or.inl ⟨by omega, rfl⟩⟩)
  · rw [rdR_short h]
    exact rref_walk s w hs _ _ _ _ rfl rfl _ rfl rfl (Or.inl ⟨h, rfl⟩)
/-! Digits and names. -/
theorem string_pos (bz x : Nat) (w : World) (hz : BigInt w bz false x) (hx : x ≠ 0) (hx64 : x < 18446744073709551616) :
    Calls Tryd.prog 42 #[Go.Proofs.YtmaiabkggpifgaaDoor.ptr bz] w fun e w' => e = .returned (.string ⟨(Lib.decDigits x).toArray⟩) ∧ Below w.heap.size w w' := by
  go_enter Tryd.func42, Tryd.ntmps42
  go_wp2_with fail
  refine (text_pos bz x false _ hz hx hx64).mono ?_
  rintro e w1 ⟨rfl, b1⟩
  go_wp2_with fail
  go_ret
  exact ⟨rfl, b1⟩
theorem digits_pos (r : Int) (h1 : 1 ≤ r) (h2 : r ≤ 99) (w : World) :
    Calls Tryd.prog 28 #[.int .i64 r] w fun e w' => e = .returned (.string (itB r)) ∧ Below w.heap.size w w' := by
  have er : r = ((r.toNat : Nat) : Int) := by omega
  have HE : Hid (itB r = ⟨(Lib.decDigits r.toNat).toArray⟩) := rfl
  generalize r.toNat = x at *
  subst er
  go_enter Tryd.func28, Tryd.ntmps28
  go_wp2_with fail
  refine (newInt_nn x _ (by omega)).mono ?_
  rintro e w1 ⟨⟨b, rfl, hb, hI⟩, q1⟩
  go_wp2_with fail
  refine (string_pos b x _ hI (by omega) (by omega)).mono ?_
  rintro e w2 ⟨rfl, q2⟩
  go_wp2_with fail
  go_ret
  exact ⟨by rw [HE.out]; rfl, bnext q1 q2 q1.size⟩
theorem conv_one (c : Int) (h1 : 1 ≤ c) (h2 : c ≤ 26) (w : World) : (convert 61 9 (.slice (some ⟨w.heap.size, 0, none⟩) 1 1)).run Tryd.prog (w.alloc (.cells #[.int .u8 (64 + c)] 5)) = .ok (.string (Utf8.encode (65 + c - 1))) (w.alloc (.cells #[.int .u8 (64 + c)] 5)) := by
  have := run_convert_bytes_back (P := Tryd.prog) (w.alloc (.cells #[.int .u8 (64 + c)] 5)) 61 9 5 ⟨w.heap.size, 0, none⟩ 1 [UInt8.ofNat (64 + c.toNat)] Tryd.underlying61 Tryd.underlying5 Tryd.underlying9 (by
    intro j hj
    have : j = 0 := by simpa using hj
    subst this
    simp [Addr.add]
    omega)
  rw [enc_letter h1 h2]
  exact this
set_option maxRecDepth 100000 in
set_option maxHeartbeats 4000000 in
theorem rrefName_any (c r : Int) (fc fr : Bool) (h : isC c r = true) (w : World) :
    Calls Tryd.prog 11 #[R c r fc fr] w fun e w' => e = .returned (.string (nm c r fc fr)) ∧ Below w.heap.size w w' := by
  have HN : Hid (nm c r fc fr = sg fc ++ Utf8.encode (65 + c - 1) ++ sg fr ++ itB r) := by unfold Hid nm; rw [if_pos h]
  obtain ⟨⟨h1, h2⟩, h3, h4⟩ := isC_iff.1 h
  have q1 : ¬ 9223372036854775807 < (sg fc).size + (Utf8.encode (65 + c - 1)).size := by
    have := sg_size fc; have := enc_size h1 h2; omega
  have q2 : ¬ 9223372036854775807 < (sg fc).size + (Utf8.encode (65 + c - 1)).size + 1 := by
    have := sg_size fc; have := enc_size h1 h2; omega
  have q3 : ¬ 9223372036854775807 < (sg fc).size + (Utf8.encode (65 + c - 1)).size + (sg fr).size + (itB r).size := by
    have := sg_size fc; have := enc_size h1 h2; have := sg_size fr; have := it_size h3 h4; omega
  clear h
  have hS := BS.start w c r fc fr
  go_enter Tryd.func11, Tryd.ntmps11
  go_upto_region 2 with fail
  go_cut [6] (fun s6 wx => s6 = .bool fc ∧ BS w c r fc fr wx)
  case first =>
    obtain ⟨⟨o0, o1, o2, o3⟩, p0, p1, p2, p3⟩ := cells_four hS.own
    go_wp2_with fail
    go_meet
    case rel => exact ⟨rfl, hS⟩
  case rest =>
  clear hS
  obtain ⟨rfl, hS⟩ := hcut
  go_upto_if 6 with fail
  go_cut [3] (fun s3 wx => s3 = .string (sg fc) ∧ wx = wc)
  case first =>
    cases fc
    · go_wp2_with fail
      go_meet
      case rel => exact ⟨rfl, rfl⟩
    · go_wp2_with fail
      go_meet
      case rel => exact ⟨rfl, rfl⟩
  case rest =>
  obtain ⟨rfl, rfl⟩ := hcut
  go_upto_region 4 with fail
  go_cut [3] (fun s3 wx => s3 = .string (sg fc ++ Utf8.encode (65 + c - 1)) ∧ BS w c r fc fr wx)
  case first =>
    obtain ⟨⟨o0, o1, o2, o3⟩, p0, p1, p2, p3⟩ := cells_four hS.own
    have hcv := conv_one c h1 h2 wc
    go_wp2_with fail
    go_meet
    case rel => exact ⟨rfl, hS.alloc _⟩
  case rest =>
  clear hS
  obtain ⟨rfl, hS⟩ := hcut
  go_upto_region 5 with fail
  go_cut [17] (fun s17 wx => s17 = .bool fr ∧ wx = wc)
  case first =>
    obtain ⟨⟨o0, o1, o2, o3⟩, p0, p1, p2, p3⟩ := cells_four hS.own
    go_wp2_with fail
    go_meet
    case rel => exact ⟨rfl, rfl⟩
  case rest =>
  obtain ⟨rfl, rfl⟩ := hcut
  go_upto_if 17 with fail
  go_cut [3] (fun s3 wx => s3 = .string (sg fc ++ Utf8.encode (65 + c - 1) ++ sg fr) ∧ wx = wc)
  case first =>
    cases fr
    · go_wp2_with fail
      go_meet
      case rel => exact ⟨by rw [show sg false = nul from rfl, show (nul : ByteArray) = ByteArray.empty from rfl, ByteArray.append_empty], rfl⟩
    · go_wp2_with fail
      go_meet
      case rel => exact ⟨rfl, rfl⟩
  case rest =>
  obtain ⟨rfl, rfl⟩ := hcut
  obtain ⟨⟨o0, o1, o2, o3⟩, p0, p1, p2, p3⟩ := cells_four hS.own
  go_wp2_with fail
  refine (digits_pos r h3 h4 _).mono ?_
  rintro e w1 ⟨rfl, q4⟩
  have hB := (hS.next q4).below
  go_wp2_with fail
  go_ret
  exact ⟨by rw [HN.out]; rfl, hB⟩
end Go.Proofs.YtmaiabkggpifgaaDoor.adr
