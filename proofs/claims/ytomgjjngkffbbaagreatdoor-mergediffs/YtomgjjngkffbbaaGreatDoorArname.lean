
/- The reference's Ref: what any text is read as. Conditions: the text has at most 2^47 bytes. -/
import Derived.Test.YtomgjjngkffbbaaGreatDoorAmath
import Derived.Test.YtomgjjngkffbbaaGreatDoorWholeF
namespace Go.Proofs.YtomgjjngkffbbaaGreatDoor.adr
open Go.RowKit
theorem whole_dec {l : List UInt8} {v : Nat} (h : wholeN l = some v) : Lib.decDigits v = l := by
  unfold wholeN at h
  split at h
  · cases h
  · rename_i h1
    split at h
    · rename_i h2
      split at h
      · injection h with h
        subst h
        refine dec_dv l ⟨h2, fun q => h1 (Or.inl q), fun q => ?_⟩
        apply Classical.byContradiction
        intro r
        exact h1 (Or.inr ⟨q, r⟩)
      · cases h
    · cases h
theorem dec_whole {v : Nat} (hv : v < 9223372036854775808) : wholeN (Lib.decDigits v) = some v := by
  obtain ⟨d1, d2, d3, d4⟩ := dv_dec v
  unfold wholeN
  rw [if_neg, if_pos d2, d1, if_pos hv]
  rintro (q | ⟨q, r⟩)
  · exact d3 q
  · exact r (d4 q)
theorem row_some {l : List UInt8} {r : Nat} (h : rowAcc 0 l = r) (h1 : 1 ≤ r) : l = Lib.decDigits r ∧ r ≤ 99 := by
  match l with
  | [] => exact absurd h (by simp only [rowAcc]; omega)
  | d :: t =>
    by_cases b1 : d.toNat < 48 ∨ 57 < d.toNat ∨ ((0 : Nat) = 0 ∧ d.toNat = 48)
    · rw [rowAcc_bad b1] at h; omega
    · rw [rowAcc_step b1 (by omega)] at h
      have hd := byte_lt d
      match t with
      | [] =>
        have e : d.toNat - 48 = r := by simp only [rowAcc] at h; omega
        refine ⟨?_, by omega⟩
        rw [dec_small (by omega)]
        congr 1
        apply UInt8.toNat_inj.1
        rw [u8 (by omega)]
        omega
      | e :: u =>
        by_cases b2 : e.toNat < 48 ∨ 57 < e.toNat ∨ (0 * 10 + (d.toNat - 48) = 0 ∧ e.toNat = 48)
        · rw [rowAcc_bad b2] at h; omega
        · rw [rowAcc_step b2 (by omega)] at h
          match u with
          | [] =>
            have e1 : (0 * 10 + (d.toNat - 48)) * 10 + (e.toNat - 48) = r := by simpa only [rowAcc] using h
            refine ⟨?_, by omega⟩
            rw [dec_two (by omega) (by omega)]
            congr 1
            · apply UInt8.toNat_inj.1
              rw [u8 (by omega)]
              omega
            · congr 1
              apply UInt8.toNat_inj.1
              rw [u8 (by omega)]
              omega
          | f :: x =>
            by_cases b3 : f.toNat < 48 ∨ 57 < f.toNat ∨ ((0 * 10 + (d.toNat - 48)) * 10 + (e.toNat - 48) = 0 ∧ f.toNat = 48)
            · rw [rowAcc_bad b3] at h; omega
            · rw [rowAcc_over (by omega)] at h; omega
/-- The blocks of the reference's Ref. -/
structure QS (w : World) (c r : Int) (fc fr : Bool) (wx : World) : Prop where
  res : wx.heap[w.heap.size]? = some (.cells #[.int .i64 0, .int .i64 0, .bool false, .bool false] 74 (0, 0))
  own : wx.heap[w.heap.size + 1]? = some (.cells #[.int .i64 c, .int .i64 r, .bool fc, .bool fr] 74 (0, 0))
  below : Below w.heap.size w wx
theorem QS.start (w : World) : QS w 0 0 false false ((w.alloc (.cells #[.int .i64 0, .int .i64 0, .bool false, .bool false] 74)).alloc (.cells #[.int .i64 0, .int .i64 0, .bool false, .bool false] 74)) :=
  ⟨by rw [Below.heap_alloc _ _ _ (by simp), heap_at _ _ _ rfl], heap_at _ _ _ (by simp), ((Below.refl _ _).alloc (Nat.le_refl _) _).alloc (by simp) _⟩
section
variable {w wx : World} {c r : Int} {fc fr : Bool}
theorem QS.lt (h : QS w c r fc fr wx) : w.heap.size + 1 < wx.heap.size := lt_of_block h.own
theorem QS.next {wy : World} (h : QS w c r fc fr wx) (hb : Below wx.heap.size wx wy) : QS w c r fc fr wy := by
  have hl := h.lt
  refine ⟨?_, ?_, bnext h.below hb h.below.size⟩
  · rw [hb.block _ (by omega)]; exact h.res
  · rw [hb.block _ (by omega)]; exact h.own
theorem QS.set (h : QS w c r fc fr wx) (o : Nat) (u : Value) {c' r' : Int} {fc' fr' : Bool} (he : (#[.int .i64 c, .int .i64 r, .bool fc, .bool fr] : Array Value).setIfInBounds o u = #[.int .i64 c', .int .i64 r', .bool fc', .bool fr']) :
    QS w c' r' fc' fr' (wx.setCell ⟨w.heap.size + 1, o, none⟩ u) :=
  ⟨by rw [Below.heap_setCell _ _ _ _ (by simp)]; exact h.res, by rw [block_setCell h.own, he], h.below.setCell (by simp) _⟩
end
/-- What the reference makes of a text that begins as a ref's does. -/
def rrA (c v : Int) (ok fc fr : Bool) : Array Value := if (ok && decide (1 ≤ v) && decide (v ≤ 99)) = true then #[R c v fc fr, .bool true] else #[R 0 0 false false, .bool false]
theorem isD_cases (s : ByteArray) (k : Nat) : (∃ h : k < s.size, (((s[k].toNat : Nat) : Int) == 36) = isD s k) ∨ (¬ k < s.size ∧ isD s k = false) := by
  by_cases h : k < s.size
  · left
    refine ⟨h, ?_⟩
    rw [isD_at h, Bool.eq_iff_iff, beq_iff_eq, beq_iff_eq]
    omega
  · exact Or.inr ⟨h, isD_no h⟩
set_option maxRecDepth 100000 in
set_option maxHeartbeats 8000000 in
theorem rref_walk (s : ByteArray) (w : World) (hs : s.size ≤ 140737488355328) (k1 k3 : Nat) (fc fr : Bool) (hfc : isD s 0 = fc) (hk1 : b2N fc = k1) (A : Array Value)
    (hfr : isD s (k1 + 1) = fr) (hk3 : k1 + 1 + b2N fr = k3)
    (hA : (¬ k1 < s.size ∧ A = #[R 0 0 false false, .bool false]) ∨ (∃ h : k1 < s.size, ((s[k1].toNat < 65 ∨ 90 < s[k1].toNat) ∧ A = #[R 0 0 false false, .bool false]) ∨ ((65 ≤ s[k1].toNat ∧ s[k1].toNat ≤ 90) ∧ A = rrA ((s[k1].toNat : Int) - 64) ((wholeN (s.data.toList.drop k3)).getD 0 : Nat) (wholeN (s.data.toList.drop k3)).isSome fc fr))) :
    Calls Tryz.prog 95 #[.string s] w fun e w' => e = .returned (.tuple A) ∧ Below w.heap.size w w' := by
  have HF : Hid (isD s 0 = fc) := hfc
  have H1 : Hid (b2N fc = k1) := hk1
  have HG : Hid (isD s (k1 + 1) = fr) := hfr
  have H3 : Hid (k1 + 1 + b2N fr = k3) := hk3
  have HA : Hid _ := hA
  have hle := b2N_le s 0 (Nat.zero_le _)
  rw [hfc, hk1, Nat.zero_add] at hle
  clear hfc hk1 hfr hk3 hA
  have hS := QS.start w
  go_enter Tryz.func95, Tryz.ntmps95
  go_upto_region 3 with fail
  go_cut [17] (fun s17 wx => s17 = .bool fc ∧ QS w 0 0 false false wx)
  case first =>
    rcases isD_cases s 0 with ⟨h, hd⟩ | ⟨h, hd⟩
    · rw [HF.out] at hd
      have HD : Hid ((((s[0].toNat : Nat) : Int) == 36) = fc) := hd
      clear hd
      go_wp2_with fail
      go_meet
      case rel => exact ⟨by rw [HD.out], hS⟩
    · rw [HF.out] at hd
      have HD : Hid (fc = false) := hd
      have h0 : ¬ (0 : Int) < (s.size : Int) := by omega
      clear hd
      go_wp2_with fail
      go_meet
      case rel => exact ⟨by rw [HD.out], hS⟩
  case rest =>
  clear hS
  obtain ⟨rfl, hS⟩ := hcut
  go_upto_if 17 with fail
  go_cut [5] (fun s5 wx => s5 = .int .i64 k1 ∧ QS w 0 0 fc false wx)
  case first =>
    cases fc
    · go_wp2_with fail
      go_meet
      case rel => exact ⟨by rw [← H1.out]; rfl, hS⟩
    · obtain ⟨⟨o0, o1, o2, o3⟩, p0, p1, p2, p3⟩ := cells_four hS.own
      go_wp2_with fail
      go_meet
      case rel => exact ⟨by rw [← H1.out]; rfl, hS.set 2 _ rfl⟩
  case rest =>
  clear hS H1 HF
  obtain ⟨rfl, hS⟩ := hcut
  rcases HA.out with ⟨h, hA⟩ | ⟨h, ⟨hb, hA⟩ | ⟨⟨h65, h90⟩, hA⟩⟩
  · have HAA : Hid (A = #[R 0 0 false false, .bool false]) := hA
    have hlt : ¬ (k1 : Int) < (s.size : Int) := by omega
    obtain ⟨⟨o0, o1, o2, o3⟩, p0, p1, p2, p3⟩ := cells_four hS.res
    have hB := hS.below
    clear HA hA
    go_wp2_with fail
    exact bodyPost_ret (v := .tuple #[R 0 0 false false, .bool false]) (by simp [results, Tryz.results95, go_sem, o0, o1, o2, o3]) rfl ⟨by rw [HAA.out], hB.trans (below4 (Nat.le_refl _))⟩
  · have HAA : Hid (A = #[R 0 0 false false, .bool false]) := hA
    have hlt : (k1 : Int) < (s.size : Int) := by omega
    obtain ⟨⟨o0, o1, o2, o3⟩, p0, p1, p2, p3⟩ := cells_four hS.res
    have hB := hS.below
    clear HA hA
    rcases hb with hb | hb
    · go_wp2_with fail
      exact bodyPost_ret (v := .tuple #[R 0 0 false false, .bool false]) (by simp [results, Tryz.results95, go_sem, o0, o1, o2, o3]) rfl ⟨by rw [HAA.out], hB.trans (below4 (Nat.le_refl _))⟩
    · go_wp2_with fail
      exact bodyPost_ret (v := .tuple #[R 0 0 false false, .bool false]) (by simp [results, Tryz.results95, go_sem, o0, o1, o2, o3]) rfl ⟨by rw [HAA.out], hB.trans (below4 (Nat.le_refl _))⟩
  obtain ⟨c, hc⟩ : ∃ c : Int, c = (s[k1].toNat : Int) - 64 := ⟨_, rfl⟩
  rw [← hc] at hA
  have HC : Hid (c = (s[k1].toNat : Int) - 64) := hc
  have HAA : Hid (A = rrA c ((wholeN (s.data.toList.drop k3)).getD 0 : Nat) (wholeN (s.data.toList.drop k3)).isSome fc fr) := hA
  clear HA hA hc
  have hlt : (k1 : Int) < (s.size : Int) := by omega
  go_upto_region 6 with fail
  go_cut [36] (fun s36 wx => s36 = .bool false ∧ wx = wc)
  case first =>
    go_wp2_with fail
    go_meet
    case rel => exact ⟨by simp; omega, rfl⟩
  case rest =>
  obtain ⟨rfl, rfl⟩ := hcut
  go_upto_region 8 with fail
  go_cut [] (fun wx => QS w c 0 fc false wx)
  case first =>
    obtain ⟨⟨o0, o1, o2, o3⟩, p0, p1, p2, p3⟩ := cells_four hS.own
    go_wp2_with fail
    go_meet
    case rel => exact hS.set 0 _ (by rw [HC.out]; rfl)
  case rest =>
  clear hS HC h65 h90
  have hS := hcut
  clear hcut
  go_upto_region 10 with fail
  go_cut [56] (fun s56 wx => s56 = .bool fr ∧ wx = wc)
  case first =>
    rcases isD_cases s (k1 + 1) with ⟨h', hd⟩ | ⟨h', hd⟩
    · rw [HG.out] at hd
      have HD : Hid ((((s[k1 + 1].toNat : Nat) : Int) == 36) = fr) := hd
      have hlt2 : (k1 : Int) + 1 < (s.size : Int) := by omega
      clear hd
      go_wp2_with fail
      go_meet
      case rel => exact ⟨by rw [HD.out], rfl⟩
    · rw [HG.out] at hd
      have HD : Hid (fr = false) := hd
      have hlt2 : ¬ (k1 : Int) + 1 < (s.size : Int) := by omega
      clear hd
      go_wp2_with fail
      go_meet
      case rel => exact ⟨by rw [HD.out], rfl⟩
  case rest =>
  obtain ⟨rfl, rfl⟩ := hcut
  have hle3 := b2N_le s (k1 + 1) (by omega)
  rw [HG.out, H3.out] at hle3
  go_upto_if 56 with fail
  go_cut [5] (fun s5 wx => s5 = .int .i64 k3 ∧ QS w c 0 fc fr wx)
  case first =>
    cases fr
    · go_wp2_with fail
      go_meet
      case rel => exact ⟨by rw [← H3.out]; rfl, hS⟩
    · obtain ⟨⟨o0, o1, o2, o3⟩, p0, p1, p2, p3⟩ := cells_four hS.own
      go_wp2_with fail
      go_meet
      case rel => exact ⟨by rw [← H3.out]; rfl, hS.set 3 _ rfl⟩
  case rest =>
  clear hS H3 HG
  obtain ⟨rfl, hS⟩ := hcut
  obtain ⟨v, hv⟩ : ∃ v : Nat, (wholeN (s.data.toList.drop k3)).getD 0 = v := ⟨_, rfl⟩
  obtain ⟨ok, hok⟩ : ∃ ok, (wholeN (s.data.toList.drop k3)).isSome = ok := ⟨_, rfl⟩
  have hA := HAA.out
  rw [hv, hok] at hA
  have HV : Hid ((wholeN (s.data.toList.drop k3)).getD 0 = v) := hv
  have HO : Hid ((wholeN (s.data.toList.drop k3)).isSome = ok) := hok
  have HA2 : Hid (A = rrA c v ok fc fr) := hA
  clear hA HAA hv hok
  go_upto_region 13 with fail
  go_cut [6, 7] (fun s6 s7 wx => s6 = .int .i64 v ∧ s7 = .bool ok ∧ QS w c 0 fc fr wx)
  case first =>
    go_wp2_with fail
    refine (wholeF_any _ _ (by rw [ByteArray.size_extract]; omega)).mono ?_
    rintro e w1 ⟨rfl, q1⟩
    have ed : (s.extract k3 s.size).data.toList = s.data.toList.drop k3 := by
      rw [Lib.extract_to_end]
    rw [ed, HV.out, HO.out]
    go_wp2_with fail
    go_meet
    case rel => exact ⟨rfl, rfl, hS.next q1⟩
  case rest =>
  clear hS HV HO
  obtain ⟨rfl, rfl, hS⟩ := hcut
  have hB := hS.below
  obtain ⟨⟨o0, o1, o2, o3⟩, p0, p1, p2, p3⟩ := cells_four hS.own
  obtain ⟨⟨g0, g1, g2, g3⟩, f0, f1, f2, f3⟩ := cells_four hS.res
  cases ok
  · have HZ : Hid (A = #[R 0 0 false false, .bool false]) := by unfold Hid; rw [HA2.out]; rfl
    clear HA2
    go_wp2_with fail
    exact bodyPost_ret (v := .tuple #[R 0 0 false false, .bool false]) (by simp [results, Tryz.results95, go_sem, g0, g1, g2, g3]) rfl ⟨by rw [HZ.out], hB.trans (below4 (Nat.le_refl _))⟩
  by_cases hv1 : (v : Int) < 1
  · have HZ : Hid (A = #[R 0 0 false false, .bool false]) := by
      unfold Hid
      rw [HA2.out]
      unfold rrA
      rw [if_neg (by simp; omega)]
    clear HA2
    go_wp2_with fail
    exact bodyPost_ret (v := .tuple #[R 0 0 false false, .bool false]) (by simp [results, Tryz.results95, go_sem, g0, g1, g2, g3]) rfl ⟨by rw [HZ.out], hB.trans (below4 (Nat.le_refl _))⟩
  by_cases hv2 : (99 : Int) < (v : Int)
  · have HZ : Hid (A = #[R 0 0 false false, .bool false]) := by
      unfold Hid
      rw [HA2.out]
      unfold rrA
      rw [if_neg (by simp; omega)]
    clear HA2
    go_wp2_with fail
    exact bodyPost_ret (v := .tuple #[R 0 0 false false, .bool false]) (by simp [results, Tryz.results95, go_sem, g0, g1, g2, g3]) rfl ⟨by rw [HZ.out], hB.trans (below4 (Nat.le_refl _))⟩
  have HZ : Hid (A = #[R c v fc fr, .bool true]) := by
    unfold Hid
    rw [HA2.out]
    unfold rrA
    rw [if_pos (by simp; omega)]
  clear HA2
  go_wp2_with fail
  exact bodyPost_ret (v := .tuple #[R c v fc fr, .bool true]) (by simp [results, Tryz.results95, go_sem, g0, g1, g2, g3]) rfl ⟨by rw [HZ.out], (hB.setCell (by simp) _).trans (below4 (Nat.le_refl _))⟩
end Go.Proofs.YtomgjjngkffbbaaGreatDoor.adr
/- The reference's Ref. Conditions: as each theorem says. -/
namespace Go.Proofs.YtomgjjngkffbbaaGreatDoor.adr
open Go.RowKit
theorem isC_col {c r : Int} (h : ¬ (1 ≤ c ∧ c ≤ 26)) : isC c r = false := by
  cases q : isC c r
  · rfl
  · exact absurd (isC_iff.1 q).1 h
theorem isC_row {c r : Int} (h : ¬ (1 ≤ r ∧ r ≤ 99)) : isC c r = false := by
  cases q : isC c r
  · rfl
  · exact absurd (isC_iff.1 q).2 h
theorem row_dec {u : Nat} (h1 : 1 ≤ u) (h2 : u < 100) : rowAcc 0 (Lib.decDigits u) = u := by
  by_cases h : u < 10
  · rw [dec_small h, rowAcc_step (by rw [u8 (by omega)]; omega) (by rw [u8 (by omega)]; omega), u8 (by omega)]
    show _ = _
    simp only [rowAcc]
    omega
  · rw [dec_two h h2, rowAcc_step (by rw [u8 (by omega)]; omega) (by rw [u8 (by omega)]; omega), u8 (by omega),
      rowAcc_step (by rw [u8 (by omega)]; omega) (by rw [u8 (by omega)]; omega), u8 (by omega)]
    simp only [rowAcc]
    omega
theorem rdR_short {s : ByteArray} (h : ¬ b2N (isD s 0) < s.size) : rdR s = ⟨0, 0, false, false, false⟩ := by unfold rdR; rw [dif_neg h]
theorem rdR_out {s : ByteArray} (h : b2N (isD s 0) < s.size) (h2 : isC ((s[b2N (isD s 0)].toNat : Int) - 64) (rowAt s (b2N (isD s 0) + 1 + b2N (isD s (b2N (isD s 0) + 1)))) = false) : rdR s = ⟨0, 0, false, false, false⟩ := by
  unfold rdR; rw [dif_pos h, if_neg (by simp [h2])]
theorem rdR_in {s : ByteArray} (h : b2N (isD s 0) < s.size) (h2 : isC ((s[b2N (isD s 0)].toNat : Int) - 64) (rowAt s (b2N (isD s 0) + 1 + b2N (isD s (b2N (isD s 0) + 1)))) = true) :
    rdR s = ⟨(s[b2N (isD s 0)].toNat : Int) - 64, rowAt s (b2N (isD s 0) + 1 + b2N (isD s (b2N (isD s 0) + 1))), isD s 0, isD s (b2N (isD s 0) + 1), true⟩ := by
  unfold rdR; rw [dif_pos h, if_pos h2]
theorem rref_any (s : ByteArray) (w : World) (hs : s.size ≤ 140737488355328) :
    Calls Tryz.prog 95 #[.string s] w fun e w' => e = .returned (.tuple #[R (rdR s).c (rdR s).r (rdR s).fc (rdR s).fr, .bool (rdR s).ok]) ∧ Below w.heap.size w w' := by
  by_cases h : b2N (isD s 0) < s.size
  · by_cases hl : 65 ≤ s[b2N (isD s 0)].toNat ∧ s[b2N (isD s 0)].toNat ≤ 90
    · refine rref_walk s w hs _ _ _ _ rfl rfl _ rfl rfl (Or.inr ⟨h, Or.inr ⟨hl, ?_⟩⟩)
      generalize hk3 : b2N (isD s 0) + 1 + b2N (isD s (b2N (isD s 0) + 1)) = k3
      have hrow : rowAt s k3 = ((rowAcc 0 (s.data.toList.drop k3) : Nat) : Int) := rfl
      by_cases hr : 1 ≤ rowAcc 0 (s.data.toList.drop k3)
      · obtain ⟨e, e99⟩ := row_some (r := rowAcc 0 (s.data.toList.drop k3)) rfl hr
        have hw : wholeN (s.data.toList.drop k3) = some (rowAcc 0 (s.data.toList.drop k3)) := by
          have := dec_whole (v := rowAcc 0 (s.data.toList.drop k3)) (by omega)
          rw [← e] at this
          exact this
        have hc : isC ((s[b2N (isD s 0)].toNat : Int) - 64) (rowAt s k3) = true := isC_iff.2 ⟨by omega, by rw [hrow]; omega⟩
        have hR := rdR_in h (by rw [hk3]; exact hc)
        rw [hk3] at hR
        rw [hR, hw, hrow]
        unfold rrA
        rw [if_pos (by simp; omega)]
        rfl
      · have hc : isC ((s[b2N (isD s 0)].toNat : Int) - 64) (rowAt s k3) = false := isC_row (by rw [hrow]; omega)
        rw [rdR_out h (by rw [hk3]; exact hc)]
        unfold rrA
        rw [if_neg]
        intro q
        cases hw : wholeN (s.data.toList.drop k3) with
        | none => rw [hw] at q; simp at q
        | some v =>
          rw [hw] at q
          simp at q
          have := whole_dec hw
          have h2 := row_dec (u := v) (by omega) (by omega)
          rw [this] at h2
          omega
    · rw [rdR_out h (isC_col (by omega))]
      exact rref_walk s w hs _ _ _ _ rfl rfl _ rfl rfl (Or.inr ⟨h, Or.inl ⟨by omega, rfl⟩⟩)
  · rw [rdR_short h]
    exact rref_walk s w hs _ _ _ _ rfl rfl _ rfl rfl (Or.inl ⟨h, rfl⟩)
end Go.Proofs.YtomgjjngkffbbaaGreatDoor.adr
