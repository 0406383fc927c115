/- Division of whole numbers of at most 64 bits, with the rest; the sign of one. Conditions: as each theorem says. -/
import Derived.Test.YtgoadofnfaidcaaGreatDoorSum
import Derived.Test.YtgoadofnfaidcaaGreatDoorNeg
import Derived.Test.YtgoadofnfaidcaaGreatDoorFit
namespace Go.Proofs.YtgoadofnfaidcaaGreatDoor
open Go.RowKit
set_option maxHeartbeats 4000000 in
theorem plain_any (v : Value) (n : Nat) (f : Nat → Nat) (w : World) (h : Rd w v n f) (hn : n ≤ 2) :
    Calls Tryz.prog 106 #[v] w fun e w' => e = .returned (.int .u64 (valN n f : Nat)) ∧ w' = w := by
  obtain ⟨A, cap, rfl, hl, hA⟩ := h.view
  match n, hn, hA with
  | 0, _, hA =>
    clear hA
    go_enter Tryz.func106, Tryz.ntmps106
    go_wp2_with fail
    go_ret
    exact ⟨rfl, rfl⟩
  | 1, _, hA =>
    obtain ⟨b, rfl, hb, hc⟩ := hA (by omega)
    obtain ⟨c0, f0⟩ := hc 0 (by omega)
    clear hA hc
    go_enter Tryz.func106, Tryz.ntmps106
    go_wp2_with fail
    go_ret
    exact ⟨by simp [valN], rfl⟩
  | 2, _, hA =>
    obtain ⟨b, rfl, hb, hc⟩ := hA (by omega)
    obtain ⟨c0, f0⟩ := hc 0 (by omega)
    obtain ⟨c1, f1⟩ := hc 1 (by omega)
    clear hA hc
    go_enter Tryz.func106, Tryz.ntmps106
    go_wp2_with fail
    go_ret
    refine ⟨congrArg (fun z : Int => Ending.returned (.int .u64 z)) ?_, rfl⟩
    have e : ((f 1 : Int) * 4294967296) = ((f 1 * 4294967296 : Nat) : Int) := by simp
    rw [e, u64_or_nat _ _ (by omega) (by omega), or_form _ _ f0]
    simp [valN, W32]
set_option maxRecDepth 100000 in
set_option maxHeartbeats 8000000 in
theorem div_small (v1 v2 : Value) (n m : Nat) (f g : Nat → Nat) (x y : Nat) (w : World) (h1 : Rd w v1 n f) (h2 : Rd w v2 m g) (hn1 : Norm n f) (hn2 : Norm m g) (hn : n ≤ 2) (hm : m ≤ 2) (hm1 : 1 ≤ m) (hx : valN n f = x) (hy : valN m g = y) (hx64 : x < 18446744073709551616) (hy0 : y ≠ 0) (hy64 : y < 18446744073709551616) :
    Calls Tryz.prog 89 #[v1, v2] w fun e w' => (∃ q r, e = .returned (.tuple #[q, r]) ∧ Num w' q (x / y) ∧ Num w' r (x % y)) ∧ Below w.heap.size w w' := by
  have hcmp := cmp_any v1 v2 n m f g w h1 h2 hn1 hn2
  rw [hx, hy] at hcmp
  have HCmp : Hid (Calls Tryz.prog 91 #[v1, v2] w fun e w' => e = .returned (.int .i64 (cmpI (x : Nat) (y : Nat))) ∧ Below w.heap.size w w') := hcmp
  have HX : Hid (Num w v1 x) := ⟨n, f, h1, hn1, hx⟩
  have hv1 := h1.view
  have hv2 := h2.view
  have HP1 : Hid (∀ w', Below w.heap.size w w' → Calls Tryz.prog 106 #[v1] w' fun e w'' => e = .returned (.int .u64 (x : Nat)) ∧ w'' = w') := fun w' hb => by
    have := plain_any v1 n f w' (h1.below hb) hn
    rw [hx] at this
    exact this
  have HP2 : Hid (∀ w', Below w.heap.size w w' → Calls Tryz.prog 106 #[v2] w' fun e w'' => e = .returned (.int .u64 (y : Nat)) ∧ w'' = w') := fun w' hb => by
    have := plain_any v2 m g w' (h2.below hb) hm
    rw [hy] at this
    exact this
  obtain ⟨A1, cap1, rfl, hl1, _⟩ := hv1
  obtain ⟨A2, cap2, rfl, hl2, _⟩ := hv2
  have hm0 : ((m : Int) == 0) = false := by rw [beq_eq_false_iff_ne]; omega
  clear hcmp h1 h2 hn1 hn2 hx hy
  by_cases hlt : x < y
  · have HC : Hid (cmpI (x : Nat) (y : Nat) = -1) := cmpI_lt hlt
    have HQ : Hid (x / y = 0 ∧ x % y = x) := ⟨Nat.div_eq_of_lt hlt, Nat.mod_eq_of_lt hlt⟩
    clear hlt
    go_enter Tryz.func89, Tryz.ntmps89
    go_wp2_with fail
    refine HCmp.out.mono ?_
    rintro e w1 ⟨rfl, b1⟩
    rw [HC.out]
    go_wp2_with fail
    refine (twin_num _ x _ (HX.out.below b1)).mono ?_
    rintro e w2 ⟨⟨v', rfl, hv'⟩, b2⟩
    go_wp2_with fail
    go_ret2
    exact ⟨⟨_, v', rfl, by rw [HQ.out.1]; exact ⟨0, fun _ => 0, Or.inl ⟨rfl, rfl⟩, fun m h => by omega, rfl⟩, by rw [HQ.out.2]; exact hv'⟩, bnext b1 b2 b1.size⟩
  · have hcm : ¬ cmpI (x : Nat) (y : Nat) < 0 := by unfold cmpI; rw [if_neg (by omega)]; split <;> omega
    have hyp : (0 : Int) < (y : Int) := by omega
    have hqd : x / y < 18446744073709551616 := Nat.lt_of_le_of_lt (Nat.div_le_self _ _) hx64
    have hrd : x % y < 18446744073709551616 := Nat.lt_of_le_of_lt (Nat.mod_le _ _) hx64
    clear hlt
    go_enter Tryz.func89, Tryz.ntmps89
    go_wp2_with fail
    refine HCmp.out.mono ?_
    rintro e w1 ⟨rfl, b1⟩
    go_upto_region 6 with fail
    go_cut [6, 7] (fun s6 s7 wx => s6 = .int .u64 (x : Nat) ∧ s7 = .int .u64 (y : Nat) ∧ Below w.heap.size w wx)
    case first =>
      go_wp2_with fail
      refine (HP1.out _ b1).mono ?_
      rintro e w2 ⟨rfl, rfl⟩
      go_wp2_with fail
      refine (HP2.out _ b1).mono ?_
      rintro e w2 ⟨rfl, rfl⟩
      go_wp2_with fail
      go_meet
      case rel => exact ⟨rfl, rfl, b1⟩
    case rest =>
    clear b1
    obtain ⟨rfl, rfl, hB⟩ := hcut
    go_upto_region 7 with fail
    have hyi : ((y : Int) == 0) = false := by rw [beq_eq_false_iff_ne]; omega
    have hw1 : IntKind.u64.wrap ((x : Int) / (y : Int)) = (x : Int) / (y : Int) := by
      have : ((x : Int) / (y : Int)) = ((x / y : Nat) : Int) := (Int.natCast_ediv x y).symm
      rw [this]
      exact wrapU_in (Int.natCast_nonneg _) (Int.ofNat_lt.2 hqd)
    have hw2 : IntKind.u64.wrap ((x : Int) % (y : Int)) = (x : Int) % (y : Int) := by
      have : ((x : Int) % (y : Int)) = ((x % y : Nat) : Int) := (Int.natCast_emod x y).symm
      rw [this]
      exact wrapU_in (Int.natCast_nonneg _) (Int.ofNat_lt.2 hrd)
    have HW1 : Hid (∀ W, Calls Tryz.prog 88 #[.int .u64 ((x : Int) / (y : Int))] W fun e w' => (∃ v, e = .returned v ∧ Num w' v (x / y)) ∧ Below W.heap.size W w') := fun W => by
      have := words_any (x / y) W hqd
      rw [Int.natCast_ediv] at this
      refine this.mono ?_
      rintro e w' ⟨⟨v, rfl, hv⟩, hb⟩
      exact ⟨⟨v, rfl, num_trim hv (word_val _)⟩, hb⟩
    have HW2 : Hid (∀ W, Calls Tryz.prog 88 #[.int .u64 ((x : Int) % (y : Int))] W fun e w' => (∃ v, e = .returned v ∧ Num w' v (x % y)) ∧ Below W.heap.size W w') := fun W => by
      have := words_any (x % y) W hrd
      rw [Int.natCast_emod] at this
      refine this.mono ?_
      rintro e w' ⟨⟨v, rfl, hv⟩, hb⟩
      exact ⟨⟨v, rfl, num_trim hv (word_val _)⟩, hb⟩
    have hd := drew_below wc
    go_region_with (first | (go_at_call 88; refine (HW1.out _).mono ?_; rintro e wq ⟨⟨vq, rfl, hq⟩, bq⟩) | (go_at_call 88; refine (HW2.out _).mono ?_; rintro e wt ⟨⟨vt, rfl, ht⟩, bt⟩))
    all_goals
      go_wp2_with fail
      go_ret2
      first
      | exact ⟨⟨vq, vt, rfl, hq.below bt, ht⟩, bnext (bnext (bnext hB hd hB.size) bq (bnext hB hd hB.size).size) bt (bnext (bnext hB hd hB.size) bq (bnext hB hd hB.size).size).size⟩
      | exact ⟨⟨vq, vt, rfl, hq, ht.below bq⟩, bnext (bnext (bnext hB hd hB.size) bt (bnext hB hd hB.size).size) bq (bnext (bnext hB hd hB.size) bt (bnext hB hd hB.size).size).size⟩
end Go.Proofs.YtgoadofnfaidcaaGreatDoor
