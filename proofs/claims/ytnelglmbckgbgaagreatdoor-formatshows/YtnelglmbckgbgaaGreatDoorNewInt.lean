
/- Whole numbers of an int, and their digits. Conditions: the int is one. -/
import Derived.Test.YtnelglmbckgbgaaGreatDoorText
import Derived.Test.YtnelglmbckgbgaaGreatDoorSum
import Derived.Test.YtnelglmbckgbgaaGreatDoorConv
namespace Go.Proofs.YtnelglmbckgbgaaGreatDoor
open Go.RowKit
set_option maxHeartbeats 1000000 in
theorem setInt_neg (bz x : Nat) (w : World) (zn : Bool) (zx : Nat) (hz : BigInt w bz zn zx) (h1 : 1 ≤ x) (hx : x ≤ 9223372036854775808) :
    Calls Tryz.prog 21 #[ptr bz, .int .i64 (-(x : Int))] w fun e w' => e = .returned (ptr bz) ∧ BigInt w' bz true x ∧ ∀ B, B ≤ bz → Below B w w' := by
  have hlt0 : -(x : Int) < 0 := by omega
  go_enter Tryz.func21, Tryz.ntmps21
  go_wp2_with fail
  rw [wrapU_neg (x := -(x : Int)) (by omega) (by omega), show (-(-(x : Int) + 18446744073709551616)) = (x : Int) - 18446744073709551616 from by omega, wrapU_neg (by omega) (by omega), show (x : Int) - 18446744073709551616 + 18446744073709551616 = (x : Int) from by omega]
  refine (words_any x _ (by omega)).mono ?_
  rintro e w1 ⟨⟨v, rfl, hv⟩, b1⟩
  have hz1 := hz.below b1
  have hN := num_trim hv (word_val x)
  have hlt := hz.lt
  go_wp2_with fail
  refine (give_any bz true v x _ zn zx hz1 hN).mono ?_
  rintro e w2 ⟨rfl, hz2, b2⟩
  have e1 : (true && decide (x ≠ 0)) = true := by simp; omega
  rw [e1] at hz2
  go_wp2_with fail
  go_ret
  exact ⟨rfl, hz2, fun B hB => (b1.mono (by omega)).trans (b2 B hB)⟩
set_option maxHeartbeats 1000000 in
theorem newInt_any (n : Int) (w : World) (h0 : -9223372036854775808 ≤ n) (h1 : n ≤ 9223372036854775807) :
    Calls Tryz.prog 13 #[.int .i64 n] w fun e w' => (∃ b, e = .returned (ptr b) ∧ w.heap.size ≤ b ∧ BigInt w' b (decide (n < 0)) n.natAbs) ∧ Below w.heap.size w w' := by
  by_cases c : n < 0
  · obtain ⟨x, rfl, hx⟩ : ∃ x : Nat, n = -(x : Int) ∧ 1 ≤ x := ⟨n.natAbs, by omega, by omega⟩
    have e1 : decide (-(x : Int) < 0) = true := decide_eq_true c
    have e2 : (-(x : Int)).natAbs = x := by omega
    rw [e1, e2]
    have hb := BigInt.new w 54
    clear c e1 e2
    go_enter Tryz.func13, Tryz.ntmps13
    go_wp2_with fail
    refine (setInt_neg _ x _ false 0 hb hx (by omega)).mono ?_
    rintro e w1 ⟨rfl, hz, b1⟩
    go_wp2_with fail
    go_ret
    exact ⟨⟨_, rfl, Nat.le_refl _, hz⟩, ((Below.refl _ _).alloc (Nat.le_refl _) _).trans (b1 _ (Nat.le_refl _))⟩
  · obtain ⟨x, rfl⟩ : ∃ x : Nat, n = (x : Int) := ⟨n.natAbs, by omega⟩
    have e1 : decide ((x : Int) < 0) = false := decide_eq_false c
    have e2 : ((x : Int)).natAbs = x := by omega
    rw [e1, e2]
    exact newInt_nn x w (by omega)
theorem string_any (bz x : Nat) (neg : Bool) (w : World) (hz : BigInt w bz neg x) (hx64 : x < 18446744073709551616) (hn : x = 0 → neg = false) :
    Calls Tryz.prog 16 #[ptr bz] w fun e w' => e = .returned (.string ⟨(sgn neg ++ Lib.decDigits x).toArray⟩) ∧ Below w.heap.size w w' := by
  by_cases hx : x = 0
  · obtain ⟨v, h1, hv⟩ := hz.c1
    obtain ⟨A, n, c, rfl, hn', hpos⟩ := hv.shape
    have : n = 0 := by
      rcases Nat.eq_zero_or_pos n with q | q
      · exact q
      · exact absurd hx (hpos.1 q)
    subst this
    have HE : Hid ((⟨(sgn neg ++ Lib.decDigits x).toArray⟩ : ByteArray) = ⟨#[48]⟩) := by
      unfold Hid
      rw [hn hx, hx, Lib.decDigits, dif_pos (by omega)]
      rfl
    go_enter Tryz.func16, Tryz.ntmps16
    go_wp2_with fail
    refine (text_zero bz A c _ h1).mono ?_
    rintro e w1 ⟨rfl, rfl⟩
    go_wp2_with fail
    go_ret
    exact ⟨by rw [HE.out]; rfl, Below.refl _ _⟩
  · go_enter Tryz.func16, Tryz.ntmps16
    go_wp2_with fail
    refine (text_pos bz x neg _ hz hx hx64).mono ?_
    rintro e w1 ⟨rfl, b1⟩
    go_wp2_with fail
    go_ret
    exact ⟨rfl, b1⟩
theorem digits_any (n : Int) (w : World) (h0 : -9223372036854775808 ≤ n) (h1 : n ≤ 9223372036854775807) :
    Calls Tryz.prog 11 #[.int .i64 n] w fun e w' => e = .returned (.string (itoaB n)) ∧ Below w.heap.size w w' := by
  have HE : Hid (itoaB n = ⟨(sgn (decide (n < 0)) ++ Lib.decDigits n.natAbs).toArray⟩) := by
    unfold Hid itoaB Lib.itoa sgn
    by_cases c : n < 0
    · rw [if_pos c, if_pos (decide_eq_true c)]; rfl
    · rw [if_neg c, if_neg (by simpa using c), List.nil_append]
      congr 3
      omega
  go_enter Tryz.func11, Tryz.ntmps11
  go_wp2_with fail
  refine (newInt_any n _ h0 h1).mono ?_
  rintro e w1 ⟨⟨b, rfl, hb, hI⟩, q1⟩
  go_wp2_with fail
  refine (string_any b _ _ _ hI (by omega) (fun q => decide_eq_false (by omega))).mono ?_
  rintro e w2 ⟨rfl, q2⟩
  go_wp2_with fail
  go_ret
  exact ⟨by rw [HE.out]; rfl, bnext q1 q2 q1.size⟩
end Go.Proofs.YtnelglmbckgbgaaGreatDoor
