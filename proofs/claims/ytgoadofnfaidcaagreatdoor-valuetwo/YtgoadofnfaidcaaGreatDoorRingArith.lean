/- The five workings on numbers: what each gives, for all numbers of 64 bits. Conditions: the numbers have 64 bits. -/
import Derived.Test.YtgoadofnfaidcaaGreatDoorRead
import Derived.Test.YtgoadofnfaidcaaGreatDoorRingMath
namespace Go.Proofs.YtgoadofnfaidcaaGreatDoor.ring
open Go.RowKit
set_option maxHeartbeats 400000 in
theorem add_any (x y : Int) (w : World) (hx : fitsB x = true) (hy : fitsB y = true) :
    Calls Tryz.prog 43 #[.int .i64 x, .int .i64 y] w fun e w' => e = .returned (V (oK (x + y)) (oN (x + y)) nul) ∧ Below w.heap.size w w' := by
  by_cases h : fitsB (x + y) = true
  · rw [oK_yes h, oN_yes h]
    obtain ⟨h1, h2⟩ := fits_iff.1 h
    obtain ⟨hx1, hx2⟩ := fits_iff.1 hx
    obtain ⟨hy1, hy2⟩ := fits_iff.1 hy
    clear h hx hy
    by_cases c : y < 0
    · have c2 : x + y < x := by omega
      go_enter Tryz.func43, Tryz.ntmps43
      go_wp2_with (first | (go_at_call 27; refine (number_any _ _).mono ?_; rintro e w1 ⟨rfl, hb⟩; obtain ⟨hc, hf⟩ := bcell hb) | (go_at_call 29; refine (bad_any _ _).mono ?_; rintro e w1 ⟨rfl, hb⟩; obtain ⟨hc, hf⟩ := bcell hb))
      exact bodyPost_ret (v := V 1 (x + y) nul) (by simp [results, Tryz.results43, go_sem, hc]) rfl ⟨rfl, by (repeat (first | exact Below.refl _ _ | (refine Below.setCell ?_ (by simp) _) | (refine Below.alloc ?_ (by simp) _) | (refine Below.drew ?_) | (refine Below.trans ?_ (Below.mono (by assumption) (by simp)))))⟩
    · have c2 : ¬ x + y < x := by omega
      go_enter Tryz.func43, Tryz.ntmps43
      go_wp2_with (first | (go_at_call 27; refine (number_any _ _).mono ?_; rintro e w1 ⟨rfl, hb⟩; obtain ⟨hc, hf⟩ := bcell hb) | (go_at_call 29; refine (bad_any _ _).mono ?_; rintro e w1 ⟨rfl, hb⟩; obtain ⟨hc, hf⟩ := bcell hb))
      exact bodyPost_ret (v := V 1 (x + y) nul) (by simp [results, Tryz.results43, go_sem, hc]) rfl ⟨rfl, by (repeat (first | exact Below.refl _ _ | (refine Below.setCell ?_ (by simp) _) | (refine Below.alloc ?_ (by simp) _) | (refine Below.drew ?_) | (refine Below.trans ?_ (Below.mono (by assumption) (by simp)))))⟩
  · rw [oK_no h, oN_no h]
    rcases add_wrong hx hy h with ⟨c, c2⟩ | ⟨c, c2⟩
    all_goals
      clear h hx hy
      go_enter Tryz.func43, Tryz.ntmps43
      go_wp2_with (first | (go_at_call 27; refine (number_any _ _).mono ?_; rintro e w1 ⟨rfl, hb⟩; obtain ⟨hc, hf⟩ := bcell hb) | (go_at_call 29; refine (bad_any _ _).mono ?_; rintro e w1 ⟨rfl, hb⟩; obtain ⟨hc, hf⟩ := bcell hb))
      exact bodyPost_ret (v := V 4 5 nul) (by simp [results, Tryz.results43, go_sem, hc]) rfl ⟨rfl, by (repeat (first | exact Below.refl _ _ | (refine Below.setCell ?_ (by simp) _) | (refine Below.alloc ?_ (by simp) _) | (refine Below.drew ?_) | (refine Below.trans ?_ (Below.mono (by assumption) (by simp)))))⟩
set_option maxHeartbeats 400000 in
theorem sub_any (x y : Int) (w : World) (hx : fitsB x = true) (hy : fitsB y = true) :
    Calls Tryz.prog 32 #[.int .i64 x, .int .i64 y] w fun e w' => e = .returned (V (oK (x - y)) (oN (x - y)) nul) ∧ Below w.heap.size w w' := by
  by_cases h : fitsB (x - y) = true
  · rw [oK_yes h, oN_yes h]
    obtain ⟨h1, h2⟩ := fits_iff.1 h
    obtain ⟨hx1, hx2⟩ := fits_iff.1 hx
    obtain ⟨hy1, hy2⟩ := fits_iff.1 hy
    clear h hx hy
    by_cases c : y < 0
    · have c2 : x < x - y := by omega
      go_enter Tryz.func32, Tryz.ntmps32
      go_wp2_with (first | (go_at_call 27; refine (number_any _ _).mono ?_; rintro e w1 ⟨rfl, hb⟩; obtain ⟨hc, hf⟩ := bcell hb) | (go_at_call 29; refine (bad_any _ _).mono ?_; rintro e w1 ⟨rfl, hb⟩; obtain ⟨hc, hf⟩ := bcell hb))
      exact bodyPost_ret (v := V 1 (x - y) nul) (by simp [results, Tryz.results32, go_sem, hc]) rfl ⟨rfl, by (repeat (first | exact Below.refl _ _ | (refine Below.setCell ?_ (by simp) _) | (refine Below.alloc ?_ (by simp) _) | (refine Below.drew ?_) | (refine Below.trans ?_ (Below.mono (by assumption) (by simp)))))⟩
    · have c2 : ¬ x < x - y := by omega
      go_enter Tryz.func32, Tryz.ntmps32
      go_wp2_with (first | (go_at_call 27; refine (number_any _ _).mono ?_; rintro e w1 ⟨rfl, hb⟩; obtain ⟨hc, hf⟩ := bcell hb) | (go_at_call 29; refine (bad_any _ _).mono ?_; rintro e w1 ⟨rfl, hb⟩; obtain ⟨hc, hf⟩ := bcell hb))
      exact bodyPost_ret (v := V 1 (x - y) nul) (by simp [results, Tryz.results32, go_sem, hc]) rfl ⟨rfl, by (repeat (first | exact Below.refl _ _ | (refine Below.setCell ?_ (by simp) _) | (refine Below.alloc ?_ (by simp) _) | (refine Below.drew ?_) | (refine Below.trans ?_ (Below.mono (by assumption) (by simp)))))⟩
  · rw [oK_no h, oN_no h]
    rcases sub_wrong hx hy h with ⟨c, c2⟩ | ⟨c, c2⟩
    all_goals
      clear h hx hy
      go_enter Tryz.func32, Tryz.ntmps32
      go_wp2_with (first | (go_at_call 27; refine (number_any _ _).mono ?_; rintro e w1 ⟨rfl, hb⟩; obtain ⟨hc, hf⟩ := bcell hb) | (go_at_call 29; refine (bad_any _ _).mono ?_; rintro e w1 ⟨rfl, hb⟩; obtain ⟨hc, hf⟩ := bcell hb))
      exact bodyPost_ret (v := V 4 5 nul) (by simp [results, Tryz.results32, go_sem, hc]) rfl ⟨rfl, by (repeat (first | exact Below.refl _ _ | (refine Below.setCell ?_ (by simp) _) | (refine Below.alloc ?_ (by simp) _) | (refine Below.drew ?_) | (refine Below.trans ?_ (Below.mono (by assumption) (by simp)))))⟩
set_option maxHeartbeats 400000 in
theorem mul_any (x y : Int) (w : World) (hx : fitsB x = true) (hy : fitsB y = true) :
    Calls Tryz.prog 44 #[.int .i64 x, .int .i64 y] w fun e w' => e = .returned (V (oK (x * y)) (oN (x * y)) nul) ∧ Below w.heap.size w w' := by
  by_cases h0 : x = 0
  · subst h0
    have h : fitsB (0 * y) = true := by rw [Int.zero_mul]; decide
    rw [oK_yes h, oN_yes h, Int.zero_mul]
    clear h hx hy
    go_enter Tryz.func44, Tryz.ntmps44
    go_wp2_with (first | (go_at_call 27; refine (number_any _ _).mono ?_; rintro e w1 ⟨rfl, hb⟩; obtain ⟨hc, hf⟩ := bcell hb) | (go_at_call 29; refine (bad_any _ _).mono ?_; rintro e w1 ⟨rfl, hb⟩; obtain ⟨hc, hf⟩ := bcell hb))
    exact bodyPost_ret (v := V 1 0 nul) (by simp [results, Tryz.results44, go_sem, hc]) rfl ⟨rfl, by (repeat (first | exact Below.refl _ _ | (refine Below.setCell ?_ (by simp) _) | (refine Below.alloc ?_ (by simp) _) | (refine Below.drew ?_) | (refine Below.trans ?_ (Below.mono (by assumption) (by simp)))))⟩
  have b0 : (x == 0) = false := beq_eq_false_iff_ne.2 h0
  by_cases h : fitsB (x * y) = true
  · rw [oK_yes h, oN_yes h]
    have ey : wrap64 y = y := wrap_in (fits_iff.1 hy)
    by_cases c1 : x = -1
    · have em : (y == -9223372036854775808) = false := by
        rw [beq_eq_false_iff_ne]; rintro rfl; subst c1; revert h; decide
      subst c1
      rw [show (-1 * y : Int) = -y from by omega] at *
      have ew : wrap64 (-y) = -y := wrap_in (fits_iff.1 h)
      clear h hx hy h0 b0
      go_enter Tryz.func44, Tryz.ntmps44
      go_wp2_with (first | (go_at_call 27; refine (number_any _ _).mono ?_; rintro e w1 ⟨rfl, hb⟩; obtain ⟨hc, hf⟩ := bcell hb) | (go_at_call 29; refine (bad_any _ _).mono ?_; rintro e w1 ⟨rfl, hb⟩; obtain ⟨hc, hf⟩ := bcell hb))
      exact bodyPost_ret (v := V 1 (-y) nul) (by simp [results, Tryz.results44, go_sem, hc]) rfl ⟨rfl, by (repeat (first | exact Below.refl _ _ | (refine Below.setCell ?_ (by simp) _) | (refine Below.alloc ?_ (by simp) _) | (refine Below.drew ?_) | (refine Below.trans ?_ (Below.mono (by assumption) (by simp)))))⟩
    · have b1 : (x == -1) = false := beq_eq_false_iff_ne.2 c1
      have ew : wrap64 (x * y) = x * y := wrap_in (fits_iff.1 h)
      clear h hx hy c1
      go_enter Tryz.func44, Tryz.ntmps44
      go_wp2_with (first | (go_at_call 27; refine (number_any _ _).mono ?_; rintro e w1 ⟨rfl, hb⟩; obtain ⟨hc, hf⟩ := bcell hb) | (go_at_call 29; refine (bad_any _ _).mono ?_; rintro e w1 ⟨rfl, hb⟩; obtain ⟨hc, hf⟩ := bcell hb))
      exact bodyPost_ret (v := V 1 (x * y) nul) (by simp [results, Tryz.results44, go_sem, hc]) rfl ⟨rfl, by (repeat (first | exact Below.refl _ _ | (refine Below.setCell ?_ (by simp) _) | (refine Below.alloc ?_ (by simp) _) | (refine Below.drew ?_) | (refine Below.trans ?_ (Below.mono (by assumption) (by simp)))))⟩
  · rw [oK_no h, oN_no h]
    by_cases hm : x = -1 ∧ y = -9223372036854775808
    · obtain ⟨rfl, rfl⟩ := hm
      have em := wrap_least
      clear h hx hy h0 b0
      go_enter Tryz.func44, Tryz.ntmps44
      go_wp2_with (first | (go_at_call 27; refine (number_any _ _).mono ?_; rintro e w1 ⟨rfl, hb⟩; obtain ⟨hc, hf⟩ := bcell hb) | (go_at_call 29; refine (bad_any _ _).mono ?_; rintro e w1 ⟨rfl, hb⟩; obtain ⟨hc, hf⟩ := bcell hb))
      exact bodyPost_ret (v := V 4 5 nul) (by simp [results, Tryz.results44, go_sem, hc]) rfl ⟨rfl, by (repeat (first | exact Below.refl _ _ | (refine Below.setCell ?_ (by simp) _) | (refine Below.alloc ?_ (by simp) _) | (refine Below.drew ?_) | (refine Below.trans ?_ (Below.mono (by assumption) (by simp)))))⟩
    · have ne : (wrap64 ((wrap64 (x * y)).tdiv x) != y) = true := bne_iff_ne.2 (mul_wrong hx hy h0 h hm)
      clear h hx hy hm
      go_enter Tryz.func44, Tryz.ntmps44
      go_wp2_with (first | (go_at_call 27; refine (number_any _ _).mono ?_; rintro e w1 ⟨rfl, hb⟩; obtain ⟨hc, hf⟩ := bcell hb) | (go_at_call 29; refine (bad_any _ _).mono ?_; rintro e w1 ⟨rfl, hb⟩; obtain ⟨hc, hf⟩ := bcell hb))
      exact bodyPost_ret (v := V 4 5 nul) (by simp [results, Tryz.results44, go_sem, hc]) rfl ⟨rfl, by (repeat (first | exact Below.refl _ _ | (refine Below.setCell ?_ (by simp) _) | (refine Below.alloc ?_ (by simp) _) | (refine Below.drew ?_) | (refine Below.trans ?_ (Below.mono (by assumption) (by simp)))))⟩
set_option maxHeartbeats 400000 in
theorem div_zero (x : Int) (w : World) :
    Calls Tryz.prog 45 #[.int .i64 x, .int .i64 0] w fun e w' => e = .returned (V 4 1 nul) ∧ Below w.heap.size w w' := by
  go_enter Tryz.func45, Tryz.ntmps45
  go_wp2_with (first | (go_at_call 27; refine (number_any _ _).mono ?_; rintro e w1 ⟨rfl, hb⟩; obtain ⟨hc, hf⟩ := bcell hb) | (go_at_call 29; refine (bad_any _ _).mono ?_; rintro e w1 ⟨rfl, hb⟩; obtain ⟨hc, hf⟩ := bcell hb))
  exact bodyPost_ret (v := V 4 1 nul) (by simp [results, Tryz.results45, go_sem, hc]) rfl ⟨rfl, by (repeat (first | exact Below.refl _ _ | (refine Below.setCell ?_ (by simp) _) | (refine Below.alloc ?_ (by simp) _) | (refine Below.drew ?_) | (refine Below.trans ?_ (Below.mono (by assumption) (by simp)))))⟩
set_option maxHeartbeats 400000 in
theorem mod_zero (x : Int) (w : World) :
    Calls Tryz.prog 48 #[.int .i64 x, .int .i64 0] w fun e w' => e = .returned (V 4 1 nul) ∧ Below w.heap.size w w' := by
  go_enter Tryz.func48, Tryz.ntmps48
  go_wp2_with (first | (go_at_call 27; refine (number_any _ _).mono ?_; rintro e w1 ⟨rfl, hb⟩; obtain ⟨hc, hf⟩ := bcell hb) | (go_at_call 29; refine (bad_any _ _).mono ?_; rintro e w1 ⟨rfl, hb⟩; obtain ⟨hc, hf⟩ := bcell hb))
  exact bodyPost_ret (v := V 4 1 nul) (by simp [results, Tryz.results48, go_sem, hc]) rfl ⟨rfl, by (repeat (first | exact Below.refl _ _ | (refine Below.setCell ?_ (by simp) _) | (refine Below.alloc ?_ (by simp) _) | (refine Below.drew ?_) | (refine Below.trans ?_ (Below.mono (by assumption) (by simp)))))⟩
set_option maxHeartbeats 400000 in
theorem div_any (x y : Int) (w : World) (hx : fitsB x = true) (hy : fitsB y = true) (h0 : y ≠ 0) :
    Calls Tryz.prog 45 #[.int .i64 x, .int .i64 y] w fun e w' => e = .returned (V (oK (x.tdiv y)) (oN (x.tdiv y)) nul) ∧ Below w.heap.size w w' := by
  have b0 : (y == 0) = false := beq_eq_false_iff_ne.2 h0
  by_cases hm : x = -9223372036854775808 ∧ y = -1
  · have h := tdiv_unfit hm
    rw [oK_no h, oN_no h]
    obtain ⟨rfl, rfl⟩ := hm
    clear h hx hy h0 b0
    go_enter Tryz.func45, Tryz.ntmps45
    go_wp2_with (first | (go_at_call 27; refine (number_any _ _).mono ?_; rintro e w1 ⟨rfl, hb⟩; obtain ⟨hc, hf⟩ := bcell hb) | (go_at_call 29; refine (bad_any _ _).mono ?_; rintro e w1 ⟨rfl, hb⟩; obtain ⟨hc, hf⟩ := bcell hb))
    exact bodyPost_ret (v := V 4 5 nul) (by simp [results, Tryz.results45, go_sem, hc]) rfl ⟨rfl, by (repeat (first | exact Below.refl _ _ | (refine Below.setCell ?_ (by simp) _) | (refine Below.alloc ?_ (by simp) _) | (refine Below.drew ?_) | (refine Below.trans ?_ (Below.mono (by assumption) (by simp)))))⟩
  · have h := fits_tdiv hx hm
    rw [oK_yes h, oN_yes h]
    have ew : wrap64 (x.tdiv y) = x.tdiv y := wrap_in (fits_iff.1 h)
    by_cases c1 : x = -9223372036854775808
    · have c2 : (y == -1) = false := beq_eq_false_iff_ne.2 fun e => hm ⟨c1, e⟩
      have b1 : (x == -9223372036854775808) = true := beq_iff_eq.2 c1
      clear h hx hy hm c1
      go_enter Tryz.func45, Tryz.ntmps45
      go_wp2_with (first | (go_at_call 27; refine (number_any _ _).mono ?_; rintro e w1 ⟨rfl, hb⟩; obtain ⟨hc, hf⟩ := bcell hb) | (go_at_call 29; refine (bad_any _ _).mono ?_; rintro e w1 ⟨rfl, hb⟩; obtain ⟨hc, hf⟩ := bcell hb))
      exact bodyPost_ret (v := V 1 (x.tdiv y) nul) (by simp [results, Tryz.results45, go_sem, hc]) rfl ⟨rfl, by (repeat (first | exact Below.refl _ _ | (refine Below.setCell ?_ (by simp) _) | (refine Below.alloc ?_ (by simp) _) | (refine Below.drew ?_) | (refine Below.trans ?_ (Below.mono (by assumption) (by simp)))))⟩
    · have b1 : (x == -9223372036854775808) = false := beq_eq_false_iff_ne.2 c1
      clear h hx hy hm c1
      go_enter Tryz.func45, Tryz.ntmps45
      go_wp2_with (first | (go_at_call 27; refine (number_any _ _).mono ?_; rintro e w1 ⟨rfl, hb⟩; obtain ⟨hc, hf⟩ := bcell hb) | (go_at_call 29; refine (bad_any _ _).mono ?_; rintro e w1 ⟨rfl, hb⟩; obtain ⟨hc, hf⟩ := bcell hb))
      exact bodyPost_ret (v := V 1 (x.tdiv y) nul) (by simp [results, Tryz.results45, go_sem, hc]) rfl ⟨rfl, by (repeat (first | exact Below.refl _ _ | (refine Below.setCell ?_ (by simp) _) | (refine Below.alloc ?_ (by simp) _) | (refine Below.drew ?_) | (refine Below.trans ?_ (Below.mono (by assumption) (by simp)))))⟩
set_option maxHeartbeats 400000 in
theorem mod_any (x y : Int) (w : World) (hy : fitsB y = true) (h0 : y ≠ 0) :
    Calls Tryz.prog 48 #[.int .i64 x, .int .i64 y] w fun e w' => e = .returned (V 1 (x.fmod y) nul) ∧ Below w.heap.size w w' := by
  have b0 : (y == 0) = false := beq_eq_false_iff_ne.2 h0
  have hfit := fits_fmod (x := x) hy h0
  rw [fits_iff] at hfit
  have hf := fmod_of_tmod (x := x) h0
  by_cases c0 : x.tmod y = 0
  · rw [if_neg (by omega), c0] at hf
    rw [hf]
    have b1 : (x.tmod y != 0) = false := by simp [c0]
    clear hf hfit hy
    go_enter Tryz.func48, Tryz.ntmps48
    go_wp2_with (first | (go_at_call 27; refine (number_any _ _).mono ?_; rintro e w1 ⟨rfl, hb⟩; obtain ⟨hc, hf⟩ := bcell hb) | (go_at_call 29; refine (bad_any _ _).mono ?_; rintro e w1 ⟨rfl, hb⟩; obtain ⟨hc, hf⟩ := bcell hb))
    exact bodyPost_ret (v := V 1 0 nul) (by simp [results, Tryz.results48, go_sem, hc]) rfl ⟨rfl, by (repeat (first | exact Below.refl _ _ | (refine Below.setCell ?_ (by simp) _) | (refine Below.alloc ?_ (by simp) _) | (refine Below.drew ?_) | (refine Below.trans ?_ (Below.mono (by assumption) (by simp)))))⟩
  · have b1 : (x.tmod y != 0) = true := bne_iff_ne.2 c0
    by_cases c1 : x.tmod y < 0 <;> by_cases c2 : y < 0
    · rw [if_neg (by omega)] at hf
      rw [hf]
      clear hf hfit hy
      go_enter Tryz.func48, Tryz.ntmps48
      go_wp2_with (first | (go_at_call 27; refine (number_any _ _).mono ?_; rintro e w1 ⟨rfl, hb⟩; obtain ⟨hc, hf⟩ := bcell hb) | (go_at_call 29; refine (bad_any _ _).mono ?_; rintro e w1 ⟨rfl, hb⟩; obtain ⟨hc, hf⟩ := bcell hb))
      exact bodyPost_ret (v := V 1 (x.tmod y) nul) (by simp [results, Tryz.results48, go_sem, hc]) rfl ⟨rfl, by (repeat (first | exact Below.refl _ _ | (refine Below.setCell ?_ (by simp) _) | (refine Below.alloc ?_ (by simp) _) | (refine Below.drew ?_) | (refine Below.trans ?_ (Below.mono (by assumption) (by simp)))))⟩
    · rw [if_pos (by omega)] at hf
      have ew : wrap64 (x.tmod y + y) = x.tmod y + y := wrap_in (by rw [← hf]; exact hfit)
      rw [hf]
      clear hf hfit hy
      go_enter Tryz.func48, Tryz.ntmps48
      go_wp2_with (first | (go_at_call 27; refine (number_any _ _).mono ?_; rintro e w1 ⟨rfl, hb⟩; obtain ⟨hc, hf⟩ := bcell hb) | (go_at_call 29; refine (bad_any _ _).mono ?_; rintro e w1 ⟨rfl, hb⟩; obtain ⟨hc, hf⟩ := bcell hb))
      exact bodyPost_ret (v := V 1 (x.tmod y + y) nul) (by simp [results, Tryz.results48, go_sem, hc]) rfl ⟨rfl, by (repeat (first | exact Below.refl _ _ | (refine Below.setCell ?_ (by simp) _) | (refine Below.alloc ?_ (by simp) _) | (refine Below.drew ?_) | (refine Below.trans ?_ (Below.mono (by assumption) (by simp)))))⟩
    · rw [if_pos (by omega)] at hf
      have ew : wrap64 (x.tmod y + y) = x.tmod y + y := wrap_in (by rw [← hf]; exact hfit)
      rw [hf]
      clear hf hfit hy
      go_enter Tryz.func48, Tryz.ntmps48
      go_wp2_with (first | (go_at_call 27; refine (number_any _ _).mono ?_; rintro e w1 ⟨rfl, hb⟩; obtain ⟨hc, hf⟩ := bcell hb) | (go_at_call 29; refine (bad_any _ _).mono ?_; rintro e w1 ⟨rfl, hb⟩; obtain ⟨hc, hf⟩ := bcell hb))
      exact bodyPost_ret (v := V 1 (x.tmod y + y) nul) (by simp [results, Tryz.results48, go_sem, hc]) rfl ⟨rfl, by (repeat (first | exact Below.refl _ _ | (refine Below.setCell ?_ (by simp) _) | (refine Below.alloc ?_ (by simp) _) | (refine Below.drew ?_) | (refine Below.trans ?_ (Below.mono (by assumption) (by simp)))))⟩
    · rw [if_neg (by omega)] at hf
      rw [hf]
      clear hf hfit hy
      go_enter Tryz.func48, Tryz.ntmps48
      go_wp2_with (first | (go_at_call 27; refine (number_any _ _).mono ?_; rintro e w1 ⟨rfl, hb⟩; obtain ⟨hc, hf⟩ := bcell hb) | (go_at_call 29; refine (bad_any _ _).mono ?_; rintro e w1 ⟨rfl, hb⟩; obtain ⟨hc, hf⟩ := bcell hb))
      exact bodyPost_ret (v := V 1 (x.tmod y) nul) (by simp [results, Tryz.results48, go_sem, hc]) rfl ⟨rfl, by (repeat (first | exact Below.refl _ _ | (refine Below.setCell ?_ (by simp) _) | (refine Below.alloc ?_ (by simp) _) | (refine Below.drew ?_) | (refine Below.trans ?_ (Below.mono (by assumption) (by simp)))))⟩
end Go.Proofs.YtgoadofnfaidcaaGreatDoor.ring
