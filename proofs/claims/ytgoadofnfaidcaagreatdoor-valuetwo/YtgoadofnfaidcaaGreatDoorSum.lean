/- Whole numbers with their signs: which of two is greater, and the sum of two. Conditions: as each theorem says. -/
import Derived.Test.YtgoadofnfaidcaaGreatDoorSub
import Derived.Test.YtgoadofnfaidcaaGreatDoorIntAdd
namespace Go.Proofs.YtgoadofnfaidcaaGreatDoor
open Go.RowKit
theorem val_top {f g : Nat → Nat} {k : Nat} : ∀ n, k ≤ n → (∀ i, k ≤ i → i < n → f i = g i) → valN n f + valN k g = valN n g + valN k f
  | 0, h, _ => by
    obtain rfl : k = 0 := by omega
    rfl
  | n + 1, h, he => by
    by_cases q : k = n + 1
    · subst q; omega
    · have := val_top n (by omega) (fun i h1 h2 => he i h1 (by omega))
      show valN n f + f n * W32 ^ n + valN k g = valN n g + g n * W32 ^ n + valN k f
      rw [he n (by omega) (by omega)]
      omega
theorem val_less {f g : Nat → Nat} {n j : Nat} (hj : j < n) (he : ∀ i, j + 1 ≤ i → i < n → f i = g i) (hl : f j < g j) (hw : ∀ i, i < n → f i < W32) : valN n f < valN n g := by
  have h1 := val_top (k := j + 1) n hj he
  have h2 := valN_lt j f (fun i hi => hw i (by omega))
  have h3 : valN (j + 1) f = valN j f + f j * W32 ^ j := rfl
  have h4 : valN (j + 1) g = valN j g + g j * W32 ^ j := rfl
  have h5 : (f j + 1) * W32 ^ j ≤ g j * W32 ^ j := Nat.mul_le_mul_right _ hl
  rw [Nat.add_mul, Nat.one_mul] at h5
  omega
theorem val_short {f g : Nat → Nat} {n m : Nat} (h : n < m) (hf : ∀ i, i < n → f i < W32) (hg : Norm m g) : valN n f < valN m g := by
  obtain ⟨k, rfl⟩ : ∃ k, m = k + 1 := ⟨m - 1, by omega⟩
  have h1 := valN_lt n f hf
  have h2 := valN_ge (hg k rfl)
  have h3 : W32 ^ n ≤ W32 ^ k := Nat.pow_le_pow_right (by decide) (by omega)
  omega
theorem cmpI_lt {x y : Nat} (h : x < y) : cmpI x y = -1 := by unfold cmpI; rw [if_pos (by omega)]
theorem cmpI_gt {x y : Nat} (h : y < x) : cmpI x y = 1 := by unfold cmpI; rw [if_neg (by omega), if_pos (by omega)]
theorem cmpI_eq {x y : Nat} (h : x = y) : cmpI x y = 0 := by unfold cmpI; rw [if_neg (by omega), if_neg (by omega)]
theorem bdrewN {B : Nat} {a w : World} (h : Below B a w) (n : Nat) : Below B a (w.drewN n) := ⟨h.os, h.tape, h.output, h.size, h.block⟩
set_option maxRecDepth 100000 in
set_option maxHeartbeats 8000000 in
theorem cmp_any (v1 v2 : Value) (n m : Nat) (f g : Nat → Nat) (w : World) (h1 : Rd w v1 n f) (h2 : Rd w v2 m g) (hn1 : Norm n f) (hn2 : Norm m g) :
    Calls Tryz.prog 91 #[v1, v2] w fun e w' => e = .returned (.int .i64 (cmpI (valN n f : Nat) (valN m g : Nat))) ∧ Below w.heap.size w w' := by
  have hw1 := h1.word
  have hw2 := h2.word
  obtain ⟨A1, cap1, rfl, hl1, hA1⟩ := h1.view
  obtain ⟨A2, cap2, rfl, hl2, hA2⟩ := h2.view
  clear h1 h2
  by_cases q1 : n < m
  · rw [cmpI_lt (val_short q1 hw1 hn2)]
    have hne : ((n : Int) != (m : Int)) = true := by rw [bne_iff_ne]; omega
    clear hA1 hA2 hw1 hw2 hn1 hn2
    go_enter Tryz.func91, Tryz.ntmps91
    go_wp2_with fail
    go_ret
    exact ⟨rfl, Below.refl _ _⟩
  by_cases q2 : m < n
  · rw [cmpI_gt (val_short q2 hw2 hn1)]
    have hne : ((n : Int) != (m : Int)) = true := by rw [bne_iff_ne]; omega
    clear hA1 hA2 hw1 hw2 hn1 hn2
    go_enter Tryz.func91, Tryz.ntmps91
    go_wp2_with fail
    go_ret
    exact ⟨rfl, Below.refl _ _⟩
  obtain rfl : n = m := by omega
  clear q1 q2 hn1 hn2
  have HW1 : Hid (∀ i, i < n → f i < W32) := hw1
  have HW2 : Hid (∀ i, i < n → g i < W32) := hw2
  clear hw1 hw2
  go_enter Tryz.func91, Tryz.ntmps91
  go_wp2_with fail
  go_loopw [5] (fun i wr => ∃ k q : Nat, k ≤ n ∧ i = .int .i64 ((k : Int) - 1) ∧ Hid (∀ j, k ≤ j → j < n → f j = g j) ∧ wr = w.drewN q) (fun i _ => (intOf i + 1).toNat)
  case atStart => exact ⟨n, 0, Nat.le_refl _, rfl, fun j h1 h2 => absurd h1 (by omega), rfl⟩
  case round =>
    obtain ⟨k, q, hk, rfl, he, rfl⟩ := hrel
    match k, hk, he with
    | 0, hk, he =>
      have HE : Hid (valN n f = valN n g) := by
        have := val_top (f := f) (g := g) (k := 0) n (Nat.zero_le _) (fun i a b => he.out i a b)
        simp only [valN] at this
        unfold Hid
        omega
      clear hA1 hA2
      go_wp2_with fail
      go_ret
      exact ⟨by rw [cmpI_eq HE.out]; rfl, bdrewN (Below.refl _ _) q⟩
    | j + 1, hk, he =>
      obtain ⟨b1, rfl, hb1, hc1⟩ := hA1 (by omega)
      obtain ⟨b2, rfl, hb2, hc2⟩ := hA2 (by omega)
      obtain ⟨c1, hf⟩ := hc1 j (by omega)
      obtain ⟨c2, hg⟩ := hc2 j (by omega)
      have ej : (((j + 1 : Nat) : Int) - 1) = (j : Int) := by omega
      rw [ej]
      have hjn : (j : Int) < (n : Int) := by omega
      clear hc1 hc2 hA1 hA2
      by_cases q0 : f j = g j
      · have hne : (((f j : Nat) : Int) != ((g j : Nat) : Int)) = false := by rw [bne_eq_false_iff_eq]; omega
        have HE : Hid (∀ i, j ≤ i → i < n → f i = g i) := fun i a b => by
          by_cases qq : i = j
          · subst qq; exact q0
          · exact he.out i (by omega) b
        clear q0 he
        go_wp2_with fail
        go_quiet (fail)
        go_wp2_with fail
        exact ⟨⟨j, _, by omega, rfl, HE, rfl⟩, by simp [intOf]⟩
      · have hne : (((f j : Nat) : Int) != ((g j : Nat) : Int)) = true := by rw [bne_iff_ne]; omega
        by_cases q3 : f j < g j
        · have HL : Hid (valN n f < valN n g) := val_less (by omega) (fun i a b => he.out i a b) q3 HW1.out
          go_wp2_with fail
          go_quiet (fail)
          go_wp2_with fail
          go_quiet (fail)
          go_wp2_with fail
          go_ret
          exact ⟨by rw [cmpI_lt HL.out]; rfl, bdrewN (bdrewN (bdrewN (Below.refl _ _) _) _) _⟩
        · have HL : Hid (valN n g < valN n f) := val_less (by omega) (fun i a b => (he.out i a b).symm) (by omega) HW2.out
          have q4 : ¬ ((f j : Nat) : Int) < ((g j : Nat) : Int) := by omega
          go_wp2_with fail
          go_quiet (fail)
          go_wp2_with fail
          go_quiet (fail)
          go_wp2_with fail
          go_ret
          exact ⟨by rw [cmpI_gt HL.out]; rfl, bdrewN (bdrewN (bdrewN (Below.refl _ _) _) _) _⟩
/-- A number with its sign. -/
def sv (neg : Bool) (x : Nat) : Int := if neg = true then -(x : Int) else (x : Int)
theorem le_of_norm {f g : Nat → Nat} {n m : Nat} (hf : ∀ i, i < n → f i < W32) (hg : Norm m g) (h : valN m g ≤ valN n f) : m ≤ n := by
  by_cases q : m ≤ n
  · exact q
  · exact absurd (val_short (by omega) hf hg) (by omega)
set_option maxRecDepth 100000 in
set_option maxHeartbeats 4000000 in
theorem sum_any (xn yn : Bool) (v1 v2 : Value) (n m : Nat) (f g : Nat → Nat) (w : World) (h1 : Rd w v1 n f) (h2 : Rd w v2 m g) (hn1 : Norm n f) (hn2 : Norm m g) (hn : n ≤ 17592186044416) (hm : m ≤ 17592186044416) :
    Calls Tryz.prog 74 #[.bool xn, v1, .bool yn, v2] w fun e w' => (∃ s v z, e = .returned (.tuple #[.bool s, v]) ∧ Num w' v z ∧ sv s z = sv xn (valN n f) + sv yn (valN m g)) ∧ Below w.heap.size w w' := by
  by_cases hs : xn = yn
  · subst hs
    refine (sum_same xn v1 v2 n m f g w h1 h2 hn hm).mono ?_
    rintro e w1 ⟨⟨v, rfl, hv⟩, b1⟩
    exact ⟨⟨xn, v, _, rfl, hv, by unfold sv; cases xn <;> simp <;> omega⟩, b1⟩
  · have hne : (xn == yn) = false := beq_eq_false_iff_ne.2 hs
    have hw1 := h1.word
    have hw2 := h2.word
    have HS : Hid (xn ≠ yn) := hs
    clear hs
    by_cases hc : valN m g ≤ valN n f
    · have hcm : (0 : Int) ≤ cmpI (valN n f : Nat) (valN m g : Nat) := by
        unfold cmpI
        rw [if_neg (by omega)]
        split <;> omega
      have hmn := le_of_norm hw1 hn2 hc
      go_enter Tryz.func74, Tryz.ntmps74
      go_wp2_with fail
      refine (cmp_any v1 v2 n m f g _ h1 h2 hn1 hn2).mono ?_
      rintro e w1 ⟨rfl, b1⟩
      go_wp2_with fail
      refine (sub_any v1 v2 n m f g _ (h1.below b1) (h2.below b1) hmn hc).mono ?_
      rintro e w2 ⟨⟨v, rfl, hv⟩, b2⟩
      go_wp2_with fail
      go_ret2
      exact ⟨⟨xn, v, _, rfl, hv, by have := HS.out; unfold sv; cases xn <;> cases yn <;> simp at * <;> omega⟩, bnext b1 b2 b1.size⟩
    · have hcm : ¬ (0 : Int) ≤ cmpI (valN n f : Nat) (valN m g : Nat) := by
        rw [cmpI_lt (by omega)]
        omega
      have hmn := le_of_norm hw2 hn1 (show valN n f ≤ valN m g by omega)
      have hc' : valN n f ≤ valN m g := by omega
      go_enter Tryz.func74, Tryz.ntmps74
      go_wp2_with fail
      refine (cmp_any v1 v2 n m f g _ h1 h2 hn1 hn2).mono ?_
      rintro e w1 ⟨rfl, b1⟩
      go_wp2_with fail
      refine (sub_any v2 v1 m n g f _ (h2.below b1) (h1.below b1) hmn hc').mono ?_
      rintro e w2 ⟨⟨v, rfl, hv⟩, b2⟩
      go_wp2_with fail
      go_ret2
      exact ⟨⟨yn, v, _, rfl, hv, by have := HS.out; unfold sv; cases xn <;> cases yn <;> simp at * <;> omega⟩, bnext b1 b2 b1.size⟩
end Go.Proofs.YtgoadofnfaidcaaGreatDoor
