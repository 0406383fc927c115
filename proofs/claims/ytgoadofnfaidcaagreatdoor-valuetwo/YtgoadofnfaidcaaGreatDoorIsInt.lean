/- IsInt64: whether a whole number has 64 bits. Conditions: as each theorem says. -/
import Derived.Test.YtgoadofnfaidcaaGreatDoorFit
namespace Go.Proofs.YtgoadofnfaidcaaGreatDoor
open Go.RowKit
/-- A length is told. -/
def Len (v : Value) (L : Nat) (w : World) : Prop := Calls Tryz.prog 104 #[v] w fun e w' => e = .returned (.int .i64 (L : Nat)) ∧ w' = w
set_option maxRecDepth 100000 in
set_option maxHeartbeats 2000000 in
theorem isInt_short (bz : Nat) (v : Value) (L : Nat) (w : World) (h1 : w.cell? ⟨bz, 1, none⟩ = some v) (hv : ∃ A n c, v = .slice A n c) (hL : Len v L w) (hl : L < 64) :
    Calls Tryz.prog 86 #[ptr bz] w fun e w' => e = .returned (.bool true) ∧ w' = w := by
  obtain ⟨A, n, c, rfl⟩ := hv
  go_enter Tryz.func86, Tryz.ntmps86
  go_wp2_with fail
  refine Calls.mono hL ?_
  rintro e w1 ⟨rfl, rfl⟩
  go_wp2_with fail
  go_ret
  exact ⟨rfl, rfl⟩
set_option maxRecDepth 100000 in
set_option maxHeartbeats 2000000 in
theorem isInt_long (bz : Nat) (v : Value) (L : Nat) (w : World) (h1 : w.cell? ⟨bz, 1, none⟩ = some v) (hv : ∃ A n c, v = .slice A n c) (hL : Len v L w) (hl : 64 < L) (hl2 : L ≤ 9223372036854775807) :
    Calls Tryz.prog 86 #[ptr bz] w fun e w' => e = .returned (.bool false) ∧ w' = w := by
  obtain ⟨A, n, c, rfl⟩ := hv
  have hb : ((L : Int) == 64) = false := beq_eq_false_iff_ne.2 (by omega)
  have hb2 : decide ((L : Int) < 64) = false := decide_eq_false (by omega)
  go_enter Tryz.func86, Tryz.ntmps86
  go_wp2_with fail
  refine Calls.mono hL ?_
  rintro e w1 ⟨rfl, rfl⟩
  go_wp2_with fail
  go_ret
  exact ⟨rfl, rfl⟩
set_option maxRecDepth 100000 in
set_option maxHeartbeats 2000000 in
theorem isInt_64p (bz : Nat) (v : Value) (w : World) (h0 : w.cell? ⟨bz, 0, none⟩ = some (.bool false)) (h1 : w.cell? ⟨bz, 1, none⟩ = some v) (hv : ∃ A n c, v = .slice A n c) (hL : Len v 64 w) :
    Calls Tryz.prog 86 #[ptr bz] w fun e w' => e = .returned (.bool false) ∧ w' = w := by
  obtain ⟨A, n, c, rfl⟩ := hv
  go_enter Tryz.func86, Tryz.ntmps86
  go_wp2_with fail
  refine Calls.mono hL ?_
  rintro e w1 ⟨rfl, rfl⟩
  go_wp2_with fail
  go_ret
  exact ⟨rfl, rfl⟩
set_option maxRecDepth 100000 in
set_option maxHeartbeats 2000000 in
theorem isInt_64n (bz : Nat) (R : Bool) (P : Nat → Prop) (v : Value) (w : World) (h0 : w.cell? ⟨bz, 0, none⟩ = some (.bool true)) (h1 : w.cell? ⟨bz, 1, none⟩ = some v) (hv : ∃ A n c, v = .slice A n c) (hL : Len v 64 w) (hT : Calls Tryz.prog 105 #[ptr bz] w fun e w' => (∃ t : Nat, e = .returned (.int .u64 t) ∧ t ≤ 63 ∧ P t) ∧ w' = w) (hR : ∀ t : Nat, t ≤ 63 → P t → ((t : Int) == 63) = R) :
    Calls Tryz.prog 86 #[ptr bz] w fun e w' => e = .returned (.bool R) ∧ w' = w := by
  obtain ⟨A, n, c, rfl⟩ := hv
  have HT : Hid (Calls Tryz.prog 105 #[ptr bz] w fun e w' => (∃ t : Nat, e = .returned (.int .u64 t) ∧ t ≤ 63 ∧ P t) ∧ w' = w) := hT
  have HR : Hid (∀ t : Nat, t ≤ 63 → P t → ((t : Int) == 63) = R) := hR
  clear hT hR
  go_enter Tryz.func86, Tryz.ntmps86
  go_wp2_with fail
  refine Calls.mono hL ?_
  rintro e w1 ⟨rfl, rfl⟩
  go_wp2_with fail
  refine HT.out.mono ?_
  rintro e w2 ⟨⟨t, rfl, ht, hp⟩, rfl⟩
  have hb := HR.out t ht hp
  clear hp
  go_wp2_with fail
  go_ret
  exact ⟨rfl, rfl⟩
/-- All lower bits noughts: a power of two. -/
theorem low_zero {x : Nat} : ∀ t, (∀ i, i < t → x / 2 ^ i % 2 = 0) → x % 2 ^ t = 0
  | 0, _ => by simp [Nat.mod_one]
  | t + 1, h => by
    have ih := low_zero t (fun i hi => h i (by omega))
    have h2 := h t (by omega)
    rw [Nat.pow_succ, Nat.mod_mul, ih, h2]
    simp
theorem isInt_any (bz x : Nat) (neg : Bool) (w : World) (hz : BigInt w bz neg x) :
    Calls Tryz.prog 86 #[ptr bz] w fun e w' => e = .returned (.bool (fitI neg x)) ∧ w' = w := by
  obtain ⟨v, h1, n, f, h2, h3, h4⟩ := hz.c1
  have hd := h2.word
  match n, h2, h3, h4, hd with
  | 0, h2, h3, h4, hd =>
    have hx : x = 0 := h4.symm
    subst hx
    have : fitI neg 0 = true := by simp [fitI]
    rw [this]
    rcases h2 with ⟨rfl, _⟩ | ⟨b, cap, rfl, _⟩
    · exact isInt_short bz _ 0 w h1 ⟨_, _, _, rfl⟩ (length_zero _ _ w) (by omega)
    · exact isInt_short bz _ 0 w h1 ⟨_, _, _, rfl⟩ (length_zero _ _ w) (by omega)
  | n + 1, h2, h3, h4, hd =>
    rcases h2 with ⟨_, q⟩ | ⟨b, cap, rfl, h5⟩
    · omega
    have hL : Len (.slice (some ⟨b, 0, none⟩) (n + 1) cap) (bits (n + 1) f) w := length_some b n cap f w h5
    obtain ⟨v1, v2⟩ := bits_val hd h3 h4
    have hlim := h5.lim
    have hle := h5.le
    have hb32 : blen 32 (f n) ≤ 32 := (blen_lt 32 (f n) (hd n (by omega))).2.2
    have eb : bits (n + 1) f = n * 32 + blen 32 (f n) := rfl
    by_cases c1 : bits (n + 1) f < 64
    · have : fitI neg x = true := by
        have h6 : 2 ^ bits (n + 1) f ≤ 2 ^ 63 := Nat.pow_le_pow_right (by decide) (by omega)
        have h7 : (2 : Nat) ^ 63 = 9223372036854775808 := by decide
        have : x < 9223372036854775808 := by omega
        simp [fitI, this]
      rw [this]
      exact isInt_short bz _ _ w h1 ⟨_, _, _, rfl⟩ hL c1
    by_cases c2 : bits (n + 1) f = 64
    · have h7 : (2 : Nat) ^ 63 = 9223372036854775808 := by decide
      have h8 : (2 : Nat) ^ 64 = 18446744073709551616 := by decide
      rw [c2] at v1 v2 hL
      have v3 : 9223372036854775808 ≤ x := by rw [← h7]; exact v2
      have v4 : x < 18446744073709551616 := by rw [← h8]; exact v1
      cases neg
      · have : fitI false x = false := by simp [fitI]; omega
        rw [this]
        exact isInt_64p bz _ w hz.c0 h1 ⟨_, _, _, rfl⟩ hL
      · have hn2 := two_words h3 h4 v4
        have hn1 : n = 1 := by
          rcases Nat.eq_zero_or_pos n with q | q
          · subst q
            omega
          · omega
        subst hn1
        have hx : x = f 0 + f 1 * 4294967296 := by
          have := h4
          simp [valN, W32] at this
          omega
        have htop : x / 2 ^ 63 % 2 = 1 := by rw [h7]; omega
        refine isInt_64n bz _ (fun t => x / 2 ^ t % 2 = 1 ∧ ∀ i, i < t → x / 2 ^ i % 2 = 0) _ w hz.c0 h1 ⟨_, _, _, rfl⟩ hL (tzb_64 bz b cap x f w h1 h5 hx htop) ?_
        rintro t ht ⟨p1, p2⟩
        by_cases ht2 : t = 63
        · subst ht2
          have hm := low_zero 63 p2
          rw [h7] at hm
          have : x = 9223372036854775808 := by omega
          simp [fitI, this]
        · have hne : x ≠ 9223372036854775808 := by
            intro e
            rw [e] at p1
            have e2 : (9223372036854775808 : Nat) = 2 ^ (63 - t) * 2 ^ t := by rw [← Nat.pow_add, ← h7]; congr 1; omega
            rw [e2, Nat.mul_div_cancel _ (Nat.pow_pos (by decide))] at p1
            have e3 : 63 - t = (62 - t) + 1 := by omega
            rw [e3, Nat.pow_succ] at p1
            omega
          have l1 : ((t : Int) == 63) = false := beq_eq_false_iff_ne.2 (by omega)
          rw [l1]
          simp [fitI, hne]
          omega
    · have : fitI neg x = false := by
        have h6 : 2 ^ 64 ≤ 2 ^ (bits (n + 1) f - 1) := Nat.pow_le_pow_right (by decide) (by omega)
        have h7 : (2 : Nat) ^ 64 = 18446744073709551616 := by decide
        simp [fitI]
        omega
      rw [this]
      exact isInt_long bz _ _ w h1 ⟨_, _, _, rfl⟩ hL (by omega) (by omega)
end Go.Proofs.YtgoadofnfaidcaaGreatDoor
