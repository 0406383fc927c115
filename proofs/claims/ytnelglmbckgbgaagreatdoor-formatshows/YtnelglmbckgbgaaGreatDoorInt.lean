
/- Whole numbers of any size as the reference keeps them: made, multiplied and added. Conditions: as each theorem says. -/
import Derived.Test.YtnelglmbckgbgaaGreatDoorBigMul
namespace Go.Proofs.YtnelglmbckgbgaaGreatDoor
open Go.RowKit
/-- A number: its sign, and its words. -/
structure BigInt (w : World) (b : Nat) (neg : Bool) (x : Nat) : Prop where
  lt : b < w.heap.size
  c0 : w.cell? ⟨b, 0, none⟩ = some (.bool neg)
  c1 : ∃ v, w.cell? ⟨b, 1, none⟩ = some v ∧ Num w v x
  free : ∀ i, w.frozen? ⟨b, i, none⟩ = false
theorem BigInt.below {w w' : World} {b : Nat} {neg : Bool} {x : Nat} (h : BigInt w b neg x) (hb : Below w.heap.size w w') : BigInt w' b neg x := by
  obtain ⟨h1, h2, ⟨v, h3, h4⟩, h5⟩ := h
  exact ⟨Nat.lt_of_lt_of_le h1 hb.size, by rw [hb.cell h1]; exact h2, ⟨v, by rw [hb.cell h1]; exact h3, h4.below hb⟩, fun i => by rw [hb.frozen h1]; exact h5 i⟩
theorem RdS.other {w : World} {b n cap : Nat} {f : Nat → Nat} (h : RdS w b n cap f) {bz i : Nat} {z0 : Bool} (hz : w.cell? ⟨bz, 0, none⟩ = some (.bool z0)) (u : Value) : RdS (w.setCell ⟨bz, i, none⟩ u) b n cap f := by
  refine ⟨h.le, h.lim, h.capl, by simpa using h.lt, ?_, h.word⟩
  intro j hj
  have hne : b ≠ bz := by
    rintro rfl
    have := h.cell 0 (by omega)
    rw [hz] at this
    cases this
  rw [← h.cell j hj]
  exact World.cell?_setCell_other _ _ _ _ (by intro q; injection q; omega)
theorem Num.other {w : World} {v : Value} {x : Nat} (h : Num w v x) {bz i : Nat} {z0 : Bool} (hz : w.cell? ⟨bz, 0, none⟩ = some (.bool z0)) (u : Value) : Num (w.setCell ⟨bz, i, none⟩ u) v x := by
  obtain ⟨n, f, h1, h2, h3⟩ := h
  refine ⟨n, f, ?_, h2, h3⟩
  rcases h1 with h1 | ⟨b, cap, e, h1⟩
  · exact Or.inl h1
  · exact Or.inr ⟨b, cap, e, h1.other hz u⟩
theorem cell_set_same {w : World} {b i : Nat} {u v : Value} (h : w.cell? ⟨b, i, none⟩ = some u) : (w.setCell ⟨b, i, none⟩ v).cell? ⟨b, i, none⟩ = some v := World.cell?_setCell_same' _ _ _ (by rw [h]; rfl)
theorem cell_set_off {w : World} {b i j : Nat} {v : Value} (h : i ≠ j) : (w.setCell ⟨b, i, none⟩ v).cell? ⟨b, j, none⟩ = w.cell? ⟨b, j, none⟩ := World.cell?_setCell_other _ _ _ _ (by intro q; injection q; omega)
/-- A number put in the place of another one. -/
theorem BigInt.put {w : World} {b : Nat} {neg : Bool} {x : Nat} (h : BigInt w b neg x) {v : Value} {y : Nat} (hv : Num w v y) (nb : Bool) : BigInt ((w.setCell ⟨b, 1, none⟩ v).setCell ⟨b, 0, none⟩ (.bool nb)) b nb y := by
  obtain ⟨h1, h2, ⟨v0, h3, h4⟩, h5⟩ := h
  have e0 : (w.setCell ⟨b, 1, none⟩ v).cell? ⟨b, 0, none⟩ = some (.bool neg) := by rw [cell_set_off (by omega)]; exact h2
  refine ⟨by simpa using h1, cell_set_same e0, ⟨v, ?_, (hv.other h2 v).other e0 _⟩, fun i => by simp [h5 i]⟩
  rw [cell_set_off (by omega)]
  exact cell_set_same h3
set_option maxHeartbeats 1000000 in
theorem give_walk (bz : Nat) (neg : Bool) (A : Option Addr) (n c : Nat) (w : World) (z0 : Bool) (z1 : Value) (h0 : w.cell? ⟨bz, 0, none⟩ = some (.bool z0)) (h1 : w.cell? ⟨bz, 1, none⟩ = some z1) (hf : ∀ i, w.frozen? ⟨bz, i, none⟩ = false) (_hn : n ≤ 17592186044420) :
    Calls Tryz.prog 22 #[ptr bz, .bool neg, .slice A n c] w fun e w' => e = .returned (ptr bz) ∧ w' = (w.setCell ⟨bz, 1, none⟩ (.slice A n c)).setCell ⟨bz, 0, none⟩ (.bool (neg && decide (0 < n))) := by
  have hf0 := hf 0
  have hf1 := hf 1
  clear hf
  cases neg
  · go_enter Tryz.func22, Tryz.ntmps22
    go_wp2
    go_ret
    exact ⟨rfl, rfl⟩
  · go_enter Tryz.func22, Tryz.ntmps22
    go_wp2
    go_ret
    exact ⟨rfl, by simp⟩
theorem Num.shape {w : World} {v : Value} {x : Nat} (h : Num w v x) : ∃ A n c, v = .slice A n c ∧ n ≤ 17592186044420 ∧ (0 < n ↔ x ≠ 0) := by
  obtain ⟨n, f, h1, h2, h3⟩ := h
  have hz : 0 < n ↔ x ≠ 0 := by
    constructor
    · intro hn e
      rw [e] at h3
      have := valN_zero h2 h3
      omega
    · intro hx
      rcases Nat.eq_zero_or_pos n with e | e
      · subst e; exact absurd h3.symm hx
      · exact e
  have hl := h1.lim
  rcases h1 with ⟨e, q⟩ | ⟨b, cap, e, _⟩
  · exact ⟨none, 0, 0, e, by omega, by rw [q] at hz; exact hz⟩
  · exact ⟨_, n, _, e, hl, hz⟩
/-- Int.give: z is that number. -/
theorem give_any (bz : Nat) (neg : Bool) (v : Value) (x : Nat) (w : World) (zn : Bool) (zx : Nat) (hz : BigInt w bz zn zx) (hv : Num w v x) :
    Calls Tryz.prog 22 #[ptr bz, .bool neg, v] w fun e w' => e = .returned (ptr bz) ∧ BigInt w' bz (neg && decide (x ≠ 0)) x ∧ ∀ B, B ≤ bz → Below B w w' := by
  obtain ⟨A, n, c, rfl, hn, hx⟩ := hv.shape
  obtain ⟨z1, hz1, _⟩ := hz.c1
  refine (give_walk bz neg A n c w zn z1 hz.c0 hz1 hz.free hn).mono ?_
  rintro e w' ⟨rfl, rfl⟩
  refine ⟨rfl, ?_, fun B hB => (((Below.refl _ _).setCell (by exact hB) _).setCell (by exact hB) _)⟩
  have : (neg && decide (0 < n)) = (neg && decide (x ≠ 0)) := by
    congr 1
    exact decide_eq_decide.2 hx
  rw [this]
  exact hz.put hv _
theorem BigInt.new (w : World) (t : TypeId) : BigInt (w.alloc (.cells #[.bool false, .slice none 0 0] t)) w.heap.size false 0 :=
  ⟨by simp, by simp, ⟨.slice none 0 0, by simp, 0, fun _ => 0, Or.inl ⟨rfl, rfl⟩, fun m h => by omega, rfl⟩, fun i => by simp⟩
set_option maxHeartbeats 1000000 in
theorem setInt_nn (bz x : Nat) (w : World) (zn : Bool) (zx : Nat) (hz : BigInt w bz zn zx) (hx : x < 9223372036854775808) :
    Calls Tryz.prog 21 #[ptr bz, .int .i64 x] w fun e w' => e = .returned (ptr bz) ∧ BigInt w' bz false x ∧ ∀ B, B ≤ bz → Below B w w' := by
  go_enter Tryz.func21, Tryz.ntmps21
  go_wp2_with fail
  refine (words_any x _ (by omega)).mono ?_
  rintro e w1 ⟨⟨v, rfl, hv⟩, b1⟩
  have hz1 := hz.below b1
  have hN := num_trim hv (word_val x)
  have hlt := hz.lt
  go_wp2_with fail
  refine (give_any bz false v x _ zn zx hz1 hN).mono ?_
  rintro e w2 ⟨rfl, hz2, b2⟩
  go_wp2_with fail
  go_ret
  exact ⟨rfl, hz2, fun B hB => (b1.mono (by omega)).trans (b2 B hB)⟩
set_option maxHeartbeats 1000000 in
theorem newInt_nn (x : Nat) (w : World) (hx : x < 9223372036854775808) :
    Calls Tryz.prog 13 #[.int .i64 x] w fun e w' => (∃ b, e = .returned (ptr b) ∧ w.heap.size ≤ b ∧ BigInt w' b false x) ∧ Below w.heap.size w w' := by
  have h0 := BigInt.new w 54
  go_enter Tryz.func13, Tryz.ntmps13
  go_wp2_with fail
  refine (setInt_nn _ x _ false 0 h0 hx).mono ?_
  rintro e w1 ⟨rfl, hz, b1⟩
  go_wp2_with fail
  go_ret
  exact ⟨⟨_, rfl, Nat.le_refl _, hz⟩, ((Below.refl _ _).alloc (Nat.le_refl _) _).trans (b1 _ (Nat.le_refl _))⟩
/-- Few enough words. -/
def Small (x : Nat) : Prop := ∀ (n : Nat) (f : Nat → Nat), Norm n f → valN n f = x → n ≤ 17592186044416
theorem two_words {n : Nat} {f : Nat → Nat} {x : Nat} (h : Norm n f) (hx : valN n f = x) (hl : x < 18446744073709551616) : n ≤ 2 := by
  match n, h, hx with
  | 0, _, _ => omega
  | 1, _, _ => omega
  | 2, _, _ => omega
  | n + 3, h, hx =>
    exfalso
    have h1 : W32 ^ (n + 2) ≤ valN (n + 3) f := valN_ge (h (n + 2) rfl)
    have h2 : W32 ^ 2 ≤ W32 ^ (n + 2) := Nat.pow_le_pow_right (by decide) (by omega)
    have h3 : W32 ^ 2 = 18446744073709551616 := by decide
    omega
theorem drew_below (w : World) : Below w.heap.size w w.drew := ⟨rfl, rfl, rfl, Nat.le_refl _, fun _ _ => rfl⟩
theorem keepc {w w1 : World} {b i : Nat} {u : Value} (h : w.cell? ⟨b, i, none⟩ = some u) (hl : b < w.heap.size) (hb : Below w.drew.heap.size w.drew w1) : w1.cell? ⟨b, i, none⟩ = some u := by
  rw [hb.cell (p := ⟨b, i, none⟩) hl]; exact h
end Go.Proofs.YtnelglmbckgbgaaGreatDoor
