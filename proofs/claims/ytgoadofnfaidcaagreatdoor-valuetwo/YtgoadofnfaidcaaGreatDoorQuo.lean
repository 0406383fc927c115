/- Quotients and rests of whole numbers with their signs. Conditions: as each theorem says. -/
import Derived.Test.YtgoadofnfaidcaaGreatDoorDiv
namespace Go.Proofs.YtgoadofnfaidcaaGreatDoor
open Go.RowKit
theorem BigInt.off {w : World} {b : Nat} {neg : Bool} {x : Nat} (h : BigInt w b neg x) {bz i : Nat} {z0 : Bool} (hne : bz ≠ b) (hz : w.cell? ⟨bz, 0, none⟩ = some (.bool z0)) (u : Value) : BigInt (w.setCell ⟨bz, i, none⟩ u) b neg x := by
  obtain ⟨h1, h2, ⟨v0, h3, h4⟩, h5⟩ := h
  have hb : (w.setCell ⟨bz, i, none⟩ u).heap[b]? = w.heap[b]? := Below.heap_setCell _ _ _ _ (Ne.symm hne)
  have hc : ∀ o, (w.setCell ⟨bz, i, none⟩ u).cell? ⟨b, o, none⟩ = w.cell? ⟨b, o, none⟩ := fun o => World.cell?_of_block (a := ⟨b, o, none⟩) hb
  exact ⟨by simpa using h1, by rw [hc]; exact h2, ⟨v0, by rw [hc]; exact h3, h4.other hz u⟩, fun o => by rw [World.frozen?_of_block (a := ⟨b, o, none⟩) hb]; exact h5 o⟩
/-- give, and what else stays. -/
theorem give_more (bz : Nat) (neg : Bool) (v : Value) (x : Nat) (w : World) (zn : Bool) (zx : Nat) (hz : BigInt w bz zn zx) (hv : Num w v x) :
    Calls Tryz.prog 73 #[ptr bz, .bool neg, v] w fun e w' => e = .returned (ptr bz) ∧ BigInt w' bz (neg && decide (x ≠ 0)) x ∧ (∀ B, B ≤ bz → Below B w w') ∧ (∀ u y, Num w u y → Num w' u y) ∧ (∀ b nb y, bz ≠ b → BigInt w b nb y → BigInt w' b nb y) := by
  obtain ⟨A, n, c, rfl, hn, hx⟩ := hv.shape
  obtain ⟨z1, hz1, _⟩ := hz.c1
  refine (give_walk bz neg A n c w zn z1 hz.c0 hz1 hz.free hn).mono ?_
  rintro e w' ⟨rfl, rfl⟩
  have e0 : (w.setCell ⟨bz, 1, none⟩ (.slice A n c)).cell? ⟨bz, 0, none⟩ = some (.bool zn) := by rw [cell_set_off (by omega)]; exact hz.c0
  refine ⟨rfl, ?_, fun B hB => (((Below.refl _ _).setCell (by exact hB) _).setCell (by exact hB) _), fun u y h => (h.other hz.c0 _).other e0 _, fun b nb y hne h => (h.off hne hz.c0 _).off hne e0 _⟩
  have : (neg && decide (0 < n)) = (neg && decide (x ≠ 0)) := by
    congr 1
    exact decide_eq_decide.2 hx
  rw [this]
  exact hz.put hv _
set_option maxRecDepth 100000 in
set_option maxHeartbeats 40000000 in
theorem quoRem_any (bz bx b2 br x y zx rx : Nat) (zn xn yn rn : Bool) (w : World) (hz : BigInt w bz zn zx) (hx : BigInt w bx xn x) (hy : BigInt w b2 yn y) (hr : BigInt w br rn rx) (hne : bz ≠ br) (hx64 : x < 18446744073709551616) (hy0 : y ≠ 0) (hy64 : y < 18446744073709551616) :
    Calls Tryz.prog 72 #[ptr bz, ptr bx, ptr b2, ptr br] w fun e w' => e = .returned (.tuple #[ptr bz, ptr br]) ∧ BigInt w' bz ((xn != yn) && decide (x / y ≠ 0)) (x / y) ∧ BigInt w' br (xn && decide (x % y ≠ 0)) (x % y) ∧ ∀ B, B ≤ bz → B ≤ br → Below B w w' := by
  obtain ⟨vx, hx1, n, f, hx2, hx3, hx4⟩ := hx.c1
  obtain ⟨vy, hy1, m, g, hy2, hy3, hy4⟩ := hy.c1
  have hn := two_words hx3 hx4 hx64
  have hm := two_words hy3 hy4 hy64
  have hm1 : 1 ≤ m := by
    rcases Nat.eq_zero_or_pos m with q | q
    · subst q; exact absurd hy4.symm hy0
    · exact q
  have hx0 := hx.c0
  have hy0' := hy.c0
  have hltz := hz.lt
  have hltx := hx.lt
  have hlty := hy.lt
  have hltr := hr.lt
  have HDiv : Hid (∀ W, Below w.heap.size w W → Calls Tryz.prog 89 #[vx, vy] W fun e w' => (∃ q r, e = .returned (.tuple #[q, r]) ∧ Num w' q (x / y) ∧ Num w' r (x % y)) ∧ Below W.heap.size W w') := fun W hb =>
    div_small vx vy n m f g x y W (hx2.below hb) (hy2.below hb) hx3 hy3 hn hm hm1 hx4 hy4 hx64 hy0 hy64
  clear hx2 hx3 hx4 hy2 hy3 hy4
  go_enter Tryz.func72, Tryz.ntmps72
  go_upto_region 1 with fail
  go_cut [10, 11] (fun s10 s11 wx => s10 = .bool xn ∧ s11 = .bool yn ∧ Below w.heap.size w wx)
  case first =>
    go_quiet (fail)
    go_wp2_with fail
    go_meet
    case rel => exact ⟨rfl, rfl, bdrewN (Below.refl _ _) _⟩
  case rest =>
  obtain ⟨rfl, rfl, hB⟩ := hcut
  go_upto_region 2 with fail
  go_cut [12, 13] (fun s12 s13 wx => Num wx s12 (x / y) ∧ Num wx s13 (x % y) ∧ Below w.heap.size w wx)
  case first =>
    have c1 : wc.cell? ⟨bx, 1, none⟩ = some vx := by rw [hB.cell hltx]; exact hx1
    have c2 : wc.cell? ⟨b2, 1, none⟩ = some vy := by rw [hB.cell hlty]; exact hy1
    have hBd : Below w.heap.size w wc.drew := bnext hB (drew_below wc) hB.size
    go_region_with (go_at_call 89; refine (HDiv.out _ hBd).mono ?_; rintro e w1 ⟨⟨q, r, rfl, hq, hrr⟩, b1⟩)
    all_goals
      go_wp2_with fail
      go_meet
      case rel => exact ⟨hq, hrr, bnext hBd b1 hBd.size⟩
  case rest =>
  clear hB
  obtain ⟨hq, hrr, hB⟩ := hcut
  have hz1 := hz.below hB
  have hr1 := hr.below hB
  have hbs := hB.size
  go_wp2_with fail
  refine (give_more bz (xn != yn) _ _ _ _ _ hz1 hq).mono ?_
  rintro e w2 ⟨rfl, hz2, q2, k2, m2⟩
  have hr2 := m2 br _ _ hne hr1
  have hrr2 := k2 _ _ hrr
  clear hq hrr k2 m2 hz1 hr1 hz hr
  go_wp2_with fail
  refine (give_more br xn _ _ _ _ _ hr2 hrr2).mono ?_
  rintro e w3 ⟨rfl, hr3, q3, k3, m3⟩
  have hz3 := m3 bz _ _ (Ne.symm hne) hz2
  clear k3 m3 hr2 hrr2 hz2
  go_wp2_with fail
  go_ret2
  exact ⟨rfl, hz3, hr3, fun B h1 h2 => (hB.mono (by omega)).trans ((q2 B h1).trans (q3 B h2))⟩
set_option maxHeartbeats 4000000 in
theorem quo_any (bz bx b2 x y zx : Nat) (zn xn yn : Bool) (w : World) (hz : BigInt w bz zn zx) (hx : BigInt w bx xn x) (hy : BigInt w b2 yn y) (hx64 : x < 18446744073709551616) (hy0 : y ≠ 0) (hy64 : y < 18446744073709551616) :
    Calls Tryz.prog 64 #[ptr bz, ptr bx, ptr b2] w fun e w' => e = .returned (ptr bz) ∧ BigInt w' bz ((xn != yn) && decide (x / y ≠ 0)) (x / y) ∧ ∀ B, B ≤ bz → Below B w w' := by
  have hA : Below w.heap.size w (w.alloc (.cells #[.bool false, .slice none 0 0] 53)) := (Below.refl _ _).alloc (Nat.le_refl _) _
  have hlt := hz.lt
  have HQ : Hid (Calls Tryz.prog 72 #[ptr bz, ptr bx, ptr b2, ptr w.heap.size] (w.alloc (.cells #[.bool false, .slice none 0 0] 53)) fun e w' => e = .returned (.tuple #[ptr bz, ptr w.heap.size]) ∧ BigInt w' bz ((xn != yn) && decide (x / y ≠ 0)) (x / y) ∧ BigInt w' w.heap.size (xn && decide (x % y ≠ 0)) (x % y) ∧ ∀ B, B ≤ bz → B ≤ w.heap.size → Below B (w.alloc (.cells #[.bool false, .slice none 0 0] 53)) w') :=
    quoRem_any bz bx b2 w.heap.size x y zx 0 zn xn yn false _ (hz.below hA) (hx.below hA) (hy.below hA) (BigInt.new _ _) (by omega) hx64 hy0 hy64
  clear hz hx hy
  go_enter Tryz.func64, Tryz.ntmps64
  go_wp2_with fail
  refine HQ.out.mono ?_
  rintro e w1 ⟨rfl, h1, _, q1⟩
  go_wp2_with fail
  go_ret
  exact ⟨rfl, h1, fun B hB => (hA.mono (by omega)).trans (q1 B hB (by omega))⟩
set_option maxHeartbeats 4000000 in
theorem rem_any (bz bx b2 x y zx : Nat) (zn xn yn : Bool) (w : World) (hz : BigInt w bz zn zx) (hx : BigInt w bx xn x) (hy : BigInt w b2 yn y) (hx64 : x < 18446744073709551616) (hy0 : y ≠ 0) (hy64 : y < 18446744073709551616) :
    Calls Tryz.prog 50 #[ptr bz, ptr bx, ptr b2] w fun e w' => e = .returned (ptr bz) ∧ BigInt w' bz (xn && decide (x % y ≠ 0)) (x % y) ∧ ∀ B, B ≤ bz → Below B w w' := by
  have hA : Below w.heap.size w (w.alloc (.cells #[.bool false, .slice none 0 0] 53)) := (Below.refl _ _).alloc (Nat.le_refl _) _
  have hlt := hz.lt
  have HQ : Hid (Calls Tryz.prog 72 #[ptr w.heap.size, ptr bx, ptr b2, ptr bz] (w.alloc (.cells #[.bool false, .slice none 0 0] 53)) fun e w' => e = .returned (.tuple #[ptr w.heap.size, ptr bz]) ∧ BigInt w' w.heap.size ((xn != yn) && decide (x / y ≠ 0)) (x / y) ∧ BigInt w' bz (xn && decide (x % y ≠ 0)) (x % y) ∧ ∀ B, B ≤ w.heap.size → B ≤ bz → Below B (w.alloc (.cells #[.bool false, .slice none 0 0] 53)) w') :=
    quoRem_any w.heap.size bx b2 bz x y 0 zx false xn yn zn _ (BigInt.new _ _) (hx.below hA) (hy.below hA) (hz.below hA) (by omega) hx64 hy0 hy64
  clear hz hx hy
  go_enter Tryz.func50, Tryz.ntmps50
  go_wp2_with fail
  refine HQ.out.mono ?_
  rintro e w1 ⟨rfl, _, h1, q1⟩
  go_wp2_with fail
  go_ret
  exact ⟨rfl, h1, fun B hB => (hA.mono (by omega)).trans (q1 B (by omega) hB)⟩
end Go.Proofs.YtgoadofnfaidcaaGreatDoor
