/- The sum of whole numbers with their signs. Conditions: as the theorem says. -/
import Derived.Test.YtbiikodnfaeceaaGreatDoorSum
namespace Go.Proofs.YtbiikodnfaeceaaGreatDoor
open Go.RowKit
set_option maxRecDepth 100000 in
set_option maxHeartbeats 40000000 in
theorem addG (bz bx b2 x y zx : Nat) (zn xn yn : Bool) (w : World) (hz : BigInt w bz zn zx) (hx : BigInt w bx xn x) (hy : BigInt w b2 yn y) (hx64 : x < 18446744073709551616) (hy64 : y < 18446744073709551616) :
    Calls Tryz.prog 96 #[ptr bz, ptr bx, ptr b2] w fun e w' => e = .returned (ptr bz) ∧ (∃ s z, BigInt w' bz (s && decide (z ≠ 0)) z ∧ sv s z = sv xn x + sv yn y) ∧ ∀ B, B ≤ bz → Below B w w' := by
  obtain ⟨vx, hx1, n, f, hx2, hx3, hx4⟩ := hx.c1
  obtain ⟨vy, hy1, m, g, hy2, hy3, hy4⟩ := hy.c1
  have hn := two_words hx3 hx4 hx64
  have hm := two_words hy3 hy4 hy64
  have hx0 := hx.c0
  have hy0 := hy.c0
  have hlt := hz.lt
  have hltx := hx.lt
  have hlt2 := hy.lt
  have hnot : ∀ (b : Bool) (W : World), (Op.unary .not (.bool b)).run Tryz.prog W = .ok (.bool (!b)) W := fun _ _ => rfl
  subst hx4
  subst hy4
  go_enter Tryz.func96, Tryz.ntmps96
  go_wp2_with fail
  go_region_with (first | (go_at_call 128; refine (sum_any xn yn vx vy n m f g _ (hx2.below (drew_below w)) (hy2.below (drew_below w)) hx3 hy3 (by omega) (by omega)).mono ?_; rintro e w1 ⟨⟨s, v, z, rfl, hv, hsv⟩, b1⟩) | (go_at_call 127; refine (give_any bz s v _ _ zn _ ((hz.below (drew_below w)).below b1) hv).mono ?_; rintro e w2 ⟨rfl, hz2, b2⟩))
  all_goals
    go_wp2_with fail
    go_ret
    exact ⟨rfl, ⟨s, z, hz2, hsv⟩, fun B hB => (((drew_below w).trans b1).mono (by omega)).trans (b2 B hB)⟩
end Go.Proofs.YtbiikodnfaeceaaGreatDoor
