/- Products and sums of whole numbers of any size. Conditions: as each theorem says. -/
import Derived.Test.YtgoadofnfaidcaaGreatDoorInt
namespace Go.Proofs.YtgoadofnfaidcaaGreatDoor
open Go.RowKit
set_option maxRecDepth 100000 in
set_option maxHeartbeats 40000000 in
theorem mulG (bz bx b2 x y zx : Nat) (zn xn yn : Bool) (w : World) (hz : BigInt w bz zn zx) (hx : BigInt w bx xn x) (hy : BigInt w b2 yn y) (hx64 : x < 18446744073709551616) (hy64 : y < 18446744073709551616) :
    Calls Tryz.prog 63 #[ptr bz, ptr bx, ptr b2] w fun e w' => e = .returned (ptr bz) ∧ BigInt w' bz ((xn != yn) && decide (x * y ≠ 0)) (x * y) ∧ ∀ B, B ≤ bz → Below B w w' := by
  obtain ⟨vx, hx1, n, f, hx2, hx3, hx4⟩ := hx.c1
  obtain ⟨vy, hy1, m, g, hy2, hy3, hy4⟩ := hy.c1
  have hn := two_words hx3 hx4 hx64
  have hm := two_words hy3 hy4 hy64
  have hx0 := hx.c0
  have hltx := hx.lt
  have hy0 := hy.c0
  have hlt := hz.lt
  have hlt2 := hy.lt
  subst hx4
  subst hy4
  go_enter Tryz.func63, Tryz.ntmps63
  go_wp2_with fail
  go_region_with (first | (go_at_call 85; refine (mul_any vx vy n m f g _ (hx2.below (drew_below w)) (hy2.below (drew_below w)) (by omega)).mono ?_; rintro e w1 ⟨⟨v, rfl, hv⟩, b1⟩; have q1 := keepc hx0 hltx b1; have q2 := keepc hx1 hltx b1; have q3 := keepc hy0 hlt2 b1; have q4 := keepc hy1 hlt2 b1) | (go_at_call 73; refine (give_any bz _ v _ _ zn _ ((hz.below (drew_below w)).below b1) hv).mono ?_; rintro e w2 ⟨rfl, hz2, b2⟩))
  all_goals
    go_wp2_with fail
    go_ret
    exact ⟨rfl, hz2, fun B hB => (((drew_below w).trans b1).mono (by omega)).trans (b2 B hB)⟩
end Go.Proofs.YtgoadofnfaidcaaGreatDoor
