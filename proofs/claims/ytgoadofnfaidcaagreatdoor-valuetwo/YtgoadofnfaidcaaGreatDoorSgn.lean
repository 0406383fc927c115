/- The sign of a whole number. Conditions: none. -/
import Derived.Test.YtgoadofnfaidcaaGreatDoorSum
namespace Go.Proofs.YtgoadofnfaidcaaGreatDoor
open Go.RowKit
set_option maxHeartbeats 4000000 in
theorem sign_any (bz z : Nat) (s : Bool) (w : World) (hz : BigInt w bz (s && decide (z ≠ 0)) z) :
    Calls Tryz.prog 51 #[ptr bz] w fun e w' => e = .returned (.int .i64 (cmpI (sv s z) 0)) ∧ w' = w := by
  obtain ⟨v, h1, hv⟩ := hz.c1
  obtain ⟨A, n, c, rfl, hn, hpos⟩ := hv.shape
  have h0 := hz.c0
  by_cases q : z = 0
  · have hn0 : n = 0 := by
      rcases Nat.eq_zero_or_pos n with k | k
      · exact k
      · exact absurd q (hpos.1 k)
    subst hn0
    have HE : Hid (cmpI (sv s z) 0 = 0) := by
      unfold Hid sv
      rw [q]
      cases s <;> rfl
    clear hpos h0
    go_enter Tryz.func51, Tryz.ntmps51
    go_wp2_with fail
    go_ret
    exact ⟨by rw [HE.out]; rfl, rfl⟩
  · have hn0 : ((n : Int) == 0) = false := by have := hpos.2 q; rw [beq_eq_false_iff_ne]; omega
    rw [show (s && decide (z ≠ 0)) = s from by simp [q]] at h0
    clear hpos
    cases s
    · have HE : Hid (cmpI (sv false z) 0 = 1) := by
        unfold Hid cmpI
        rw [show sv false z = (z : Int) from rfl, if_neg (by omega), if_pos (by omega)]
      go_enter Tryz.func51, Tryz.ntmps51
      go_wp2_with fail
      go_ret
      exact ⟨by rw [HE.out]; rfl, rfl⟩
    · have HE : Hid (cmpI (sv true z) 0 = -1) := by
        unfold Hid cmpI
        rw [show sv true z = -(z : Int) from rfl, if_pos (by omega)]
      go_enter Tryz.func51, Tryz.ntmps51
      go_wp2_with fail
      go_ret
      exact ⟨by rw [HE.out]; rfl, rfl⟩
end Go.Proofs.YtgoadofnfaidcaaGreatDoor
