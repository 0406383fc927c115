/- The program's Neg. Conditions: as the theorem says. -/
import Derived.Test.YtgoadofnfaidcaaGreatDoorRTwo
namespace Go.Proofs.YtgoadofnfaidcaaGreatDoor
open Go.RowKit
theorem val_num (n : Int) : isVal 1 n nul = true := by unfold isVal; rw [if_neg (by decide), if_pos rfl]; decide +kernel
set_option maxRecDepth 100000 in
set_option maxHeartbeats 8000000 in
theorem neg_any (k n : Int) (s : ByteArray) (w : World) (hv : isVal k n s = true) (hb : B64 n) (hE : Env w) :
    Calls Tryz.prog 11 #[V k n s] w fun e w' => e = .returned (V (ofK (fun x y => fK (x - y)) 1 0 nul k n s) (ofN (fun x y => fN (x - y)) 1 0 nul k n s) (ofS 1 nul k s)) ∧ Below w.heap.size w w' := by
  obtain ⟨rk, hrk⟩ : ∃ rk, ofK (fun x y => fK (x - y)) 1 0 nul k n s = rk := ⟨_, rfl⟩
  obtain ⟨rn, hrn⟩ : ∃ rn, ofN (fun x y => fN (x - y)) 1 0 nul k n s = rn := ⟨_, rfl⟩
  obtain ⟨rs, hrs⟩ : ∃ rs, ofS 1 nul k s = rs := ⟨_, rfl⟩
  have HC : Hid (∀ W, Env W → Calls Tryz.prog 31 #[V 1 0 nul, V k n s, .func (.func 32) #[] #[]] W fun e w' => e = .returned (V rk rn rs) ∧ Below W.heap.size W w') := by
    intro W hW
    have := ofSub _ _ works_sub 1 0 nul k n s W (val_num 0) hv ⟨by omega, by omega⟩ hb hW
    rw [hrk, hrn, hrs] at this
    exact this
  rw [hrk, hrn, hrs]
  clear hrk hrn hrs hv
  have hS := VS.start w k n s
  have hE0 := (hE.alloc (O3 k n s)).alloc (O3 0 0 nul)
  obtain ⟨w0, hw0⟩ : ∃ w0, w0 = (w.alloc (O3 k n s)).alloc (O3 0 0 nul) := ⟨_, rfl⟩
  go_enter Tryz.func11, Tryz.ntmps11
  go_wp2_with fail
  rw [← hw0] at hS hE0 ⊢
  clear hw0
  replace hS := hS.next (drew_below w0)
  replace hE0 := hE0.next (drew_below w0)
  obtain ⟨⟨o0, o1, o2⟩, p0, p1, p2⟩ := cells3 (w := w0) hS.own
  go_region_with (first | (go_at_call 27; refine (number_any _ _).mono ?_; rintro e w1 ⟨rfl, q1⟩; have hS1 := hS.next q1; have hE1 := hE0.next q1; obtain ⟨⟨x0, x1, x2⟩, y0, y1, y2⟩ := cells3 hS1.own) | (go_at_call 31; refine (HC.out _ hE1).mono ?_; rintro e w2 ⟨rfl, q2⟩; have hS2 := hS1.next q2; obtain ⟨⟨z0, z1, z2⟩, v0, v1, v2⟩ := cells3 hS2.res))
  all_goals
    have hB := hS2.below
    go_wp2_with fail
    exact bodyPost_ret (v := V rk rn rs) (by simp [results, Tryz.results11, go_sem, z0, z1, z2]) rfl ⟨rfl, hB.trans (below3 (by omega))⟩
end Go.Proofs.YtgoadofnfaidcaaGreatDoor
