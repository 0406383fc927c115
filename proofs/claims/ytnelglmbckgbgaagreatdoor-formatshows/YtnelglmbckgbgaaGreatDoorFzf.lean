
/- A number by a code, as the document writes it: plain, and the parts of great numbers that it asks. Conditions: as each theorem says. -/
import Derived.Test.YtnelglmbckgbgaaGreatDoorFxd
import Derived.Test.YtnelglmbckgbgaaGreatDoorFya
import Derived.Test.YtnelglmbckgbgaaGreatDoorNewInt
namespace Go.Proofs.YtnelglmbckgbgaaGreatDoor
open Go.RowKit
theorem sign_any (b x : Nat) (neg : Bool) (w : World) (hz : BigInt w b neg x) :
    Calls Tryz.prog 14 #[ptr b] w fun e w' => e = .returned (.int .i64 (if x = 0 then 0 else if neg = true then -1 else 1)) ∧ w' = w := by
  obtain ⟨v, h1, hv⟩ := hz.c1
  have h0 := hz.c0
  obtain ⟨A, n, c, rfl, hn, hx⟩ := hv.shape
  by_cases hx0 : x = 0
  · have hn0 : n = 0 := by
      rcases Nat.eq_zero_or_pos n with e | e
      · exact e
      · exact absurd hx0 (hx.1 e)
    subst hn0
    rw [if_pos hx0]
    clear hv hz hn hx
    go_enter Tryz.func14, Tryz.ntmps14
    go_wp2_with fail
    go_ret
    exact ⟨rfl, rfl⟩
  · have hn0 : ((n : Int) == 0) = false := by
      have := hx.2 hx0
      simp
      omega
    rw [if_neg hx0]
    clear hv hz hn hx
    cases neg with
    | true =>
      rw [if_pos rfl]
      go_enter Tryz.func14, Tryz.ntmps14
      go_wp2_with fail
      go_ret
      exact ⟨rfl, rfl⟩
    | false =>
      rw [if_neg (by decide)]
      go_enter Tryz.func14, Tryz.ntmps14
      go_wp2_with fail
      go_ret
      exact ⟨rfl, rfl⟩
theorem abs_any (b x : Nat) (neg : Bool) (w : World) (hz : BigInt w b neg x) :
    Calls Tryz.prog 15 #[ptr b, ptr b] w fun e w' => e = .returned (ptr b) ∧ BigInt w' b false x ∧ ∀ B, B ≤ b → Below B w w' := by
  obtain ⟨v, h1, hv⟩ := hz.c1
  have ht := twin_num v x w hv
  obtain ⟨A, n, c, rfl, -, -⟩ := hv.shape
  have HZ : Hid (BigInt w b neg x) := hz
  clear hv hz
  go_enter Tryz.func15, Tryz.ntmps15
  go_wp2_with fail
  refine ht.mono ?_
  rintro e w1 ⟨⟨v', rfl, hv'⟩, hb1⟩
  have hg := give_any b false v' x w1 neg x (HZ.out.below hb1) hv'
  have HB1 : Hid (Below w.heap.size w w1) := hb1
  have HLT : Hid (b < w.heap.size) := HZ.out.lt
  obtain ⟨A', n', c', rfl, -, -⟩ := hv'.shape
  clear ht hb1 hv' h1
  go_wp2_with fail
  refine hg.mono ?_
  rintro e w2 ⟨rfl, hz2, hb2⟩
  clear hg
  go_wp2_with fail
  go_ret
  exact ⟨rfl, hz2, fun B hB => (HB1.out.mono (Nat.le_trans hB (Nat.le_of_lt HLT.out))).trans (hb2 B hB)⟩
end Go.Proofs.YtnelglmbckgbgaaGreatDoor
