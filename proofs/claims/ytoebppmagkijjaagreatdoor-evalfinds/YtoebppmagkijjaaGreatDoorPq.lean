/- Print: a node's text, or what is wrong with it. Conditions: the package variables as the program's text lays them; numbers of 64 bits, lists of children below 2^47. -/
import Derived.Test.YtoebppmagkijjaaGreatDoorPp
namespace Go.Proofs.YtoebppmagkijjaaGreatDoor.fm
open Go.RowKit
def prV (x : List UInt8) (dp : Nat) : Value := if x.length + 1 ≤ 200 ∧ dp ≤ 30 then .tuple #[.string ⟨(61 :: x).toArray⟩, .nilIface] else .tuple #[.string nul, .iface 62 (.int .i64 4)]
set_option maxHeartbeats 4000000 in
set_option maxRecDepth 100000 in
theorem print_ok (w0 : World) (hE : EnvW w0) {P : Nat → Prop} (hP : ∀ b, P b → b < w0.heap.size) {k n : Int} {s : ByteArray} {r t : Rf} {p : Option Addr} {q c : Nat} {T0 : T} {x : List UInt8} {dp : Nat} (hW : W ink T0 x dp) (hN : Nd w0 P (NV k n s r t (.slice p q c)) T0) (hO : Ok T0) (h6 : k ≠ 6) (hc : T0.cnt ≤ 200) :
    Calls Tryz.prog 41 #[NV k n s r t (.slice p q c)] w0 fun e w' => e = .returned (prV x dp) ∧ Below w0.heap.size w0 w' := by
  have hS0 := OB.start (Below.refl w0.heap.size w0) (N12 k n s r t (.slice p q c))
  have hlen := len_le hW
  have H1 := count_any hN hO.bd 200 (by omega) _ hS0.below
  rw [show min T0.cnt (200 + 1) = T0.cnt from by omega] at H1
  have H2 : Hid (∀ w1, Below w0.heap.size w0 w1 → Calls Tryz.prog 70 #[NV k n s r t (.slice p q c)] w1 fun e w' => e = .returned (.bool true) ∧ Below w1.heap.size w1 w') := fun w1 hb => by
    refine (isExpr_any hN hO w1 hb).mono ?_
    rintro e w' ⟨b, rfl, hb1, hb2⟩
    rw [hb1.2 ⟨h6, _, _, hW⟩]
    exact ⟨rfl, hb2⟩
  have H3 : Hid (∀ w1, Below w0.heap.size w0 w1 → Calls Tryz.prog 71 #[NV k n s r t (.slice p q c)] w1 fun e w' => e = .returned (.tuple #[.string ⟨(61 :: x).toArray⟩, .int .i64 (dp : Nat)]) ∧ Below w1.heap.size w1 w') := fun w1 hb =>
    write_formula w1 (hE.next hb) hW (hN.mono (fun b hb' => hb.block b (hP b hb')) (fun _ h => h)) hO (by omega) (by omega)
  have hcc : ¬ ((T0.cnt : Nat) : Int) > 200 := by omega
  have hsz : (⟨(61 :: x).toArray⟩ : ByteArray).size = x.length + 1 := by show (61 :: x).toArray.size = _; simp
  obtain ⟨Z, hZ⟩ : ∃ Z : ByteArray, ⟨(61 :: x).toArray⟩ = Z := ⟨_, rfl⟩
  have HV : Hid (prV x dp = if x.length + 1 ≤ 200 ∧ dp ≤ 30 then .tuple #[.string Z, .nilIface] else .tuple #[.string nul, .iface 62 (.int .i64 4)]) := by unfold Hid prV; rw [hZ]
  rw [hZ] at H3 hsz
  have HSZ : Hid (Z.size = x.length + 1) := hsz
  obtain ⟨V, hV⟩ : ∃ V, prV x dp = V := ⟨_, rfl⟩
  rw [hV] at HV ⊢
  clear hZ hV hsz hW hN hO hE hP h6 hc hlen
  obtain ⟨⟨a0, a1, a2, a3, a4, a5, a6, a7, a8, a9, a10, a11⟩, af⟩ := cells12 hS0.a
  go_enter Tryz.func41, Tryz.ntmps41
  go_wp2_with fail
  refine H1.mono ?_
  rintro e w1 ⟨rfl, hb1⟩
  have hS1 := hS0.next hb1
  clear a0 a1 a2 a3 a4 a5 a6 a7 a8 a9 a10 a11 af hS0 hb1 H1
  obtain ⟨⟨a0, a1, a2, a3, a4, a5, a6, a7, a8, a9, a10, a11⟩, af⟩ := cells12 hS1.a
  go_wp2_with fail
  refine (H2.out _ hS1.below).mono ?_
  rintro e w2 ⟨rfl, hb2⟩
  have hS2 := hS1.next hb2
  clear a0 a1 a2 a3 a4 a5 a6 a7 a8 a9 a10 a11 af hS1 hb2 H2
  obtain ⟨⟨a0, a1, a2, a3, a4, a5, a6, a7, a8, a9, a10, a11⟩, af⟩ := cells12 hS2.a
  go_wp2_with fail
  refine (H3.out _ hS2.below).mono ?_
  rintro e w3 ⟨rfl, hb3⟩
  have hS3 := hS2.next hb3
  clear a0 a1 a2 a3 a4 a5 a6 a7 a8 a9 a10 a11 af hS2 hb3 H3
  by_cases g1 : (200 : Int) < (Z.size : Int)
  · have HG : Hid (V = .tuple #[.string nul, .iface 62 (.int .i64 4)]) := by unfold Hid; rw [HV.out, if_neg (by have := HSZ.out; omega)]
    clear HV
    go_wp2_with fail
    go_ret2
    exact ⟨by rw [HG.out]; rfl, hS3.below⟩
  · by_cases g2 : (30 : Int) < (dp : Int)
    · have HG : Hid (V = .tuple #[.string nul, .iface 62 (.int .i64 4)]) := by unfold Hid; rw [HV.out, if_neg (by omega)]
      clear HV
      go_wp2_with fail
      go_ret2
      exact ⟨by rw [HG.out]; rfl, hS3.below⟩
    · have HG : Hid (V = .tuple #[.string Z, .nilIface]) := by unfold Hid; rw [HV.out, if_pos (by have := HSZ.out; omega)]
      clear HV
      go_wp2_with fail
      go_ret2
      exact ⟨by rw [HG.out]; rfl, hS3.below⟩
set_option maxHeartbeats 4000000 in
set_option maxRecDepth 100000 in
theorem print_err (w0 : World) {P : Nat → Prop} {k n : Int} {s : ByteArray} {r t : Rf} {p : Option Addr} {q c : Nat} {T0 : T} (hN : Nd w0 P (NV k n s r t (.slice p q c)) T0) (hO : Ok T0) (h : ¬ T0.cnt ≤ 200 ∨ ¬ (k ≠ 6 ∧ Wf T0)) :
    Calls Tryz.prog 41 #[NV k n s r t (.slice p q c)] w0 fun e w' => (∃ a : Int, e = .returned (.tuple #[.string nul, .iface 62 (.int .i64 a)])) ∧ Below w0.heap.size w0 w' := by
  have hS0 := OB.start (Below.refl w0.heap.size w0) (N12 k n s r t (.slice p q c))
  have H1 := count_any hN hO.bd 200 (by omega) _ hS0.below
  have H2 : Hid (∀ w1, Below w0.heap.size w0 w1 → Calls Tryz.prog 70 #[NV k n s r t (.slice p q c)] w1 fun e w' => ∃ b, e = .returned (.bool b) ∧ (b = true ↔ k ≠ 6 ∧ Wf T0) ∧ Below w1.heap.size w1 w') := fun w1 hb => isExpr_any hN hO w1 hb
  have HH : Hid (¬ T0.cnt ≤ 200 ∨ ¬ (k ≠ 6 ∧ Wf T0)) := h
  obtain ⟨C, hC⟩ : ∃ C : Nat, min T0.cnt (200 + 1) = C := ⟨_, rfl⟩
  have HC : Hid (min T0.cnt (200 + 1) = C) := hC
  rw [hC] at H1
  clear h hN hO hC
  obtain ⟨⟨a0, a1, a2, a3, a4, a5, a6, a7, a8, a9, a10, a11⟩, af⟩ := cells12 hS0.a
  go_enter Tryz.func41, Tryz.ntmps41
  go_wp2_with fail
  refine H1.mono ?_
  rintro e w1 ⟨rfl, hb1⟩
  have hS1 := hS0.next hb1
  clear a0 a1 a2 a3 a4 a5 a6 a7 a8 a9 a10 a11 af hS0 hb1 H1
  obtain ⟨⟨a0, a1, a2, a3, a4, a5, a6, a7, a8, a9, a10, a11⟩, af⟩ := cells12 hS1.a
  by_cases g : (200 : Int) < (C : Int)
  · go_wp2_with fail
    go_ret2
    exact ⟨⟨_, rfl⟩, hS1.below⟩
  · have HF : Hid (¬ (k ≠ 6 ∧ Wf T0)) := by
      unfold Hid
      rcases HH.out with h | h
      · have := HC.out; omega
      · exact h
    go_wp2_with fail
    refine (H2.out _ hS1.below).mono ?_
    rintro e w2 ⟨b, rfl, hb, hb2⟩
    have hS2 := hS1.next hb2
    have hbf : b = false := by
      cases b with
      | false => rfl
      | true => exact absurd (hb.1 rfl) HF.out
    subst hbf
    clear hb
    go_wp2_with fail
    go_ret2
    exact ⟨⟨_, rfl⟩, hS2.below⟩
end Go.Proofs.YtoebppmagkijjaaGreatDoor.fm
