/- The law FormulaBack, walked. Conditions: the package variables as the program's text lays them; the node lies in memory as a tree, numbers of 64 bits, lists of children below 2^47; the text has at most 2^47 bytes. -/
import Derived.Test.YtmpfknokjianbaaGreatDoorPs
import Derived.Test.YtmpfknokjianbaaGreatDoorFz
import Derived.Test.YtmpfknokjianbaaGreatDoorSm2
namespace Go.Proofs.YtmpfknokjianbaaGreatDoor.fm
open Go.RowKit
theorem bd_cnt {t : T} (h : Ok t) (N : Nat) : t.cnt ≤ N → Bd N t := by
  induction h with
  | @mk k n s r t ts hn hl hs ih =>
    intro hc
    rw [cnt_eq] at hc
    have h1 := cntL_len ts
    exact .mk (by omega) (fun i u hu => ih i u hu (by have := cntL_kid ts i u hu; omega))
theorem nd_kd {w : World} {P : Nat → Prop} {V : Value} {T0 : T} (h : Nd w P V T0) (k n : Int) (s : ByteArray) (r t : Rf) (v : Value) (hv : V = NV k n s r t v) : T0.kd = k := by
  cases h with
  | @mk k' n' s' r' t' p' m' c' us ts hk hl hs =>
    have e : (NV k' n' s' r' t' (.slice p' m' c')).cells.toList[0]? = (NV k n s r t v).cells.toList[0]? := by rw [hv]
    have e2 : (some (Value.int .i64 k') : Option Value) = some (.int .i64 k) := e
    injection e2 with e3
    injection e3
set_option maxHeartbeats 8000000 in
set_option maxRecDepth 100000 in
theorem formulaBack_law (w : World) (hE : EnvW w) {P : Nat → Prop} (hP : ∀ b, P b → b < w.heap.size) {k n : Int} {s : ByteArray} {r t : Rf} {p : Option Addr} {q c : Nat} {T0 : T} (hN : Nd w P (NV k n s r t (.slice p q c)) T0) (hO : Ok T0) (text : ByteArray) (ht : text.size ≤ 140737488355328) :
    Calls Tryz.prog 5 #[NV k n s r t (.slice p q c), .string text] w fun e w' => e = .returned (.bool true) ∧ Below w.heap.size w w' := by
  have hNk : ∀ w1, Below w.heap.size w w1 → Nd w1 P (NV k n s r t (.slice p q c)) T0 := fun w1 hb => hN.mono (fun b hb' => hb.block b (hP b hb')) (fun _ h => h)
  have H0 : Hid (∀ w1, Below w.heap.size w w1 → Calls Tryz.prog 7 #[.string ⟨#[61, 49, 43, 50]⟩] w1 fun e w' => ∃ p1 c1, e = .returned (.tuple #[NV 8 8 nul .z .z (.slice p1 2 c1), .int .i64 0, .nilIface]) ∧ Below w1.heap.size w1 w') := fun w1 hb => by
    obtain ⟨a, b, h12⟩ := fact_12
    refine (parse_any _ w1 (hE.next hb).f (by decide) _ h12).mono ?_
    rintro e w' ⟨v, rfl, hv, hb'⟩
    cases hv with
    | mk hk hl hs => obtain rfl := (hk.1.trans hl); exact ⟨_, _, rfl, hb'⟩
  have HTE : Hid (∀ k9 c9, parse lexP text = .err k9 c9 → ∀ w1, Below w.heap.size w w1 → Calls Tryz.prog 7 #[.string text] w1 fun e w' => e = .returned (.tuple #[NV 0 0 nul .z .z (.slice none 0 0), .int .i64 k9, .iface 53 (.int .i64 c9)]) ∧ Below w1.heap.size w1 w') := fun k9 c9 h w1 hb => parse_any text w1 (hE.next hb).f ht _ h
  have HTO : Hid (∀ t9 k9, parse lexP text = .ok t9 k9 → ∀ w1, Below w.heap.size w w1 → Calls Tryz.prog 7 #[.string text] w1 fun e w' => ∃ K N S9 Ra Rb p9 q9 c9 Z, e = .returned (.tuple #[NV K N S9 Ra Rb (.slice p9 q9 c9), .int .i64 0, .nilIface]) ∧ Z.size ≤ text.size ∧ Below w1.heap.size w1 w' ∧ (∀ wx, Below w'.heap.size w' wx → Calls Tryz.prog 12 #[NV K N S9 Ra Rb (.slice p9 q9 c9)] wx fun e w' => e = .returned (.tuple #[.string Z, .nilIface]) ∧ Below wx.heap.size wx w')) := fun t9 k9 h w1 hb => by
    obtain ⟨x, dp, hw, h6, hc, hO9, hl, hl2, hd⟩ := back_two h
    refine (parse_any text w1 (hE.next hb).f ht _ h).mono ?_
    rintro e w' ⟨v, rfl, hv, hb'⟩
    have hv' := hv
    cases hv' with
    | @mk K N S9 Ra Rb p9 q9 c9 us ts hk hl' hs =>
      refine ⟨K, N, S9, Ra, Rb, p9, q9, c9, ⟨(61 :: x).toArray⟩, rfl, by show (61 :: x).toArray.size ≤ _; simpa using hl2, hb', fun wx hbx => ?_⟩
      have hEx : EnvW wx := ((hE.next hb).next hb').next hbx
      have := print_ok wx hEx (P := Own w1 w') (fun b hb2 => Nat.lt_of_lt_of_le hb2.2 hbx.size) hw (hv.mono (fun b hb2 => hbx.block b hb2.2) (fun _ h => h)) hO9 h6 hc
      unfold prV at this
      rw [if_pos ⟨hl, hd⟩] at this
      exact this
  have hS0 := OB.start (Below.refl w.heap.size w) (N12 k n s r t (.slice p q c))
  by_cases hgood : ∃ x dp, W ink T0 x dp ∧ k ≠ 6 ∧ T0.cnt ≤ 200 ∧ x.length + 1 ≤ 200 ∧ dp ≤ 30
  · obtain ⟨x, dp, hw, h6, hc, hl, hd⟩ := hgood
    have HP : Hid (∀ w1, Below w.heap.size w w1 → Calls Tryz.prog 12 #[NV k n s r t (.slice p q c)] w1 fun e w' => e = .returned (.tuple #[.string ⟨(61 :: x).toArray⟩, .nilIface]) ∧ Below w1.heap.size w1 w') := fun w1 hb => by
      have := print_ok w1 (hE.next hb) (P := P) (fun b hb2 => Nat.lt_of_lt_of_le (hP b hb2) hb.size) hw (hNk w1 hb) hO h6 hc
      unfold prV at this
      rw [if_pos ⟨hl, hd⟩] at this
      exact this
    have HR : Hid (∀ w1, Below w.heap.size w w1 → Calls Tryz.prog 7 #[.string ⟨(61 :: x).toArray⟩] w1 fun e w' => ∃ K N S9 Ra Rb p9 q9 c9, e = .returned (.tuple #[NV K N S9 Ra Rb (.slice p9 q9 c9), .int .i64 0, .nilIface]) ∧ Below w1.heap.size w1 w' ∧ (∀ wx, Below w'.heap.size w' wx → Calls Tryz.prog 9 #[NV K N S9 Ra Rb (.slice p9 q9 c9), NV k n s r t (.slice p q c)] wx fun e w' => e = .returned (.bool true) ∧ Below wx.heap.size wx w')) := fun w1 hb => by
      refine (parse_any _ w1 (hE.next hb).f (by show (61 :: x).toArray.size ≤ _; simp; omega) _ (back_one hw (by rw [nd_kd hN k n s r t _ rfl]; exact h6) hl hd)).mono ?_
      rintro e w' ⟨v, rfl, hv, hb'⟩
      have hv' := hv
      cases hv' with
      | @mk K N S9 Ra Rb p9 q9 c9 us ts hk hl' hs =>
        exact ⟨K, N, S9, Ra, Rb, p9, q9, c9, rfl, hb', fun wx hbx => same_any hv (bd_cnt hO 200 hc) _ (hNk w' (bnext hb hb' hb.size)) wx hbx⟩
    obtain ⟨Z0, hZ0⟩ : ∃ Z0 : ByteArray, ⟨(61 :: x).toArray⟩ = Z0 := ⟨_, rfl⟩
    rw [hZ0] at HP HR
    clear hZ0 hw h6 hc hl hd hN hO hNk hP hE
    obtain ⟨⟨a0, a1, a2, a3, a4, a5, a6, a7, a8, a9, a10, a11⟩, af⟩ := cells12 hS0.a
    go_enter Tryz.func5, Tryz.ntmps5
    go_wp2_with fail
    refine (H0.out _ hS0.below).mono ?_
    rintro e w1 ⟨p1, c1, rfl, hb1⟩
    have hS1 := (hS0.next hb1).next ((Below.refl w1.heap.size w1).alloc (Nat.le_refl _) (.cells (N12 8 8 nul .z .z (.slice p1 2 c1)) 28))
    clear a0 a1 a2 a3 a4 a5 a6 a7 a8 a9 a10 a11 af hS0
    obtain ⟨⟨a0, a1, a2, a3, a4, a5, a6, a7, a8, a9, a10, a11⟩, af⟩ := cells12 hS1.a
    go_wp2_with fail
    refine (HP.out _ hS1.below).mono ?_
    rintro e w2 ⟨rfl, hb2⟩
    have hS2 := hS1.next hb2
    clear a0 a1 a2 a3 a4 a5 a6 a7 a8 a9 a10 a11 af hS1
    go_wp2_with fail
    refine (HR.out _ hS2.below).mono ?_
    rintro e w3 ⟨K, N, S9, Ra, Rb, p9, q9, c9, rfl, hb3, hsm⟩
    have HSM : Hid (∀ wx, Below w3.heap.size w3 wx → Calls Tryz.prog 9 #[NV K N S9 Ra Rb (.slice p9 q9 c9), NV k n s r t (.slice p q c)] wx fun e w' => e = .returned (.bool true) ∧ Below wx.heap.size wx w') := hsm
    have hS3 := (hS2.next hb3).next ((Below.refl w3.heap.size w3).alloc (Nat.le_refl _) (.cells (N12 K N S9 Ra Rb (.slice p9 q9 c9)) 28))
    clear hsm
    obtain ⟨⟨a0, a1, a2, a3, a4, a5, a6, a7, a8, a9, a10, a11⟩, af⟩ := cells12 hS3.a
    go_wp2_with fail
    refine (HSM.out _ ((Below.refl _ _).alloc (Nat.le_refl _) _)).mono ?_
    rintro e w4 ⟨rfl, hb4⟩
    have hS4 := hS3.next hb4
    clear a0 a1 a2 a3 a4 a5 a6 a7 a8 a9 a10 a11 af hS3 HSM
    go_wp2_with fail
    cases hR : parse lexP text with
    | err k9 c9 =>
      refine (HTE.out k9 c9 hR _ hS4.below).mono ?_
      rintro e w7 ⟨rfl, hb7⟩
      have hS7 := hS4.next hb7
      go_wp2_with fail
      go_ret
      exact ⟨rfl, hS7.below.alloc hS7.below.size _⟩
    | ok t9 k9 =>
      refine (HTO.out t9 k9 hR _ hS4.below).mono ?_
      rintro e w7 ⟨K, N, S9, Ra, Rb, p9, q9, c9, Z, rfl, hZ, hb7, hpr⟩
      have hS7 := (hS4.next hb7).next ((Below.refl w7.heap.size w7).alloc (Nat.le_refl _) (.cells (N12 K N S9 Ra Rb (.slice p9 q9 c9)) 28))
      have HPR : Hid (∀ wx, Below w7.heap.size w7 wx → Calls Tryz.prog 12 #[NV K N S9 Ra Rb (.slice p9 q9 c9)] wx fun e w' => e = .returned (.tuple #[.string Z, .nilIface]) ∧ Below wx.heap.size wx w') := hpr
      have hzz : ((Z.size : Nat) : Int) ≤ ((text.size : Nat) : Int) := by omega
      clear hpr hZ
      go_wp2_with fail
      refine (HPR.out _ ((Below.refl _ _).alloc (Nat.le_refl _) _)).mono ?_
      rintro e w8 ⟨rfl, hb8⟩
      have hS8 := hS7.next hb8
      go_wp2_with fail
      go_ret
      exact ⟨by first | rfl | (simp; omega), hS8.below⟩
  · have HP : Hid (∀ w1, Below w.heap.size w w1 → Calls Tryz.prog 12 #[NV k n s r t (.slice p q c)] w1 fun e w' => (∃ a : Int, e = .returned (.tuple #[.string nul, .iface 53 (.int .i64 a)])) ∧ Below w1.heap.size w1 w') := fun w1 hb => by
      by_cases h1 : T0.cnt ≤ 200 ∧ k ≠ 6 ∧ Wf T0
      · obtain ⟨hc, h6, x, dp, hw⟩ := h1
        have := print_ok w1 (hE.next hb) (P := P) (fun b hb2 => Nat.lt_of_lt_of_le (hP b hb2) hb.size) hw (hNk w1 hb) hO h6 hc
        unfold prV at this
        rw [if_neg (fun e => hgood ⟨x, dp, hw, h6, hc, e.1, e.2⟩)] at this
        refine this.mono ?_
        rintro e w' ⟨rfl, hb'⟩
        exact ⟨⟨4, rfl⟩, hb'⟩
      · exact print_err w1 (hNk w1 hb) hO (by
          by_cases hc : T0.cnt ≤ 200
          · exact .inr (fun e => h1 ⟨hc, e.1, e.2⟩)
          · exact .inl hc)
    clear hgood hN hO hNk hP hE
    obtain ⟨⟨a0, a1, a2, a3, a4, a5, a6, a7, a8, a9, a10, a11⟩, af⟩ := cells12 hS0.a
    go_enter Tryz.func5, Tryz.ntmps5
    go_wp2_with fail
    refine (H0.out _ hS0.below).mono ?_
    rintro e w1 ⟨p1, c1, rfl, hb1⟩
    have hS1 := (hS0.next hb1).next ((Below.refl w1.heap.size w1).alloc (Nat.le_refl _) (.cells (N12 8 8 nul .z .z (.slice p1 2 c1)) 28))
    clear a0 a1 a2 a3 a4 a5 a6 a7 a8 a9 a10 a11 af hS0
    obtain ⟨⟨a0, a1, a2, a3, a4, a5, a6, a7, a8, a9, a10, a11⟩, af⟩ := cells12 hS1.a
    go_wp2_with fail
    refine (HP.out _ hS1.below).mono ?_
    rintro e w2 ⟨⟨a, rfl⟩, hb2⟩
    have hS2 := hS1.next hb2
    clear a0 a1 a2 a3 a4 a5 a6 a7 a8 a9 a10 a11 af hS1
    go_wp2_with fail
    cases hR : parse lexP text with
    | err k9 c9 =>
      refine (HTE.out k9 c9 hR _ hS2.below).mono ?_
      rintro e w7 ⟨rfl, hb7⟩
      have hS7 := hS2.next hb7
      go_wp2_with fail
      go_ret
      exact ⟨rfl, hS7.below.alloc hS7.below.size _⟩
    | ok t9 k9 =>
      refine (HTO.out t9 k9 hR _ hS2.below).mono ?_
      rintro e w7 ⟨K, N, S9, Ra, Rb, p9, q9, c9, Z, rfl, hZ, hb7, hpr⟩
      have hS7 := (hS2.next hb7).next ((Below.refl w7.heap.size w7).alloc (Nat.le_refl _) (.cells (N12 K N S9 Ra Rb (.slice p9 q9 c9)) 28))
      have HPR : Hid (∀ wx, Below w7.heap.size w7 wx → Calls Tryz.prog 12 #[NV K N S9 Ra Rb (.slice p9 q9 c9)] wx fun e w' => e = .returned (.tuple #[.string Z, .nilIface]) ∧ Below wx.heap.size wx w') := hpr
      have hzz : ((Z.size : Nat) : Int) ≤ ((text.size : Nat) : Int) := by omega
      clear hpr hZ
      go_wp2_with fail
      refine (HPR.out _ ((Below.refl _ _).alloc (Nat.le_refl _) _)).mono ?_
      rintro e w8 ⟨rfl, hb8⟩
      have hS8 := hS7.next hb8
      go_wp2_with fail
      go_ret
      exact ⟨by first | rfl | (simp; omega), hS8.below⟩
end Go.Proofs.YtmpfknokjianbaaGreatDoor.fm
