
/- The law PickRows, by what Pick and Any answer. Conditions: as each theorem says. -/
import Derived.Test.YtjbdpcnebilmbaaGreatDoorSq
import Derived.Test.YtjbdpcnebilmbaaGreatDoorRl
import Derived.Test.YtjbdpcnebilmbaaGreatDoorRm
namespace Go.Proofs.YtjbdpcnebilmbaaGreatDoor.so
open Go.RowKit Go.Sort Go.Shelf
set_option maxRecDepth 100000 in
set_option maxHeartbeats 8000000 in
theorem pickRows_any (T : Tb) (p : Option Addr) (cp : Nat) (p2 : Option Addr) (n c2 : Nat) (f : Nat → Wt) (w : World) (hT : TM w p T) (hW : WM w p2 n f) (hq : T.q ≤ 9223372036854775807) (hn : n ≤ 9223372036854775807) (hL : ∀ i, i < T.q → T.L i ≤ 9223372036854775807)
    (hP : ∀ wx, Bw w wx → Calls Tryz.prog 6 #[.slice p T.q cp, .slice p2 n c2] wx fun e w' => PK T n f (metA T n f) wx e w')
    (hA : ∀ wx, Bw w wx → Calls Tryz.prog 8 #[.slice p T.q cp, .slice p2 n c2] wx fun e w' => PK T n f (metO T n f) wx e w')
    (hE : ∀ wx x, Bw w wx → Calls Tryz.prog 7 #[errV x, .int .i64 x] wx fun r w' => r = .returned (.bool true) ∧ Bw wx w') :
    Calls Tryz.prog 3 #[.slice p T.q cp, .slice p2 n c2] w fun e w' => e = .returned (.bool true) ∧ Bw w w' := by
  have H1 := rwants_any T p cp p2 n c2 f w hT hW hq hn hL
  have HP : Hid (∀ wx, Bw w wx → Calls Tryz.prog 6 #[.slice p T.q cp, .slice p2 n c2] wx fun e w' => PK T n f (metA T n f) wx e w') := hP
  have HA : Hid (∀ wx, Bw w wx → Calls Tryz.prog 8 #[.slice p T.q cp, .slice p2 n c2] wx fun e w' => PK T n f (metO T n f) wx e w') := hA
  have HE : Hid (∀ wx x, Bw w wx → Calls Tryz.prog 7 #[errV x, .int .i64 x] wx fun r w' => r = .returned (.bool true) ∧ Bw wx w') := hE
  have HT : Hid (TM w p T) := hT
  have HM : Hid (∀ wx j, WF T n f 0 → j < T.q → Bw w wx → Calls Tryz.prog 5 #[.slice (T.P j) (T.L j) (T.C j), .slice p2 n c2] wx fun e w' => e = .returned (.int .i64 (mets (T.v j) f n : Nat)) ∧ Bw wx w') := fun wx j h0 hj hb => by
    obtain ⟨hS, hn12, hw⟩ := h0.zero
    rcases hT.next hb with h | ⟨g, o, -, -, h3⟩
    · omega
    refine rmeets_any (T.P j) (T.L j) (T.C j) (T.v j) p2 n c2 f wx (h3 j hj).2 (hW.next hb) hn12 ?_ ?_
    · exact hS.ok j hj
    · intro i hi
      obtain ⟨a, b, c, d⟩ := hw i hi
      have hc := hS.col a hj
      exact ⟨hc.1, hc.2.1, b, c, d⟩
  have HI : Hid (∀ (xs : List Int) pv cv pv' cv' wx, xs.length ≤ 9223372036854775807 → IM wx pv xs.length (fun i => xs.getD i 0) → IM wx pv' xs.length (fun i => xs.getD i 0) → Calls Tryz.prog 9 #[.slice pv xs.length cv, .slice pv' xs.length cv'] wx fun e w' => e = .returned (.bool true) ∧ Bw wx w') := fun xs pv cv pv' cv' wx hl hi hi' => by
    have := rints_any pv xs.length cv _ pv' xs.length cv' _ wx hi hi' hl hl
    rwa [sameI_true.2 ⟨rfl, fun _ _ => rfl⟩] at this
  obtain ⟨q, eq⟩ : ∃ q, T.q = q := ⟨_, rfl⟩
  have HEQ : Hid (T.q = q) := eq
  rw [eq] at HP HA HM H1 hq ⊢
  clear hT hW hL hP hA hE eq
  go_enter Tryz.func3, Tryz.ntmps3
  go_wp2_with fail
  refine H1.mono ?_
  clear H1
  rintro e w1 ⟨⟨x, rfl, hx⟩, hb1⟩
  have HB1 : Hid (Bw w w1) := hb1
  have HX : Hid (WF T n f x) := hx
  clear hx hb1
  go_wp2_with fail
  go_loopw [6, 7, 8] (fun s4 s5 s6 wr => ∃ j : Nat, s6 = .int .i64 j ∧ j ≤ q ∧ Hid (x ≠ 0 → j = 0) ∧ Hid (I2 w1 s4 (sel (metA T n f) j) s5 (sel (metO T n f) j) wr)) (fun _ _ s6 _ => q - (intOf s6).toNat)
  case atStart => exact ⟨0, rfl, Nat.zero_le _, fun _ => rfl, I2.nil w1⟩
  case round =>
    obtain ⟨j, rfl, hj, HJ, HV⟩ := hrel
    by_cases hlt : x = 0 ∧ j < q
    · obtain ⟨rfl, hlt⟩ := hlt
      have hlt' : (j : Int) < (q : Int) := by omega
      have hj0 : (0 : Int) ≤ (j : Int) := by omega
      have hq60 : q ≤ 60 := by rw [← HEQ.out]; exact HX.out.zero.1.few
      have hjq : j < T.q := by rw [HEQ.out]; exact hlt
      have G := HM.out wr j HX.out (by omega) (HB1.out.tr HV.out.l.below)
      rcases HT.out.next (HB1.out.tr HV.out.l.below) with h | ⟨g, o, rfl, hg, h3⟩
      · omega
      obtain ⟨z0, -⟩ := h3 j hjq
      clear h3 hg
      obtain ⟨pj, hp⟩ : ∃ x, T.P j = x := ⟨_, rfl⟩
      obtain ⟨lj, hl⟩ : ∃ x, T.L j = x := ⟨_, rfl⟩
      obtain ⟨cj, hc⟩ : ∃ x, T.C j = x := ⟨_, rfl⟩
      rw [hp, hl, hc] at z0 G
      clear hp hl hc hjq
      obtain ⟨k, hk⟩ : ∃ k, mets (T.v j) f n = k := ⟨_, rfl⟩
      have HK : Hid (mets (T.v j) f n = k) := hk
      have hkn := mets_le (T.v j) f n
      rw [hk] at G hkn
      clear hk
      go_wp2_with fail
      refine G.mono ?_
      clear G
      rintro e w2 ⟨rfl, hb2⟩
      have HV2 : Hid (I2 w1 u6 (sel (metA T n f) j) u7 (sel (metO T n f) j) w2) := HV.out.next hb2
      clear hb2 HV z0
      obtain ⟨a6, ha6⟩ : ∃ a, sel (metA T n f) j = a := ⟨_, rfl⟩
      obtain ⟨a7, ha7⟩ : ∃ a, sel (metO T n f) j = a := ⟨_, rfl⟩
      have hl6 := sel_len (metA T n f) j
      have hl7 := sel_len (metO T n f) j
      have HA6 : Hid (sel (metA T n f) j = a6) := ha6
      have HA7 : Hid (sel (metO T n f) j = a7) := ha7
      rw [ha6, ha7] at HV2
      rw [ha6] at hl6
      rw [ha7] at hl7
      clear ha6 ha7
      by_cases hkn' : k = n
      · have hk1 : ((k : Int) == (n : Int)) = true := by simp [hkn']
        obtain ⟨pv, cv, rfl, -⟩ := HV2.out.l.im
        obtain ⟨g2, cc, w3, hr, hV3⟩ := HV2.out.one (by omega) (j : Int)
        have HM6 : Hid (sel (metA T n f) (j + 1) = a6 ++ [(j : Int)]) := by
          show _ = _
          rw [sel_yes (by unfold metA; rw [HK.out]; simp [hkn']), HA6.out]
        obtain ⟨b6, hb6⟩ : ∃ b, a6 ++ [(j : Int)] = b := ⟨_, rfl⟩
        rw [hb6] at HM6 hV3
        clear hb6
        obtain ⟨ln, hln⟩ : ∃ ln, a6.length = ln := ⟨_, rfl⟩
        rw [hln] at hr hl6 hV3 ⊢
        have HR : Hid ((Builtin.append_ #[25, 25] 25 #[.slice pv ln cv, .slice (some ⟨w2.heap.size, 0, none⟩) 1 1]).run Tryz.prog (w2.alloc (.cells #[.int .i64 (j : Int)] 3)) = .ok (.slice (some ⟨g2, 0, none⟩) (ln + 1) cc) w3) := hr
        have HV3 : Hid (I2 w1 (.slice (some ⟨g2, 0, none⟩) (ln + 1) cc) b6 u7 a7 w3) := hV3
        clear hV3 HV2 hr hln HA6
        by_cases hk0 : 0 < k
        · have hk2 : (0 : Int) < (k : Int) := by omega
          obtain ⟨pr, cr, rfl, -⟩ := HV3.out.r.im
          obtain ⟨g3, cc3, w4, hr, hV4⟩ := HV3.out.swap.one (by omega) (j : Int)
          have HM7 : Hid (sel (metO T n f) (j + 1) = a7 ++ [(j : Int)]) := by
            show _ = _
            rw [sel_yes (by unfold metO; rw [HK.out]; simp; omega), HA7.out]
          obtain ⟨b7, hb7⟩ : ∃ b, a7 ++ [(j : Int)] = b := ⟨_, rfl⟩
          rw [hb7] at HM7 hV4
          clear hb7
          obtain ⟨lm, hlm⟩ : ∃ lm, a7.length = lm := ⟨_, rfl⟩
          rw [hlm] at hr hl7 hV4 ⊢
          have HR2 : Hid ((Builtin.append_ #[25, 25] 25 #[.slice pr lm cr, .slice (some ⟨w3.heap.size, 0, none⟩) 1 1]).run Tryz.prog (w3.alloc (.cells #[.int .i64 (j : Int)] 3)) = .ok (.slice (some ⟨g3, 0, none⟩) (lm + 1) cc3) w4) := hr
          have HV4 : Hid (I2 w1 (.slice (some ⟨g2, 0, none⟩) (ln + 1) cc) b6 (.slice (some ⟨g3, 0, none⟩) (lm + 1) cc3) b7 w4) := hV4.swap
          clear hV4 HV3 hr hlm HA7
          go_upto_region 10 with (first | (at_builtin; refine wpList_append_eq rfl _ _ 25 rfl _ _ _ _ rfl rfl HR.out ?_))
          go_wp2_with (first | (at_builtin; refine wpList_append_eq rfl _ _ 25 rfl _ _ _ _ rfl rfl HR2.out ?_))
          exact ⟨⟨j + 1, by simp, hlt, fun h => absurd rfl h, by rw [HM6.out, HM7.out]; exact HV4⟩, by simp [intOf]; omega⟩
        · have hk2 : ¬ (0 : Int) < (k : Int) := by omega
          have HM7 : Hid (sel (metO T n f) (j + 1) = a7) := by
            show _ = _
            rw [sel_no (by unfold metO; rw [HK.out]; simp; omega), HA7.out]
          go_wp2_with (first | (at_builtin; refine wpList_append_eq rfl _ _ 25 rfl _ _ _ _ rfl rfl HR.out ?_))
          exact ⟨⟨j + 1, by simp, hlt, fun h => absurd rfl h, by rw [HM6.out, HM7.out]; exact HV3⟩, by simp [intOf]; omega⟩
      · have hk1 : ((k : Int) == (n : Int)) = false := by simp; omega
        have HM6 : Hid (sel (metA T n f) (j + 1) = a6) := by
          show _ = _
          rw [sel_no (by unfold metA; rw [HK.out]; simp [hkn']), HA6.out]
        by_cases hk0 : 0 < k
        · have hk2 : (0 : Int) < (k : Int) := by omega
          obtain ⟨pr, cr, rfl, -⟩ := HV2.out.r.im
          obtain ⟨g3, cc3, w4, hr, hV4⟩ := HV2.out.swap.one (by omega) (j : Int)
          have HM7 : Hid (sel (metO T n f) (j + 1) = a7 ++ [(j : Int)]) := by
            show _ = _
            rw [sel_yes (by unfold metO; rw [HK.out]; simp; omega), HA7.out]
          obtain ⟨b7, hb7⟩ : ∃ b, a7 ++ [(j : Int)] = b := ⟨_, rfl⟩
          rw [hb7] at HM7 hV4
          clear hb7
          obtain ⟨lm, hlm⟩ : ∃ lm, a7.length = lm := ⟨_, rfl⟩
          rw [hlm] at hr hl7 hV4 ⊢
          have HR2 : Hid ((Builtin.append_ #[25, 25] 25 #[.slice pr lm cr, .slice (some ⟨w2.heap.size, 0, none⟩) 1 1]).run Tryz.prog (w2.alloc (.cells #[.int .i64 (j : Int)] 3)) = .ok (.slice (some ⟨g3, 0, none⟩) (lm + 1) cc3) w4) := hr
          have HV4 : Hid (I2 w1 u6 a6 (.slice (some ⟨g3, 0, none⟩) (lm + 1) cc3) b7 w4) := hV4.swap
          clear hV4 HV2 hr hlm HA7
          go_wp2_with (first | (at_builtin; refine wpList_append_eq rfl _ _ 25 rfl _ _ _ _ rfl rfl HR2.out ?_))
          exact ⟨⟨j + 1, by simp, hlt, fun h => absurd rfl h, by rw [HM6.out, HM7.out]; exact HV4⟩, by simp [intOf]; omega⟩
        · have hk2 : ¬ (0 : Int) < (k : Int) := by omega
          have HM7 : Hid (sel (metO T n f) (j + 1) = a7) := by
            show _ = _
            rw [sel_no (by unfold metO; rw [HK.out]; simp; omega), HA7.out]
          go_wp2_with fail
          exact ⟨⟨j + 1, by simp, hlt, fun h => absurd rfl h, by rw [HM6.out, HM7.out]; exact HV2⟩, by simp [intOf]; omega⟩
    · by_cases hx0 : x = 0
      · have hj2 : ¬ (j : Int) < (q : Int) := by omega
        have hx1 : (x == 0) = true := by simp [hx0]
        have HJ1 : Hid (x = 0 → j = T.q) := fun _ => by have := HEQ.out; omega
        clear hlt hx0
        have hjq : j ≤ q := hj
        have HB : Hid (Bw w wr) := HB1.out.tr HV.out.l.below
        obtain ⟨pa, ca, rfl, hia⟩ := HV.out.l.im
        obtain ⟨pb, cb, rfl, hib⟩ := HV.out.r.im
        have HPJ : Hid (∀ wx, Bw w wx → Calls Tryz.prog 6 #[.slice p q cp, .slice p2 n c2] wx fun e w' => ∃ pv cv, e = .returned (.tuple #[.slice pv (sel (metA T n f) j).length cv, errV x]) ∧ IM w' pv (sel (metA T n f) j).length (fun i => (sel (metA T n f) j).getD i 0) ∧ Bw wx w') := fun wx hb => (HP.out wx hb).mono fun e w' h => h.im HX.out HJ.out HJ1.out
        have HAJ : Hid (∀ wx, Bw w wx → Calls Tryz.prog 8 #[.slice p q cp, .slice p2 n c2] wx fun e w' => ∃ pv cv, e = .returned (.tuple #[.slice pv (sel (metO T n f) j).length cv, errV x]) ∧ IM w' pv (sel (metO T n f) j).length (fun i => (sel (metO T n f) j).getD i 0) ∧ Bw wx w') := fun wx hb => (HA.out wx hb).mono fun e w' h => h.im HX.out HJ.out HJ1.out
        have hl6 := sel_len (metA T n f) j
        have hl7 := sel_len (metO T n f) j
        have HI6 := HI.out (sel (metA T n f) j)
        have HI7 := HI.out (sel (metO T n f) j)
        generalize (fun i => (sel (metA T n f) j).getD i 0) = n6 at HPJ HI6 hia
        generalize (fun i => (sel (metO T n f) j).getD i 0) = n7 at HAJ HI7 hib
        generalize (sel (metA T n f) j).length = l6 at HPJ HI6 hia hl6 ⊢
        generalize (sel (metO T n f) j).length = l7 at HAJ HI7 hib hl7 ⊢
        have HEX := fun wx => HE.out wx x
        generalize errV x = ev at HPJ HAJ HEX
        have HEX : Hid (∀ wx, Bw w wx → Calls Tryz.prog 7 #[ev, .int .i64 x] wx fun r w' => r = .returned (.bool true) ∧ Bw wx w') := HEX
        have J6 : Hid (∀ pv cv pv' cv' wx, IM wx pv l6 n6 → IM wx pv' l6 n6 → Calls Tryz.prog 9 #[.slice pv l6 cv, .slice pv' l6 cv'] wx fun e w' => e = .returned (.bool true) ∧ Bw wx w') := fun pv cv pv' cv' wx => HI6 pv cv pv' cv' wx (by omega)
        have J7 : Hid (∀ pv cv pv' cv' wx, IM wx pv l7 n7 → IM wx pv' l7 n7 → Calls Tryz.prog 9 #[.slice pv l7 cv, .slice pv' l7 cv'] wx fun e w' => e = .returned (.bool true) ∧ Bw wx w') := fun pv cv pv' cv' wx => HI7 pv cv pv' cv' wx (by omega)
        have HIA : Hid (IM wr pa l6 n6) := hia
        have HIB : Hid (IM wr pb l7 n7) := hib
        clear hia hib HI6 HI7 HI HV HP HA HE HM HT
        have G := HPJ.out wr HB.out
        go_wp2_with fail
        refine G.mono ?_
        clear G
        rintro e w3 ⟨pv, cv, rfl, hi, hb⟩
        have HB3 : Hid (Bw w w3) := HB.out.tr hb
        have HV3 : Hid (IM w3 pv l6 n6) := hi
        have HA3 : Hid (IM w3 pa l6 n6) := HIA.out.next hb
        have HC3 : Hid (IM w3 pb l7 n7) := HIB.out.next hb
        clear hi hb HIA HIB
        have G := HEX.out w3 HB3.out
        go_wp2_with fail
        refine G.mono ?_
        clear G
        rintro e w4 ⟨rfl, hb⟩
        have HB4 : Hid (Bw w w4) := HB3.out.tr hb
        have HV4 : Hid (IM w4 pv l6 n6) := HV3.out.next hb
        have HA4 : Hid (IM w4 pa l6 n6) := HA3.out.next hb
        have HC4 : Hid (IM w4 pb l7 n7) := HC3.out.next hb
        clear hb HV3 HA3 HC3
        have G := HAJ.out w4 HB4.out
        go_wp2_with fail
        refine G.mono ?_
        clear G
        rintro e w5 ⟨pu, cu, rfl, hi, hb⟩
        have HB5 : Hid (Bw w w5) := HB4.out.tr hb
        have HU5 : Hid (IM w5 pu l7 n7) := hi
        have HV5 : Hid (IM w5 pv l6 n6) := HV4.out.next hb
        have HA5 : Hid (IM w5 pa l6 n6) := HA4.out.next hb
        have HC5 : Hid (IM w5 pb l7 n7) := HC4.out.next hb
        clear hi hb HV4 HA4 HC4
        have G := HEX.out w5 HB5.out
        go_wp2_with fail
        refine G.mono ?_
        clear G
        rintro e w6 ⟨rfl, hb⟩
        have HB6 : Hid (Bw w w6) := HB5.out.tr hb
        have HU6 : Hid (IM w6 pu l7 n7) := HU5.out.next hb
        have HC6 : Hid (IM w6 pb l7 n7) := HC5.out.next hb
        have G := J6.out pv cv pa ca w6 (HV5.out.next hb) (HA5.out.next hb)
        clear hb HV5 HA5 HC5 HU5
        go_wp2_with fail
        refine G.mono ?_
        clear G
        rintro e w7 ⟨rfl, hb⟩
        have HB7 : Hid (Bw w w7) := HB6.out.tr hb
        have G := J7.out pu cu pb cb w7 (HU6.out.next hb) (HC6.out.next hb)
        clear hb HU6 HC6
        go_wp2_with fail
        refine G.mono ?_
        clear G
        rintro e w8 ⟨rfl, hb⟩
        have HB8 : Hid (Bw w w8) := HB7.out.tr hb
        clear hb
        go_wp2_with fail
        go_ret
        exact ⟨by simp, HB8.out⟩
      · have hx1 : (x == 0) = false := by simp [hx0]
        have HJ1 : Hid (x = 0 → j = T.q) := fun h => absurd h hx0
        clear hlt hx0
        have hjq : j ≤ q := hj
        have HB : Hid (Bw w wr) := HB1.out.tr HV.out.l.below
        obtain ⟨pa, ca, rfl, hia⟩ := HV.out.l.im
        obtain ⟨pb, cb, rfl, hib⟩ := HV.out.r.im
        have HPJ : Hid (∀ wx, Bw w wx → Calls Tryz.prog 6 #[.slice p q cp, .slice p2 n c2] wx fun e w' => ∃ pv cv, e = .returned (.tuple #[.slice pv (sel (metA T n f) j).length cv, errV x]) ∧ IM w' pv (sel (metA T n f) j).length (fun i => (sel (metA T n f) j).getD i 0) ∧ Bw wx w') := fun wx hb => (HP.out wx hb).mono fun e w' h => h.im HX.out HJ.out HJ1.out
        have HAJ : Hid (∀ wx, Bw w wx → Calls Tryz.prog 8 #[.slice p q cp, .slice p2 n c2] wx fun e w' => ∃ pv cv, e = .returned (.tuple #[.slice pv (sel (metO T n f) j).length cv, errV x]) ∧ IM w' pv (sel (metO T n f) j).length (fun i => (sel (metO T n f) j).getD i 0) ∧ Bw wx w') := fun wx hb => (HA.out wx hb).mono fun e w' h => h.im HX.out HJ.out HJ1.out
        have hl6 := sel_len (metA T n f) j
        have hl7 := sel_len (metO T n f) j
        have HI6 := HI.out (sel (metA T n f) j)
        have HI7 := HI.out (sel (metO T n f) j)
        generalize (fun i => (sel (metA T n f) j).getD i 0) = n6 at HPJ HI6 hia
        generalize (fun i => (sel (metO T n f) j).getD i 0) = n7 at HAJ HI7 hib
        generalize (sel (metA T n f) j).length = l6 at HPJ HI6 hia hl6 ⊢
        generalize (sel (metO T n f) j).length = l7 at HAJ HI7 hib hl7 ⊢
        have HEX := fun wx => HE.out wx x
        generalize errV x = ev at HPJ HAJ HEX
        have HEX : Hid (∀ wx, Bw w wx → Calls Tryz.prog 7 #[ev, .int .i64 x] wx fun r w' => r = .returned (.bool true) ∧ Bw wx w') := HEX
        have J6 : Hid (∀ pv cv pv' cv' wx, IM wx pv l6 n6 → IM wx pv' l6 n6 → Calls Tryz.prog 9 #[.slice pv l6 cv, .slice pv' l6 cv'] wx fun e w' => e = .returned (.bool true) ∧ Bw wx w') := fun pv cv pv' cv' wx => HI6 pv cv pv' cv' wx (by omega)
        have J7 : Hid (∀ pv cv pv' cv' wx, IM wx pv l7 n7 → IM wx pv' l7 n7 → Calls Tryz.prog 9 #[.slice pv l7 cv, .slice pv' l7 cv'] wx fun e w' => e = .returned (.bool true) ∧ Bw wx w') := fun pv cv pv' cv' wx => HI7 pv cv pv' cv' wx (by omega)
        have HIA : Hid (IM wr pa l6 n6) := hia
        have HIB : Hid (IM wr pb l7 n7) := hib
        clear hia hib HI6 HI7 HI HV HP HA HE HM HT
        have G := HPJ.out wr HB.out
        go_wp2_with fail
        refine G.mono ?_
        clear G
        rintro e w3 ⟨pv, cv, rfl, hi, hb⟩
        have HB3 : Hid (Bw w w3) := HB.out.tr hb
        have HV3 : Hid (IM w3 pv l6 n6) := hi
        have HA3 : Hid (IM w3 pa l6 n6) := HIA.out.next hb
        have HC3 : Hid (IM w3 pb l7 n7) := HIB.out.next hb
        clear hi hb HIA HIB
        have G := HEX.out w3 HB3.out
        go_wp2_with fail
        refine G.mono ?_
        clear G
        rintro e w4 ⟨rfl, hb⟩
        have HB4 : Hid (Bw w w4) := HB3.out.tr hb
        have HV4 : Hid (IM w4 pv l6 n6) := HV3.out.next hb
        have HA4 : Hid (IM w4 pa l6 n6) := HA3.out.next hb
        have HC4 : Hid (IM w4 pb l7 n7) := HC3.out.next hb
        clear hb HV3 HA3 HC3
        have G := HAJ.out w4 HB4.out
        go_wp2_with fail
        refine G.mono ?_
        clear G
        rintro e w5 ⟨pu, cu, rfl, hi, hb⟩
        have HB5 : Hid (Bw w w5) := HB4.out.tr hb
        have HU5 : Hid (IM w5 pu l7 n7) := hi
        have HV5 : Hid (IM w5 pv l6 n6) := HV4.out.next hb
        have HA5 : Hid (IM w5 pa l6 n6) := HA4.out.next hb
        have HC5 : Hid (IM w5 pb l7 n7) := HC4.out.next hb
        clear hi hb HV4 HA4 HC4
        have G := HEX.out w5 HB5.out
        go_wp2_with fail
        refine G.mono ?_
        clear G
        rintro e w6 ⟨rfl, hb⟩
        have HB6 : Hid (Bw w w6) := HB5.out.tr hb
        have HU6 : Hid (IM w6 pu l7 n7) := HU5.out.next hb
        have HC6 : Hid (IM w6 pb l7 n7) := HC5.out.next hb
        have G := J6.out pv cv pa ca w6 (HV5.out.next hb) (HA5.out.next hb)
        clear hb HV5 HA5 HC5 HU5
        go_wp2_with fail
        refine G.mono ?_
        clear G
        rintro e w7 ⟨rfl, hb⟩
        have HB7 : Hid (Bw w w7) := HB6.out.tr hb
        have G := J7.out pu cu pb cb w7 (HU6.out.next hb) (HC6.out.next hb)
        clear hb HU6 HC6
        go_wp2_with fail
        refine G.mono ?_
        clear G
        rintro e w8 ⟨rfl, hb⟩
        have HB8 : Hid (Bw w w8) := HB7.out.tr hb
        clear hb
        go_wp2_with fail
        go_ret
        exact ⟨by simp, HB8.out⟩
end Go.Proofs.YtjbdpcnebilmbaaGreatDoor.so
