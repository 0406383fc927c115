/- The law PastPlays, whole. Conditions: as each theorem says. -/
import Derived.Test.YtcekgefkimbfaaaGreatDoorJn
import Derived.Test.YtcekgefkimbfaaaGreatDoorJa
import Derived.ProofKit
import Derived.OpenShut
import Derived.Deep.Slices
import Derived.Deep.Strs
import Derived.Lib.SmallJoins
import Derived.Lay
import Derived.Test.YtcekgefkimbfaaaGreatDoorJb
import Derived.Test.YtcekgefkimbfaaaGreatDoorAs
import Derived.Test.YtcekgefkimbfaaaGreatDoorTie
import Derived.Test.YtcekgefkimbfaaaGreatDoorCards
import Derived.LaidMore
import Derived.LaidSub
import Derived.Stop.Joined
import Derived.SevenTiedAt
import Derived.Stop.LaidErr
import Derived.Lib.LaidTab
import Derived.ReadAgain
import Derived.ChangeOld
import Derived.Handed
import Derived.Below
import Derived.SizedLaws
import Derived.Shelf.Vars
import Derived.MakeChecks
namespace Go.Proofs.YtcekgefkimbfaaaGreatDoor.ps
open Go.RowKit
open adr (C isC)
theorem RI.mono {w0 : World} {bp i j : Nat} {A : List (List Fl)} {k : Nat} {vA : Value} {w : World} (h : RI w0 bp i A k vA w) (hij : i ≤ j) : RI w0 bp j A k vA w := by
  obtain ⟨st, x, vn, vs, vals, hp, hx, hps, hal, hl, hB⟩ := h
  exact ⟨st, x, vn, vs, vals, hp, hx, hps, hal, by omega, hB⟩
theorem RI.first {w0 w : World} {bp : Nat} {xs : List Fl} {p : Option Addr} {c : Nat} {vn : Value} (hx : FM w0 p xs) (hS : Sh xs) (hl : xs.length ≤ 200) (hps : PS w bp xs [] 0 vn (.slice none 0 0)) (hB : Below w0.heap.size w0 w) :
    RI w0 bp 1 [xs] 0 (.slice (some ⟨w.heap.size, 0, none⟩) 1 1) (w.alloc (.cells #[.slice p xs.length c] 22)) := by
  have hb : Below w.heap.size w (w.alloc (.cells #[.slice p xs.length c] 22)) := (Below.refl _ _).alloc (Nat.le_refl _) _
  refine ⟨[], xs, vn, .slice none 0 0, [.slice p xs.length c], PL.one hS hl, rfl, hps.next hb, ⟨⟨rfl, .inr ⟨w.heap.size, 1, #[.slice p xs.length c], rfl, hB.size, heap_alloc_new _ _, Nat.le_refl _, by decide, rfl, rfl⟩⟩, fun i x h => ?_⟩, Nat.le_refl _, bnext hB hb hB.size⟩
  have hi := (List.getElem?_eq_some_iff.1 h).1
  simp at hi
  subst hi
  have e : xs = x := by simpa using h
  subst e
  exact ⟨p, c, rfl, .inl hx⟩
set_option maxRecDepth 1000000 in
set_option maxHeartbeats 16000000 in
theorem plays_any (p pi q : Option Addr) (c ci d : Nat) (xs ys : List Fl) (is : List Int) (w : World) (hx : FM w p xs) (hi : IM w pi is) (hy : FM w q ys) (hyl : ys.length ≤ 4398046511104) (hil : is.length ≤ 9223372036854775807) (hE : EnvP w) (hT : ErrTy w) (hc : p = none → c = 0) :
    Calls Tryz.prog 3 #[.slice p xs.length c, .slice pi is.length ci, .slice q ys.length d] w fun e w' => e = .returned (.bool true) ∧ Below w.heap.size w w' := by
  have H6 : Hid (Calls Tryz.prog 6 #[.slice p xs.length c] w fun e w' => (∃ t, e = .returned (.int .i64 t) ∧ Told xs t) ∧ Below w.heap.size w w') := rcheck_any p c xs w hx
  have H7 : Hid (∀ wx, Below w.heap.size w wx → Calls Tryz.prog 7 #[.slice p xs.length c] wx fun e w' => (∃ ptr t, e = .returned (.tuple #[ptr, errV t]) ∧ Told xs t ∧ NW wx xs t ptr w') ∧ Below wx.heap.size wx w') := fun wx hb => new_any p c xs wx (hx.below hb) (hE.below hb hE.size) hc
  obtain ⟨n, hn⟩ : ∃ n, xs.length = n := ⟨_, rfl⟩
  obtain ⟨m, hm⟩ : ∃ m, ys.length = m := ⟨_, rfl⟩
  obtain ⟨ni, hni⟩ : ∃ ni, is.length = ni := ⟨_, rfl⟩
  have HX : Hid (FM w p xs ∧ xs.length = n ∧ IM w pi is ∧ is.length = ni) := ⟨hx, hn, hi, hni⟩
  have HY : Hid (FM w q ys ∧ ys.length = m) := ⟨hy, hm⟩
  have HE : Hid (EnvP w ∧ ErrTy w) := ⟨hE, hT⟩
  have hmB : (m : Int) ≤ 4398046511104 := by omega
  have hnB : (ni : Int) ≤ 9223372036854775807 := by omega
  rw [hn] at H6 H7 ⊢
  rw [hm, hni]
  clear hx hi hy hyl hil hE hT hc hn hm hni
  go_enter Tryz.func3, Tryz.ntmps3
  go_wp2_with fail
  refine H6.out.mono ?_
  rintro e w1 ⟨⟨t, rfl, ht⟩, hb1⟩
  have HT : Hid (Told xs t) := ht
  have HB1 : Hid (Below w.heap.size w w1) := hb1
  have H7' : Hid (Calls Tryz.prog 7 #[.slice p n c] w1 fun e w' => (∃ ptr, e = .returned (.tuple #[ptr, errV t]) ∧ NW w1 xs t ptr w') ∧ Below w1.heap.size w1 w') := (H7.out w1 hb1).mono (fun e w' ⟨⟨ptr, t2, e1, e2, e3⟩, e4⟩ => by
    obtain rfl := e2.one ht
    exact ⟨⟨ptr, e1, e3⟩, e4⟩)
  clear ht hb1 H6 H7
  go_wp2_with fail
  refine H7'.out.mono ?_
  rintro e w2 ⟨⟨ptr, rfl, hw2⟩, hb2⟩
  have HB2 : Hid (Below w.heap.size w w2 ∧ NW w1 xs t ptr w2) := ⟨bnext HB1.out hb2 HB1.out.size, hw2⟩
  have H8 : Hid (Calls Tryz.prog 8 #[errV t, .int .i64 t] w2 fun r w' => r = .returned (.bool true) ∧ Below w2.heap.size w2 w') := told_same t w2 (HE.out.2.below HB2.out.1 (Nat.lt_of_lt_of_le (by decide : 0 < 1) HE.out.2.1))
  clear hw2 hb2 H7'
  generalize errV t = ve at *
  go_wp2_with fail
  refine H8.out.mono ?_
  rintro e w3 ⟨rfl, hb3⟩
  have HB3 : Hid (Below w2.heap.size w2 w3) := hb3
  clear hb3 H8
  by_cases h0 : t = 0
  · subst h0
    obtain ⟨bp, vn, rfl, hbp, hps⟩ : ∃ bp vn, ptr = .pointer (some ⟨bp, 0, none⟩) ∧ w1.heap.size ≤ bp ∧ PS w2 bp xs [] 0 vn (.slice none 0 0) := by
      rcases HB2.out.2 with ⟨h, -⟩ | ⟨-, h⟩
      · exact absurd rfl h
      · exact h
    have hRI := RI.first (w0 := w) (w := w3) (bp := bp) (c := c) HX.out.1 HT.out.sh HT.out.le (hps.next HB3.out) (bnext HB2.out.1 HB3.out HB2.out.1.size)
    rw [HX.out.2.1] at hRI
    have HR0 : Hid (RI w bp 1 [xs] 0 (.slice (some ⟨w3.heap.size, 0, none⟩) 1 1) (w3.alloc (.cells #[.slice p n c] 22)) ∧ w.heap.size ≤ bp) := ⟨hRI, by have := HB1.out.size; omega⟩
    clear hRI hps hbp HB1 HB2 HB3 HT
    go_wp2_with fail
    go_loopw [11, 12, 13, 14] (fun s11 s12 s13 s14 wr => ∃ (ii k u : Nat) (A : List (List Fl)) (ga ca N : Nat), s14 = .int .i64 ii ∧ s12 = .int .i64 k ∧ s13 = .int .i64 u ∧ s11 = .slice (some ⟨ga, 0, none⟩) N ca ∧ ii ≤ 60 ∧ u ≤ m ∧ k < N ∧ N ≤ ca ∧ N ≤ 100 ∧ Hid (RI w bp (ii + 1) A k (.slice (some ⟨ga, 0, none⟩) N ca) wr ∧ A.length = N)) (fun _ _ _ s14 _ => 60 - (intOf s14).toNat)
    case atStart => exact ⟨0, 0, 0, [xs], w3.heap.size, 1, 1, rfl, rfl, rfl, rfl, by omega, Nat.zero_le _, by omega, by omega, by omega, ⟨HR0.out.1, rfl⟩⟩
    case round =>
      obtain ⟨ii, k, u, A, ga, ca, N, rfl, rfl, rfl, rfl, hii60, hum, hkN', hNca', hN100, HR⟩ := hrel
      have hN : (N : Int) ≤ 100 := by omega
      have hkN : (k : Int) < (N : Int) := by omega
      have hk0 : (0 : Int) ≤ (k : Int) := by omega
      have hNc : (N : Int) ≤ (ca : Int) := by omega
      have hii0 : (0 : Int) ≤ (ii : Int) := by omega
      have HBp : Hid (w.heap.size ≤ bp) := HR0.out.2
      clear HR0
      by_cases h1 : ii < ni
      · have h1' : (ii : Int) < (ni : Int) := by omega
        by_cases h2 : ii < 60
        · have h2' : (ii : Int) < 60 := by omega
          obtain ⟨v, hv⟩ : ∃ v, is[ii]? = some v := ⟨_, List.getElem?_eq_getElem (by rw [HX.out.2.2.2]; exact h1)⟩
          obtain ⟨gi, oi, rfl, hgi, hcv⟩ := HX.out.2.2.1.at hv
          have HV : Hid (∀ wx, Below w.heap.size w wx → wx.cell? ⟨gi, oi + ii, none⟩ = some (.int .i64 v)) := fun wx hb => (hb.cell (p := ⟨gi, oi + ii, none⟩) hgi).trans hcv
          have HBr : Hid (Below w.heap.size w wr) := by
            obtain ⟨st, x, vn, vs, vals, hp, hx, hps, hal, hl, hB⟩ := HR.out.1
            exact hB
          have HB : Hid (w.heap.size ≤ bp ∧ ii + 1 ≤ 99 ∧ A.length = N) := ⟨HBp.out, by omega, HR.out.2⟩
          have HRi : Hid (RI w bp (ii + 1) A k (.slice (some ⟨ga, 0, none⟩) N ca) wr) := HR.out.1
          have q0 := HV.out wr HBr.out
          clear hv hgi hcv HR
          go_upto_region 12 with fail
          go_cut [59] (fun s59 wx => s59 = .int .i64 v ∧ wr = wx)
          case first =>
            go_wp2_with fail
            go_meet
            case rel => exact ⟨rfl, rfl⟩
          case rest =>
          obtain ⟨rfl, rfl⟩ := hcut
          clear q0
          go_upto_block 2 with fail
          go_cut [11, 12, 13] (fun s11 s12 s13 wx => ∃ (k' u' ga' ca' N' : Nat) (A' : List (List Fl)), s12 = .int .i64 k' ∧ s13 = .int .i64 u' ∧ s11 = .slice (some ⟨ga', 0, none⟩) N' ca' ∧ u' ≤ m ∧ Hid (RI w bp (ii + 2) A' k' (.slice (some ⟨ga', 0, none⟩) N' ca') wx ∧ A'.length = N'))
          case first =>
            by_cases hv0 : v = 0
            · subst hv0
              have hk1 : (k : Int) ≤ 100 := by omega
              have HB' : Hid (w.heap.size ≤ bp ∧ ii + 1 ≤ 100) := ⟨HB.out.1, by omega⟩
              go_upto_if 176 with fail
              refine wp_cond_true rfl ?_
              refine armU _ w bp (ii + 1) A k (.slice (some ⟨ga, 0, none⟩) N ca) HB' wr HRi hk1 _ _ _ _ _ _ _ _ _ _ _ _ _ _ _ _ _ _ _ _ _ _ _ _ _ _ _ _ _ _ _ _ _ _ _ _ _ _ _ _ _ _ _ _ _ _ _ _ _ _ _ _ _ _ _ _ _ _ _ _ _ _ _ _ _ _ _ _ _ _ _ _ _ _ _ _ _ _ _ _ _ _ _ _ _ _ _ _ _ _ _ _ _ _ _ _ _ _ _ _ _ _ _ _ _ _ _ _ _ _ _ _ _ _ _ _ _ _ _ _ _ _ _ _ _ _ _ _ _ _ _ _ _ _ _ _ _ _ _ _ _ _ _ _ _ _ _ _ _ _ _ _ _ _ _ _ _ _ _ _ _ _ _ _ _ _ _ _ _ _ _ _ _ _ _ _ _ _ _ _ _ _ _ _ _ _ _ _ _ _ _ _ _ _ _ _ _ _ _ _ _ _ _ _ _ _ _ _ _ _ _ _ _ _ _ _ _ _ _ _ _ _ _ _ _ _ _ _ _ _ _ _ _ ?_
              intro _ _ _ _ _ _ _ _ _ _ _ w' hr
              have HR2 : Hid (RI w bp (ii + 2) A (k - 1) (.slice (some ⟨ga, 0, none⟩) N ca) w') := hr.mono (by omega)
              clear hr HRi
              go_wp2_with fail
              go_meet
              case rel => exact ⟨k - 1, u, ga, ca, N, A, rfl, rfl, rfl, hum, ⟨HR2.out, HB.out.2.2⟩⟩
            · by_cases hv1 : v = 1
              · subst hv1
                go_upto_if 176 with fail
                refine wp_cond_false rfl ?_
                go_upto_if 188 with fail
                refine wp_cond_true rfl ?_
                refine armR _ w bp (ii + 1) A k ga ca N ⟨HB.out.1, by omega, HB.out.2.2⟩ hN hkN hk0 hNc wr HRi _ _ _ _ _ _ _ _ _ _ _ _ _ _ _ _ _ _ _ _ _ _ _ _ _ _ _ _ _ _ _ _ _ _ _ _ _ _ _ _ _ _ _ _ _ _ _ _ _ _ _ _ _ _ _ _ _ _ _ _ _ _ _ _ _ _ _ _ _ _ _ _ _ _ _ _ _ _ _ _ _ _ _ _ _ _ _ _ _ _ _ _ _ _ _ _ _ _ _ _ _ _ _ _ _ _ _ _ _ _ _ _ _ _ _ _ _ _ _ _ _ _ _ _ _ _ _ _ _ _ _ _ _ _ _ _ _ _ _ _ _ _ _ _ _ _ _ _ _ _ _ _ _ _ _ _ _ _ _ _ _ _ _ _ _ _ _ _ _ _ _ _ _ _ _ _ _ _ _ _ _ _ _ _ _ _ _ _ _ _ _ _ _ _ _ _ _ _ _ _ _ _ _ _ _ _ _ _ _ _ _ _ _ _ _ _ _ _ _ _ _ _ _ _ _ _ _ _ _ _ _ _ ?_
                intro _ _ _ _ _ _ _ _ _ _ _ _ _ _ _ _ _ w' hr
                have HR2 : Hid (RI w bp (ii + 2) A (goOn k N) (.slice (some ⟨ga, 0, none⟩) N ca) w') := hr.mono (by omega)
                clear hr HRi
                go_wp2_with fail
                go_meet
                case rel => exact ⟨goOn k N, u, ga, ca, N, A, rfl, rfl, rfl, hum, ⟨HR2.out, HB.out.2.2⟩⟩
              · have b0 : (v == 0) = false := by simpa using hv0
                have b1 : (v == 1) = false := by simpa using hv1
                go_upto_if 176 with fail
                refine wp_cond_false (by simp [Act.eval]) ?_
                go_upto_if 188 with fail
                refine wp_cond_false (by simp [Act.eval]) ?_
                refine arm13 _ w bp (ii + 1) A k ga ca N HB hN hkN hk0 hNc ys q m d HY hmB gi oi ni ci ii v h1' hii0 HV u hum HE wr HRi _ _ _ _ _ _ _ _ _ _ _ _ _ _ _ _ _ _ _ _ _ _ _ _ _ _ _ _ _ _ _ _ _ _ _ _ _ _ _ _ _ _ _ _ _ _ _ _ _ _ _ _ _ _ _ _ _ _ _ _ _ _ _ _ _ _ _ _ _ _ _ _ _ _ _ _ _ _ _ _ _ _ _ _ _ _ _ _ _ _ _ _ _ _ _ _ _ _ _ _ _ _ _ _ _ _ _ _ _ _ _ _ _ _ _ _ _ _ _ _ _ _ _ _ _ _ _ _ _ _ _ _ _ _ _ _ _ _ _ _ _ _ _ _ _ _ _ _ _ _ _ _ _ _ _ _ _ _ _ _ _ _ _ _ _ _ _ _ _ _ _ _ _ _ _ _ _ _ _ _ _ _ _ _ _ _ _ _ _ _ _ _ _ _ _ _ _ _ _ _ _ _ _ _ _ _ _ _ _ _ _ _ _ _ _ _ _ _ _ _ _ _ _ _ _ _ _ _ ?_
                intro _ _ _ _ _ _ _ _ _ _ _ _ _ _ _ _ _ _ _ _ _ _ _ _ _ _ _ _ _ _ _ _ _ _ _ _ _ _ _ _ _ _ _ _ _ _ _ _ _ _ _ _ _ _ _ _ _ _ _ _ _ _ _ _ _ _ _ _ _ _ _ _ _ _ _ _ _ _ _ _ _ _ _ _ _ _ _ _ _ _ _ _ _ _ _ _ _ _ _ _ _ _ _ _ _ _ _ _ _ _ _ _ _ _ _ _ _ _ _ _ _ _ _ _ _ _ _ _ _ _ _ _ _ _ _ _ _ _ _ _ _ _ _ _ _ _ _ _ _ _ _ _ _ _ _ _ _ _ _ _ _ _ _ _ _ _ _ _ _ _ _ _ _ _ _ _ _ _ _ _ _ _ _ _ _ _ _ _ _ _ _ _ _ _ _ _ _ k' u' A' vA' w' hu' hr
                obtain ⟨ga', ca', rfl, hf1, hf2, hf3⟩ := hr.form
                have HR2 : Hid (RI w bp (ii + 2) A' k' (.slice (some ⟨ga', 0, none⟩) A'.length ca') w') := hr
                obtain ⟨N', hN'⟩ : ∃ N', A'.length = N' := ⟨_, rfl⟩
                have HN' : Hid (A'.length = N') := hN'
                rw [hN'] at HR2 ⊢
                clear hr hf1 hf2 hf3 hN' HRi
                go_wp2_with fail
                go_meet
                case rel => exact ⟨k', u', ga', ca', N', A', rfl, rfl, rfl, hu', ⟨HR2.out, HN'.out⟩⟩
          case rest =>
          obtain ⟨k', u', ga', ca', N', A', rfl, rfl, rfl, hu', HR2⟩ := hcut
          obtain ⟨gx, cx, ex, hf1, hf2, hf3⟩ := HR2.out.1.form
          injection ex with ex1 ex2 ex3
          injection ex1 with ex1
          injection ex1 with ex1
          subst ex1 ex3
          have HR3 : Hid (RI w bp (ii + 2) A' k' (.slice (some ⟨ga', 0, none⟩) N' ca') wc) := HR2.out.1
          have HBN : Hid (w.heap.size ≤ bp ∧ ii + 2 ≤ 100 ∧ A'.length = N') := ⟨HB.out.1, by omega, HR2.out.2⟩
          rw [HR2.out.2] at hf1 hf2 hf3
          have g1 : (N' : Int) ≤ 100 := by omega
          have g2 : (k' : Int) < (N' : Int) := by omega
          have g3 : (0 : Int) ≤ (k' : Int) := by omega
          have g4 : (N' : Int) ≤ (ca' : Int) := by omega
          clear HR2 ex2 HRi
          apply_assumption
          refine tail54 _ w bp (ii + 2) A' k' ga' ca' N' HBN g1 g2 g3 g4 wc HR3 _ _ _ _ _ _ _ _ _ _ _ _ _ _ _ _ _ _ _ _ _ _ _ _ _ _ _ _ _ _ _ _ _ _ _ _ _ _ _ _ _ _ _ _ _ _ _ _ _ _ _ _ _ _ _ _ _ _ _ _ _ _ _ _ _ _ _ _ _ _ _ _ _ _ _ _ _ _ _ _ _ _ _ _ _ _ _ _ _ _ _ _ _ _ _ _ _ _ _ _ _ _ _ _ _ _ _ _ _ _ _ _ _ _ _ _ _ _ _ _ _ _ _ _ _ _ _ _ _ _ _ _ _ _ _ _ _ _ _ _ _ _ _ _ _ _ _ _ _ _ _ _ _ _ _ _ _ _ _ _ _ _ _ _ _ _ _ _ _ _ _ _ _ _ _ _ _ _ _ _ _ _ _ _ _ _ _ _ _ _ _ _ _ _ _ _ _ _ _ _ _ _ _ _ _ _ _ _ _ _ _ _ _ _ _ _ _ _ _ _ _ _ _ _ _ _ _ _ _ _ _ _ ?_
          intro _ _ _ _ _ _ _ _ _ _ _ _ _ _ _ _ _ _ _ _ _ _ _ _ _ _ _ _ _ _ _ _ _ w' hr
          have HR4 : Hid (RI w bp (ii + 2) A' k' (.slice (some ⟨ga', 0, none⟩) N' ca') w') := hr
          clear hr HR3
          go_wp2_with fail
          exact ⟨⟨ii + 1, k', u', A', ga', ca', N', rfl, rfl, rfl, rfl, by omega, hu', by omega, by omega, by omega, ⟨HR4.out, HBN.out.2.2⟩⟩, by simp [intOf]; omega⟩
        · have h2' : ¬ (ii : Int) < 60 := by omega
          have HBr : Hid (Below w.heap.size w wr) := by
            obtain ⟨st, x, vn, vs, vals, hp, hx, hps, hal, hl, hB⟩ := HR.out.1
            exact hB
          clear HR
          go_wp2_with fail
          go_ret
          exact ⟨rfl, HBr.out⟩
      · have h1' : ¬ (ii : Int) < (ni : Int) := by omega
        have HBr : Hid (Below w.heap.size w wr) := by
          obtain ⟨st, x, vn, vs, vals, hp, hx, hps, hal, hl, hB⟩ := HR.out.1
          exact hB
        clear HR
        go_wp2_with fail
        go_ret
        exact ⟨rfl, HBr.out⟩
  · have HBe : Hid (Below w.heap.size w w3) := bnext HB2.out.1 HB3.out HB2.out.1.size
    clear HB1 HB2 HB3 HT
    go_wp2_with fail
    go_ret
    exact ⟨rfl, HBe.out⟩
end Go.Proofs.YtcekgefkimbfaaaGreatDoor.ps
/- Lists of cells with their texts that were handed in lie in memory as the walks ask. Conditions: as each theorem says. -/
namespace Go.Proofs.YtcekgefkimbfaaaGreatDoor.ps
open Go.ChangeShapes Go.WideShapes Go.ChangeAt Go.RowKit
theorem vcof3 : Tryz.prog.cellsOf 3 = 1 := by kernel_rfl
theorem vcof9 : Tryz.prog.cellsOf 9 = 1 := by kernel_rfl
theorem vcof30 : Tryz.prog.cellsOf 34 = 2 := by kernel_rfl
theorem vcof33 : Tryz.prog.cellsOf 36 = 3 := by kernel_rfl
theorem add_plain (g o k : Nat) : (⟨g, o, none⟩ : Addr).add k = ⟨g, o + k, none⟩ := by
  unfold Addr.add
  by_cases h : k = 0 <;> simp [h]
theorem l2 {α : Type} {l : List α} (h : l.length = 2) : ∃ a b, l = [a, b] := by
  match l, h with
  | [a, b], _ => exact ⟨a, b, rfl⟩
theorem l3 {α : Type} {l : List α} (h : l.length = 3) : ∃ a b c, l = [a, b, c] := by
  match l, h with
  | [a, b, c], _ => exact ⟨a, b, c, rfl⟩
theorem flF_inv {xs : List Fl} {t : Nat} {u : Value} (h : (flF xs)[t]? = some u) : ∃ i j x, t = i * 3 + j ∧ j < 3 ∧ xs[i]? = some x ∧ (fl3 x)[j]? = some u := by
  have hl := (List.getElem?_eq_some_iff.1 h).1
  rw [flF_len] at hl
  have hi : t / 3 < xs.length := by omega
  have hx : xs[t / 3]? = some (xs[t / 3]) := List.getElem?_eq_getElem hi
  have hj : t % 3 < 3 := Nat.mod_lt _ (by decide)
  have e : t = t / 3 * 3 + t % 3 := by omega
  obtain ⟨v, hv⟩ : ∃ v, (fl3 (xs[t / 3]))[t % 3]? = some v := ⟨_, List.getElem?_eq_getElem (show t % 3 < (fl3 (xs[t / 3])).length from hj)⟩
  have := flF_at hx hv
  rw [← e, h] at this
  injection this with this
  subst this
  exact ⟨t / 3, t % 3, _, e, hj, hx, hv⟩
section
variable {H : Type} {enc : TypeId × Value → H} {W : World} {base : Nat} {spare : Nat → Bool} {held : Bool}
set_option maxRecDepth 100000 in
theorem cell_trod {fuel : Nat} {cs : List Value} {x : DataW H × List MemPlace} (h : DataW.trod enc Tryz.prog W base spare held fuel 34 cs = some x) :
    ∃ (c r : Int), cs = [.int .i64 c, .int .i64 r] := by
  obtain ⟨y0, y1, n, rfl, hl, h0, h1⟩ := trod_struct2 Tryz.underlying34 h
  obtain ⟨a, b, rfl⟩ := l2 (hl.trans vcof30)
  simp only [vcof3, List.drop_zero, List.drop_succ_cons, List.take_succ_cons, List.take_zero] at h0 h1
  obtain ⟨c, e0, -, -⟩ := DataW.trod_int Tryz.underlying3 h0
  obtain ⟨r, e1, -, -⟩ := DataW.trod_int Tryz.underlying3 h1
  simp at e0 e1
  subst e0 e1
  exact ⟨c, r, rfl⟩
set_option maxRecDepth 100000 in
theorem fl_trod {fuel : Nat} {cs : List Value} {x : DataW H × List MemPlace} (h : DataW.trod enc Tryz.prog W base spare held fuel 36 cs = some x) :
    ∃ f : Fl, cs = fl3 f := by
  obtain ⟨y0, y1, n, rfl, hl, h0, h1⟩ := trod_struct2 Tryz.underlying36 h
  obtain ⟨a, b, d, rfl⟩ := l3 (hl.trans vcof33)
  simp only [vcof30, vcof9, List.drop_zero, List.drop_succ_cons, List.take_succ_cons, List.take_zero] at h0 h1
  obtain ⟨c, r, e0⟩ := cell_trod h0
  obtain ⟨s, e1, -, -⟩ := DataW.trod_string Tryz.underlying9 h1
  simp at e0 e1
  obtain ⟨rfl, rfl⟩ := e0
  subst e1
  exact ⟨⟨c, r, s⟩, rfl⟩
set_option maxRecDepth 100000 in
theorem open_fills {r0 : Reach} {b0 : Nat} {v : Value} {d : DataW H} {q : List MemPlace} (hv : Value.okWide Tryz.prog W r0 b0 22 v) (h : DataW.Trod enc Tryz.prog W 0 spare held 22 v d q) :
    ∃ (p : Option Addr) (xs : List Fl) (cap : Nat), v = .slice p xs.length cap ∧ FM W p xs ∧ (p = none → cap = 0) := by
  obtain ⟨p, len, cap, rfl⟩ := okWide_slice Tryz.underlying22 hv
  obtain ⟨fuel, hf⟩ := h
  rcases Go.Deep.open_slice Tryz.underlying22 hf with ⟨e, -⟩ | ⟨a, len', cap', m, n, D, Pl, e, -, hlc, hcm, hm, -, hel⟩
  · simp [Value.cells] at e
    obtain ⟨rfl, rfl, rfl⟩ := e
    exact ⟨none, [], 0, rfl, .inl rfl, fun _ => rfl⟩
  simp [Value.cells] at e
  obtain ⟨rfl, rfl, rfl⟩ := e
  have hle : len ≤ m := by rw [hm]; split <;> omega
  rw [vcof33] at hel
  haveI : Inhabited Fl := ⟨⟨0, 0, nul⟩⟩
  obtain ⟨F, hF⟩ := Go.Deep.choose_lt (α := Fl) (n := len) (p := fun i y => W.cells? 0 (a.add (i * 3)) 3 = some (fl3 y)) (fun i hi => by
    obtain ⟨cs', g1, g2⟩ := hel i (by omega)
    obtain ⟨f, rfl⟩ := fl_trod g2
    exact ⟨f, g1⟩)
  have hlen : ((List.range len).map F).length = len := by simp
  refine ⟨some a, (List.range len).map F, cap, by rw [hlen], ?_, fun e => by cases e⟩
  by_cases h0 : len = 0
  · left; subst h0; rfl
  right
  have hc0 : ∀ i, i < len → ∀ j, j < 3 → W.cell? (a.add (i * 3 + j)) = (fl3 (F i))[j]? := fun i hi j hj => by
    have := (World.cells?_some (hF i hi)).2.2 j hj
    rw [Go.Deep.add_add] at this
    exact this
  have hsp : W.cell? a = some (.int .i64 (F 0).c) := by
    have := hc0 0 (by omega) 0 (by omega)
    simpa [Addr.add] using this
  have hspot := World.cell?_spot hsp
  obtain ⟨g, o, sp⟩ := a
  simp only at hspot
  subst hspot
  refine ⟨g, o, rfl, ?_, fun t u hu => ?_⟩
  · unfold World.cell? at hsp
    rcases Nat.lt_or_ge g W.heap.size with h | h
    · exact h
    · rw [Array.getElem?_eq_none h] at hsp
      simp at hsp
  · obtain ⟨i, j, x, rfl, hj, hx, hu'⟩ := flF_inv hu
    have hi : i < len := by have := (List.getElem?_eq_some_iff.1 hx).1; rw [hlen] at this; exact this
    have hxF : x = F i := by
      rw [List.getElem?_map, List.getElem?_range hi] at hx
      simpa using hx.symm
    subst hxF
    have := hc0 i hi j hj
    rw [add_plain, hu'] at this
    exact this
end
end Go.Proofs.YtcekgefkimbfaaaGreatDoor.ps
/- What the listed package variables read as gives what the walks ask of them. Nothing is walked here. -/
namespace Go.Proofs.YtcekgefkimbfaaaGreatDoor
open Go.ChangeShapes Go.WideShapes Go.ChangeAt Go.RowKit Go.Joins
theorem gSynT : (Tryz.prog.globals[5]?).map (·.type) = some 27 := by kernel_rfl
theorem gRanT : (Tryz.prog.globals[6]?).map (·.type) = some 27 := by kernel_rfl
theorem gPowT : (Tryz.prog.globals[4]?).map (·.type) = some 230 := by kernel_rfl
theorem gBadT : (Tryz.prog.globals[2]?).map (·.type) = some 216 := by kernel_rfl
theorem cells112 : Tryz.prog.cellsOf 250 = 1 := by kernel_rfl
theorem cells9 : Tryz.prog.cellsOf 9 = 1 := by kernel_rfl
theorem cells105 : Tryz.prog.cellsOf 230 = 20 := by kernel_rfl
theorem cells51 : Tryz.prog.cellsOf 216 = 6 := by kernel_rfl
theorem star : "*" ++ "errors.errorString" = "*errors.errorString" := by decide
theorem row110 (u : TypeId) (h : Tryz.prog.typeName? 3 u = some "*errors.errorString") : u = 248 :=
  typeName_ptr_named (nm := "errors.errorString") (by rw [star]; kernel_rfl) (by kernel_rfl) (by decide) u (by rw [star]; exact h)
theorem bytes_eq {s t : ByteArray} (h : s.data.toList = t.data.toList) : s = t := by
  obtain ⟨⟨l⟩⟩ := s
  obtain ⟨⟨m⟩⟩ := t
  simp at h
  rw [h]
theorem six {α : Type} {l : List α} (h : l.length = 6) : ∃ a b c d e f, l = [a, b, c, d, e, f] := by
  match l, h with
  | [a, b, c, d, e, f], _ => exact ⟨a, b, c, d, e, f, rfl⟩
theorem own : ownKnob Tryz.prog.godebug = none := by kernel_rfl
theorem gOpsT : (Tryz.prog.globals[1]?).map (·.type) = some 201 := by kernel_rfl
theorem cells3 : Tryz.prog.cellsOf 3 = 1 := by kernel_rfl
theorem cells120 : Tryz.prog.cellsOf 200 = 2 := by kernel_rfl
theorem cells121 : Tryz.prog.cellsOf 201 = 24 := by kernel_rfl
theorem list2 {α : Type} {l : List α} (h : l.length = 2) : ∃ a b, l = [a, b] := by
  match l, h with
  | [a, b], _ => exact ⟨a, b, rfl⟩
theorem list12 {α : Type} {l : List α} (h : l.length = 12) : ∃ x0 x1 x2 x3 x4 x5 x6 x7 x8 x9 x10 x11, l = [x0, x1, x2, x3, x4, x5, x6, x7, x8, x9, x10, x11] := by
  match l, h with
  | [x0, x1, x2, x3, x4, x5, x6, x7, x8, x9, x10, x11], _ => exact ⟨x0, x1, x2, x3, x4, x5, x6, x7, x8, x9, x10, x11, rfl⟩
theorem list24 {α : Type} {l : List α} (h : l.length = 24) : ∃ c0 c1 c2 c3 c4 c5 c6 c7 c8 c9 c10 c11 c12 c13 c14 c15 c16 c17 c18 c19 c20 c21 c22 c23, l = [c0, c1, c2, c3, c4, c5, c6, c7, c8, c9, c10, c11, c12, c13, c14, c15, c16, c17, c18, c19, c20, c21, c22, c23] := by
  match l, h with
  | [c0, c1, c2, c3, c4, c5, c6, c7, c8, c9, c10, c11, c12, c13, c14, c15, c16, c17, c18, c19, c20, c21, c22, c23], _ => exact ⟨c0, c1, c2, c3, c4, c5, c6, c7, c8, c9, c10, c11, c12, c13, c14, c15, c16, c17, c18, c19, c20, c21, c22, c23, rfl⟩
set_option maxRecDepth 100000 in
theorem op_trod {H : Type} {enc : TypeId × Value → H} {W : World} {base : Nat} {spare : Nat → Bool} {held : Bool} {fuel : Nat} {cs : List Value} {x : DataW H × List MemPlace} (h : DataW.trod enc Tryz.prog W base spare held fuel 200 cs = some x) :
    ∃ (s : ByteArray) (n : Int), cs = [.string s, .int .i64 n] ∧ x.1 = .agg [.lit (.string s.data.toList), .lit (.int .i64 n)] := by
  obtain ⟨y0, y1, n, rfl, hl, h0, h1⟩ := trod_struct2 Tryz.underlying200 h
  obtain ⟨a, b, rfl⟩ := list2 (hl.trans cells120)
  simp only [cells3, cells9, List.drop_zero, List.drop_succ_cons, List.take_succ_cons, List.take_zero] at h0 h1
  obtain ⟨s, e0, rfl, w0⟩ := DataW.trod_string Tryz.underlying9 h0
  obtain ⟨r, e1, rfl, w1⟩ := DataW.trod_int Tryz.underlying3 h1
  simp at e0 e1
  subst e0 e1
  exact ⟨s, r, rfl, rfl⟩
set_option maxRecDepth 100000 in
set_option maxHeartbeats 2000000 in
theorem ops_of {W : World} {r : List (String × DataW Unit)} (h : laidMet Tryz.prog (("sccsettle/formula.operators", Rows.laid_sccsettle_formula_operators) :: r) W) :
    W.var? Tryz.prog "sccsettle/formula.operators" = some fm.opTab := by
  obtain ⟨ps, ⟨g, t, c, fuel, p, q, hg, ht, hv, hd, _, _⟩, _, _⟩ := h
  obtain rfl := Option.some.inj (fm.gOps.symm.trans hg)
  obtain rfl := Option.some.inj (gOpsT.symm.trans ht)
  obtain ⟨xs, m, rfl, hx, hlen, hn, hel⟩ := DataW.trod_array Tryz.underlying201 hd
  rw [cells121] at hlen
  rw [cells120] at hel
  obtain ⟨l⟩ := c
  simp only [Prod.mk.injEq, Rows.laid_sccsettle_formula_operators, DataW.agg.injEq] at hx
  obtain ⟨x0, x1, x2, x3, x4, x5, x6, x7, x8, x9, x10, x11, rfl⟩ := list12 hn
  obtain ⟨c0, c1, c2, c3, c4, c5, c6, c7, c8, c9, c10, c11, c12, c13, c14, c15, c16, c17, c18, c19, c20, c21, c22, c23, rfl⟩ := list24 (show l.length = 24 from hlen)
  obtain ⟨s0, n0, e0, f0⟩ := op_trod (show DataW.trod _ Tryz.prog W 0 _ _ m 200 _ = some x0 from hel 0 (by decide))
  obtain ⟨s1, n1, e1, f1⟩ := op_trod (show DataW.trod _ Tryz.prog W 0 _ _ m 200 _ = some x1 from hel 1 (by decide))
  obtain ⟨s2, n2, e2, f2⟩ := op_trod (show DataW.trod _ Tryz.prog W 0 _ _ m 200 _ = some x2 from hel 2 (by decide))
  obtain ⟨s3, n3, e3, f3⟩ := op_trod (show DataW.trod _ Tryz.prog W 0 _ _ m 200 _ = some x3 from hel 3 (by decide))
  obtain ⟨s4, n4, e4, f4⟩ := op_trod (show DataW.trod _ Tryz.prog W 0 _ _ m 200 _ = some x4 from hel 4 (by decide))
  obtain ⟨s5, n5, e5, f5⟩ := op_trod (show DataW.trod _ Tryz.prog W 0 _ _ m 200 _ = some x5 from hel 5 (by decide))
  obtain ⟨s6, n6, e6, f6⟩ := op_trod (show DataW.trod _ Tryz.prog W 0 _ _ m 200 _ = some x6 from hel 6 (by decide))
  obtain ⟨s7, n7, e7, f7⟩ := op_trod (show DataW.trod _ Tryz.prog W 0 _ _ m 200 _ = some x7 from hel 7 (by decide))
  obtain ⟨s8, n8, e8, f8⟩ := op_trod (show DataW.trod _ Tryz.prog W 0 _ _ m 200 _ = some x8 from hel 8 (by decide))
  obtain ⟨s9, n9, e9, f9⟩ := op_trod (show DataW.trod _ Tryz.prog W 0 _ _ m 200 _ = some x9 from hel 9 (by decide))
  obtain ⟨s10, n10, e10, f10⟩ := op_trod (show DataW.trod _ Tryz.prog W 0 _ _ m 200 _ = some x10 from hel 10 (by decide))
  obtain ⟨s11, n11, e11, f11⟩ := op_trod (show DataW.trod _ Tryz.prog W 0 _ _ m 200 _ = some x11 from hel 11 (by decide))
  simp at e0 e1 e2 e3 e4 e5 e6 e7 e8 e9 e10 e11
  obtain ⟨rfl, rfl⟩ := e0
  obtain ⟨rfl, rfl⟩ := e1
  obtain ⟨rfl, rfl⟩ := e2
  obtain ⟨rfl, rfl⟩ := e3
  obtain ⟨rfl, rfl⟩ := e4
  obtain ⟨rfl, rfl⟩ := e5
  obtain ⟨rfl, rfl⟩ := e6
  obtain ⟨rfl, rfl⟩ := e7
  obtain ⟨rfl, rfl⟩ := e8
  obtain ⟨rfl, rfl⟩ := e9
  obtain ⟨rfl, rfl⟩ := e10
  obtain ⟨rfl, rfl⟩ := e11
  simp only [List.map_cons, List.map_nil, f0, f1, f2, f3, f4, f5, f6, f7, f8, f9, f10, f11, List.cons.injEq, DataW.agg.injEq, DataW.lit.injEq, Lit.string.injEq, Lit.int.injEq, and_true, true_and] at hx
  obtain ⟨⟨⟨g0, i0⟩, ⟨g1, i1⟩, ⟨g2, i2⟩, ⟨g3, i3⟩, ⟨g4, i4⟩, ⟨g5, i5⟩, ⟨g6, i6⟩, ⟨g7, i7⟩, ⟨g8, i8⟩, ⟨g9, i9⟩, ⟨g10, i10⟩, ⟨g11, i11⟩⟩, _⟩ := hx
  subst i0
  subst i1
  subst i2
  subst i3
  subst i4
  subst i5
  subst i6
  subst i7
  subst i8
  subst i9
  subst i10
  subst i11
  rw [hv, bytes_eq (s := s0) (t := ⟨#[]⟩) g0.symm, bytes_eq (s := s1) (t := ⟨#[61]⟩) g1.symm, bytes_eq (s := s2) (t := ⟨#[60, 62]⟩) g2.symm, bytes_eq (s := s3) (t := ⟨#[60]⟩) g3.symm, bytes_eq (s := s4) (t := ⟨#[60, 61]⟩) g4.symm, bytes_eq (s := s5) (t := ⟨#[62]⟩) g5.symm, bytes_eq (s := s6) (t := ⟨#[62, 61]⟩) g6.symm, bytes_eq (s := s7) (t := ⟨#[38]⟩) g7.symm, bytes_eq (s := s8) (t := ⟨#[43]⟩) g8.symm, bytes_eq (s := s9) (t := ⟨#[45]⟩) g9.symm, bytes_eq (s := s10) (t := ⟨#[42]⟩) g10.symm, bytes_eq (s := s11) (t := ⟨#[47]⟩) g11.symm]
  rfl
set_option maxRecDepth 100000 in
theorem bads_of {W : World} {r : List (String × DataW Unit)} (h : laidMet Tryz.prog (("sccsettle/value.badTexts", Rows.laid_sccsettle_value_badTexts) :: r) W) :
    W.var? Tryz.prog "sccsettle/value.badTexts" = some #[.string bt0, .string bt1, .string bt2, .string bt3, .string bt4, .string bt5] := by
  obtain ⟨ps, ⟨g, t, c, fuel, p, q, hg, ht, hv, hd, _, _⟩, _, _⟩ := h
  obtain rfl := Option.some.inj (gBad.symm.trans hg)
  obtain rfl := Option.some.inj (gBadT.symm.trans ht)
  obtain ⟨xs, m, rfl, hx, hlen, hn, hel⟩ := DataW.trod_array Tryz.underlying216 hd
  rw [cells51] at hlen
  rw [cells9] at hel
  obtain ⟨l⟩ := c
  simp only [Prod.mk.injEq, Rows.laid_sccsettle_value_badTexts, DataW.agg.injEq] at hx
  obtain ⟨x0, x1, x2, x3, x4, x5, rfl⟩ := six hn
  obtain ⟨c0, c1, c2, c3, c4, c5, rfl⟩ := six (show l.length = 6 from hlen)
  obtain ⟨s0, e0, f0, _⟩ := DataW.trod_string Tryz.underlying9 (show DataW.trod _ Tryz.prog W 0 _ _ m 9 _ = some x0 from hel 0 (by decide))
  obtain ⟨s1, e1, f1, _⟩ := DataW.trod_string Tryz.underlying9 (show DataW.trod _ Tryz.prog W 0 _ _ m 9 _ = some x1 from hel 1 (by decide))
  obtain ⟨s2, e2, f2, _⟩ := DataW.trod_string Tryz.underlying9 (show DataW.trod _ Tryz.prog W 0 _ _ m 9 _ = some x2 from hel 2 (by decide))
  obtain ⟨s3, e3, f3, _⟩ := DataW.trod_string Tryz.underlying9 (show DataW.trod _ Tryz.prog W 0 _ _ m 9 _ = some x3 from hel 3 (by decide))
  obtain ⟨s4, e4, f4, _⟩ := DataW.trod_string Tryz.underlying9 (show DataW.trod _ Tryz.prog W 0 _ _ m 9 _ = some x4 from hel 4 (by decide))
  obtain ⟨s5, e5, f5, _⟩ := DataW.trod_string Tryz.underlying9 (show DataW.trod _ Tryz.prog W 0 _ _ m 9 _ = some x5 from hel 5 (by decide))
  simp at e0 e1 e2 e3 e4 e5
  subst e0 e1 e2 e3 e4 e5
  simp only [List.map_cons, List.map_nil, f0, f1, f2, f3, f4, f5, List.cons.injEq, DataW.lit.injEq, Lit.string.injEq, and_true] at hx
  obtain ⟨⟨g0, g1, g2, g3, g4, g5⟩, _⟩ := hx
  rw [hv, bytes_eq (s := s0) (t := bt0) g0.symm, bytes_eq (s := s1) (t := bt1) g1.symm, bytes_eq (s := s2) (t := bt2) g2.symm, bytes_eq (s := s3) (t := bt3) g3.symm, bytes_eq (s := s4) (t := bt4) g4.symm, bytes_eq (s := s5) (t := bt5) g5.symm]
theorem size_of_var {W : World} {n : String} {g : Nat} {c : Array Value} (hg : Tryz.prog.globalNamed n = some g) (h : W.var? Tryz.prog n = some c) : g < W.heap.size := by
  unfold World.var? at h
  rw [hg] at h
  simp only [Option.bind_some] at h
  by_cases hh : g < W.heap.size
  · exact hh
  · rw [Array.getElem?_eq_none (by omega)] at h
    cases h
set_option maxRecDepth 100000 in
theorem env_of_rest {W : World} (hz : 7 < W.heap.size) (h : laidMet Tryz.prog [("math/bits.deBruijn32tab", Rows.laid_math_bits_deBruijn32tab), ("math/bits.deBruijn64tab", Rows.laid_math_bits_deBruijn64tab), ("internal/strconv.uint64pow10", Rows.laid_internal_strconv_uint64pow10), ("strconv.ErrRange", Rows.laid_strconv_ErrRange), ("strconv.ErrSyntax", Rows.laid_strconv_ErrSyntax), ("sccsettle/value.badTexts", Rows.laid_sccsettle_value_badTexts), ("sccsettle/formula.operators", Rows.laid_sccsettle_formula_operators)] W) : ps.EnvP W := by
  have ht := Lib.tabIs_of_head (zs := Lib.pow10Tab) (k := .u64) gPow gPowT Tryz.underlying230 Tryz.underlying136 (by kernel_rfl) cells105 (show laidMet Tryz.prog (("internal/strconv.uint64pow10", Lib.tabData .u64 Lib.pow10Tab) :: _) W from h.tail.tail)
  obtain ⟨a, s, hr, -, -, -⟩ := laid_sentinel (show laidMet Tryz.prog (("strconv.ErrRange", .iface "*errors.errorString" (.ptr (.agg [.lit (.string _)]))) :: _) W from h.tail.tail.tail) gRan gRanT Tryz.underlying27 row110 Tryz.underlying248 Tryz.underlying250 rfl rfl Tryz.underlying9 cells112 cells9
  obtain ⟨a2, s2, hs, -, -, -⟩ := laid_sentinel (show laidMet Tryz.prog (("strconv.ErrSyntax", .iface "*errors.errorString" (.ptr (.agg [.lit (.string _)]))) :: _) W from h.tail.tail.tail.tail) gSyn gSynT Tryz.underlying27 row110 Tryz.underlying248 Tryz.underlying250 rfl rfl Tryz.underlying9 cells112 cells9
  exact ⟨hz, ht, ⟨_, _, hs⟩, ⟨_, _, hr⟩, bads_of h.tail.tail.tail.tail.tail, ops_of h.tail.tail.tail.tail.tail.tail⟩
theorem gErr : Tryz.prog.globalNamed "errors.errorType" = some 0 := by kernel_rfl
theorem rtErr : (Tryz.prog.cutTypes.find? (·.1 == "internal/reflectlite.rtype")).map (·.2) = some 142 := by kernel_rfl
theorem oneErr : ((List.range 278).filter fun t => Tryz.prog.rowNamed t [101, 114, 114, 111, 114]) = [27] := by kernel_rfl
theorem sizeErr : Tryz.prog.types.size = 278 := by kernel_rfl
theorem err_of_handle {W : World} (h : handlesMet Tryz.prog [("errors.errorType", Rows.laid_errors_errorType)] W) : ErrTy W := by
  obtain ⟨name, u, ty, e1, e2, e3, e4, e5⟩ := h _ (List.mem_singleton.2 rfl)
  have en : name = [101, 114, 114, 111, 114] := (Option.some.inj e1).symm
  subst en
  obtain rfl := Option.some.inj (rtErr.symm.trans e2)
  have hm : ty ∈ (List.range 278).filter fun t => Tryz.prog.rowNamed t [101, 114, 114, 111, 114] := List.mem_filter.2 ⟨List.mem_range.2 (by rw [← sizeErr]; exact e3), e4⟩
  rw [oneErr] at hm
  obtain rfl := List.mem_singleton.1 hm
  have hh : typeHandle Tryz.prog 27 = .pointer (some ⟨9, 27, none⟩) := by kernel_rfl
  rw [hh] at e5
  exact ⟨size_of_var gErr e5, by simpa using World.var?_cell gErr e5 0⟩
theorem swap_env {W : World} (hz : 7 < W.heap.size) (h : laidMetH Tryz.prog Rows.rowsSwapRow.laid W) : ps.EnvP W ∧ ErrTy W := by
  have h' : laidMet Tryz.prog [("math/bits.deBruijn32tab", Rows.laid_math_bits_deBruijn32tab), ("math/bits.deBruijn64tab", Rows.laid_math_bits_deBruijn64tab), ("internal/strconv.uint64pow10", Rows.laid_internal_strconv_uint64pow10), ("strconv.ErrRange", Rows.laid_strconv_ErrRange), ("strconv.ErrSyntax", Rows.laid_strconv_ErrSyntax), ("sccsettle/value.badTexts", Rows.laid_sccsettle_value_badTexts), ("sccsettle/formula.operators", Rows.laid_sccsettle_formula_operators)] W ∧ handlesMet Tryz.prog [("errors.errorType", Rows.laid_errors_errorType)] W := h
  exact ⟨env_of_rest hz h'.1, err_of_handle h'.2⟩
end Go.Proofs.YtcekgefkimbfaaaGreatDoor
/- The outside of a law that writes nothing: its arguments, whatever their types, read behind the call as they did; and the row's frame with the world's shape handed on. No program is walked here. -/
namespace Go.Proofs.YtcekgefkimbfaaaGreatDoor.out
open Go.RowKit
section
variable {H : Type} {enc : TypeId × Value → H} {P : Program}
theorem trodAll_carry {w w' : World} {base : Nat} {spare : Nat → Bool} {held : Bool} : ∀ {ts : List TypeId} {vs : List Value} {ds : List (DataW H)} {ps : List MemPlace},
    DataW.TrodAll enc P w base spare held ts vs ds ps → (∀ p ∈ ps, w.sameAt w' p) → DataW.TrodAll enc P w' base spare held ts vs ds ps
  | [], [], [], _, h, _ => h
  | _ :: _, _ :: _, _ :: _, _, ⟨p, q, ⟨n, h1⟩, h2, e⟩, hs =>
    ⟨p, q, ⟨n, DataW.trod_carry n _ _ _ h1 (fun x hx => hs x (by rw [e]; exact List.mem_append_left _ hx))⟩, trodAll_carry h2 (fun x hx => hs x (by rw [e]; exact List.mem_append_right _ hx)), e⟩
theorem sameAt_below {w w' : World} (hb : Below w.heap.size w w') (p : MemPlace) (hp : p.block < w.heap.size) : w.sameAt w' p := by
  cases p with
  | cell b off => exact hb.cell (p := ⟨b, off, none⟩) hp
  | map b => exact hb.block b hp
/-- What a law that writes nothing was handed reads behind it as it did. -/
theorem trodAll_after (hl : laidOutB P = true) (hm : mapsRowed P = true) (hz : ((List.range P.types.size).all fun t => match P.underlying t with | some (.slice e) => decide (0 < P.cellsOf e) | _ => true) = true)
    {w w' : World} {ts : List TypeId} {vs : List Value} {ds : List (DataW H)} {ps : List MemPlace} (hts : ∀ t ∈ ts, t < P.types.size)
    (h : DataW.TrodAll enc P w 0 (fun _ => true) true ts vs ds ps) (hb : Below w.heap.size w w') : DataW.TrodAll enc P w' 0 (fun b => decide (b < w.heap.size)) true ts vs ds ps :=
  trodAll_carry (DataW.TrodAll.respare (kids_rows hl hm) (slices_full_of P hz) hts h (fun p hp => decide_eq_true (h.lt p hp))) (fun p hp => sameAt_below hb p (h.lt p hp))
theorem returnsInHanded_shaped {a : Assume} {C : Checked} {os : Os} {f : FuncId} {fn : Func} {s : ChangeSpec} {conds : List PathCond} {apart fresh handsOn again : Bool} {X : World → Array Value → Prop}
    (hX : ∀ (w w' : World) (args : Array Value), w.heap = w'.heap → X w args → X w' args)
    (own : ownKnob C.prog.godebug = none) (started : os.Started) (noInit : C.prog.inits.idxOf? f = none) (hfn : C.prog.funcs[f]? = some fn)
    (witness : ∃ (w : World) (tape : Tape) (i : Input), w.os = os ∧ (w.forCall tape i).Shaped C.prog ∧ i.vars = [] ∧ Input.okWide C.prog (w.forCall tape i) .any w.heap.size f i ∧
      ((s.pre enc C.prog fn conds apart (w.forCall tape i).memory i.args ∧ X (w.forCall tape i).memory i.args) ∧ sizedMet enc C.prog fn (OpenSpec.ofChange s) apart (w.forCall tape i).memory i.args) ∧ a.holds C.prog (lone (Frame.enter C.prog f i.args .normal) [] (w.forCall tape i)))
    (contract : ∀ (W : World) (base : Nat) (args : Array Value) (ds gs : List (DataW H)) (before : List MemPlace),
      (∀ (j : Nat) t v, fn.params[j]? = some t → args[j]? = some v → Value.okWide C.prog W .any base t v) →
      DataW.Whole enc C.prog fn.params.toList s.vars apart W args.toList ds gs before →
      conds.all (PathCond.test C.prog ⟨fn.params.toList, ds, s.plain.varTypes C.prog, gs⟩) = true →
      (DataW.weightsEach C.prog (fn.params.toList ++ s.plain.varTypes C.prog) (ds ++ gs)).all (· ≤ reachBytes) = true → X W args → W.ShapedOpen C.prog →
      a.holds C.prog (lone (Frame.enter C.prog f args .normal) [] W) →
      Calls C.prog f args W fun e W' => ∃ v, e = .returned v ∧ s.post enc C.prog fn apart fresh handsOn again W args v W') :
    ReturnsInHanded a C os f .any (fun w args => (s.pre enc C.prog fn conds apart w args ∧ X w args) ∧ sizedMet enc C.prog fn (OpenSpec.ofChange s) apart w args) (s.post enc C.prog fn apart fresh handsOn again) := by
  refine returnsInHanded_of_calls own started noInit witness ?_
  intro w tape i _ hsh _ hok hpre hholds
  obtain ⟨_, _, _, fn', hfn', _, _, _, _, hval⟩ := hok
  have e : fn' = fn := Option.some.inj (hfn'.symm.trans hfn)
  subst e
  obtain ⟨⟨⟨ds, gs, before, hw, hc⟩, hx⟩, hz⟩ := hpre
  have hw' := DataW.Whole.of_heap (w' := w.forCall tape i) (by rfl) hw
  refine (contract (w.forCall tape i) w.heap.size i.args ds gs before hval hw' hc (hz.weights hw) (hX _ _ _ (by rfl) hx) hsh hholds).mono fun e W' ⟨v, he, hp⟩ => ?_
  subst he
  exact ChangeSpec.post_blind hp
end
end Go.Proofs.YtcekgefkimbfaaaGreatDoor.out
/- Proved: the law PastPlays returns true for every list of cells, every list of numbers and every list of texts: any changes, alone or together, undone and done again, leave what the reference says. Conditions: the listed package variables start as the program's text lays them (the card ties them). -/
namespace Go.Proofs.YtcekgefkimbfaaaGreatDoor.pls
open Go.ChangeShapes Go.WideShapes Go.ChangeAt Go.RowKit Go.Joins
open Go.ChangeMaps (open_string shut_string)
theorem door_met (os : Os) (args : Array Value) : laidMetH Tryz.prog Rows.pastPlaysRow.laid ((World.doorLaid Tryz.prog 400 os).forCall (fun _ _ => 0) ⟨#[], args, []⟩).memory :=
  laidMetH_of_parts3 (fuel := 8) (laidMet_of_run' 8 (by kernel_rfl) (by kernel_rfl)) (by kernel_rfl) (by kernel_rfl)
theorem size_of {W : World} (h : W.ShapedOpen Tryz.prog) : 7 < W.heap.size := by
  obtain ⟨o, o0, h1, -, -⟩ := h.2 9 (of_decide_eq_true (by kernel_rfl)) (of_decide_eq_true (by kernel_rfl))
  have := (Array.getElem?_eq_some_iff.1 h1).1
  omega
theorem laid_out : laidOutB Tryz.prog = true := by kernel_rfl
theorem maps_rowed : mapsRowed Tryz.prog = true := by kernel_rfl
theorem slices_full : ((List.range Tryz.prog.types.size).all fun t => match Tryz.prog.underlying t with | some (.slice e) => decide (0 < Tryz.prog.cellsOf e) | _ => true) = true := by kernel_rfl
theorem params_in : ∀ t ∈ Tryz.f3.params.toList, t < Tryz.prog.types.size := by
  have h : (Tryz.f3.params.toList.all fun t => decide (t < Tryz.prog.types.size)) = true := by kernel_rfl
  exact fun t ht => of_decide_eq_true (List.all_eq_true.1 h t ht)
theorem trodAll_three {H : Type} {enc : TypeId × Value → H} {P : Program} {w : World} {base : Nat} {spare : Nat → Bool} {held : Bool} {t0 t1 t2 : TypeId} {args : Array Value} {ds : List (DataW H)} {ps : List MemPlace} (h : DataW.TrodAll enc P w base spare held [t0, t1, t2] args.toList ds ps) :
    ∃ v0 v1 v2 d0 d1 d2 p0 p1 p2, args = #[v0, v1, v2] ∧ ds = [d0, d1, d2] ∧ DataW.Trod enc P w base spare held t0 v0 d0 p0 ∧ DataW.Trod enc P w base spare held t1 v1 d1 p1 ∧ DataW.Trod enc P w base spare held t2 v2 d2 p2 := by
  obtain ⟨v0, vs, d0, ds0, p0, q0, hargs, rfl, -, h0, r0⟩ := trodAll_cons h
  obtain ⟨v1, vs1, d1, ds1, p1, q1, rfl, rfl, -, h1, r1⟩ := trodAll_cons r0
  obtain ⟨v2, vs2, d2, ds2, p2, q2, rfl, rfl, -, h2, r2⟩ := trodAll_cons r1
  obtain ⟨rfl, rfl, -⟩ := trodAll_nil r2
  exact ⟨v0, v1, v2, d0, d1, d2, p0, p1, p2, by cases args; simp_all, rfl, h0, h1, h2⟩
set_option maxRecDepth 100000 in
/-- How long a list of cells is that was handed in. -/
theorem fills_len {H : Type} {enc : TypeId × Value → H} {W : World} {spare : Nat → Bool} {held : Bool} {p : Option Addr} {n c : Nat} {d : DataW H} {q : List MemPlace} (h : DataW.Trod enc Tryz.prog W 0 spare held 22 (.slice p n c) d q) : n = 0 ∨ ∃ elems sp, d = .slice elems sp ∧ elems.length = n := by
  obtain ⟨fuel, hf⟩ := h
  rcases Go.Deep.open_slice Tryz.underlying22 hf with ⟨e, -⟩ | ⟨a, len', cap', m, n', D, Pl, e, -, -, -, -, hx, -⟩
  · simp [Value.cells] at e
    exact .inl e.2.1
  · simp [Value.cells] at e
    obtain ⟨-, rfl, -⟩ := e
    injection hx with hx _
    exact .inr ⟨_, _, hx, by simp⟩
set_option maxRecDepth 100000 in
theorem open_ints {H : Type} {enc : TypeId × Value → H} {W : World} {spare : Nat → Bool} {held : Bool} {r0 : Reach} {b0 : Nat} {v : Value} {d : DataW H} {q : List MemPlace} (hv : Value.okWide Tryz.prog W r0 b0 23 v) (h : DataW.Trod enc Tryz.prog W 0 spare held 23 v d q) :
    ∃ (p : Option Addr) (is : List Int) (cap : Nat), v = .slice p is.length cap ∧ ps.IM W p is ∧ is.length ≤ 9223372036854775807 := by
  obtain ⟨p, len, cap, rfl⟩ := okWide_slice Tryz.underlying23 hv
  obtain ⟨fuel, hf⟩ := h
  rcases Go.Deep.open_slice1 Tryz.underlying23 ps.vcof3 hf with ⟨e, -⟩ | ⟨a, len', cap', m, n, V, D, Pl, e, -, hlc, hcm, hm, -, hel⟩
  · simp [Value.cells] at e
    obtain ⟨rfl, rfl, rfl⟩ := e
    exact ⟨none, [], 0, rfl, .inl rfl, by simp⟩
  simp [Value.cells] at e
  obtain ⟨rfl, rfl, rfl⟩ := e
  have hle : len ≤ m := by rw [hm]; split <;> omega
  obtain ⟨F, hF⟩ := Go.Deep.choose_lt (α := Int) (n := len) (p := fun i y => W.cell? (a.add i) = some (.int .i64 y)) (fun i hi => by
    obtain ⟨g1, g2⟩ := hel i (by omega)
    obtain ⟨y, e0, -, -⟩ := DataW.trod_int Tryz.underlying3 g2
    simp at e0
    exact ⟨y, by rw [g1, e0]⟩)
  have hlen : ((List.range len).map F).length = len := by simp
  have hmx : maxLen = 9223372036854775807 := rfl
  refine ⟨some a, (List.range len).map F, cap, by rw [hlen], ?_, by rw [hlen]; omega⟩
  by_cases h0 : len = 0
  · left; subst h0; rfl
  right
  have hsp : W.cell? a = some (.int .i64 (F 0)) := by
    have := hF 0 (by omega)
    simpa [Addr.add] using this
  have hspot := World.cell?_spot hsp
  obtain ⟨g, o, sp⟩ := a
  simp only at hspot
  subst hspot
  refine ⟨g, o, rfl, ?_, fun i u hu => ?_⟩
  · unfold World.cell? at hsp
    rcases Nat.lt_or_ge g W.heap.size with h | h
    · exact h
    · rw [Array.getElem?_eq_none h] at hsp
      simp at hsp
  · have hi : i < len := by have := (List.getElem?_eq_some_iff.1 hu).1; rw [hlen] at this; exact this
    rw [List.getElem?_map, List.getElem?_range hi] at hu
    have e : F i = u := by simpa using hu
    subst e
    have := hF i hi
    rw [ps.add_plain] at this
    exact this
theorem bytes36 : Tryz.prog.bytesOf 36 = 32 := by kernel_rfl
set_option maxRecDepth 100000 in
theorem lifted (os : Os) (started : os.Started) (H : Type) (enc : TypeId × Value → H) :
    ReturnsInHanded {} Tryz.checked os 3 .any (fun w args => (Rows.pastPlaysSpec.pre enc Tryz.prog Tryz.f3 [] false w args ∧ laidMetH Tryz.prog Rows.pastPlaysRow.laid w) ∧ sizedMet enc Tryz.prog Tryz.f3 (OpenSpec.ofChange Rows.pastPlaysSpec) false w args)
      (Rows.pastPlaysSpec.post enc Tryz.prog Tryz.f3 false true false false) := by
  refine out.returnsInHanded_shaped (C := Tryz.checked) (X := fun w _ => laidMetH Tryz.prog Rows.pastPlaysRow.laid w) (fun _ _ _ hh h => h.of_heap hh) own started (by kernel_rfl) Tryz.func3
    (ChangeSpec.witness_shaped (enc := enc) (C := Tryz.checked) (os := os) (X := fun w _ => laidMetH Tryz.prog Rows.pastPlaysRow.laid w) false (World.doorLaid Tryz.prog 400 os) #[.slice none 0 0, .slice none 0 0, .slice none 0 0] 8 rfl (World.shaped_of_RefB (by kernel_rfl) (by kernel_rfl)) (by kernel_rfl) (by kernel_rfl) (by kernel_rfl) (door_met os _)) ?_
  intro W base args ds gs before hval0 hW _ hZ hL hsh _
  have hval : ∀ (j : Nat) t v, Tryz.f3.params[j]? = some t → args[j]? = some v → Value.okWide Tryz.prog W .any base t v := hval0
  have hW' := hW
  obtain ⟨p, q, hA0, hV, rfl, hfz, hnd⟩ := hW
  have hAft : ∀ W', Below W.heap.size W W' → DataW.TrodAll enc Tryz.prog W' 0 (fun b => decide (b < W.heap.size)) true Tryz.f3.params.toList args.toList ds p := fun W' hb => out.trodAll_after laid_out maps_rowed slices_full params_in hA0 hb
  have hA : DataW.TrodAll enc Tryz.prog W 0 (fun _ => true) true Tryz.f3.params.toList args.toList ds p := hA0
  rw [Tryz.params3] at hA hval
  obtain ⟨v0, v1, v2, d0, d1, d2, p0, p1, p2, rfl, rfl, h0, h1, h2⟩ := trodAll_three hA
  obtain ⟨rfl, rfl⟩ := trodVars_none hV
  obtain ⟨p, xs, cap, rfl, hx, hc⟩ := ps.open_fills (hval 0 22 v0 rfl rfl) h0
  obtain ⟨pi, is, capi, rfl, hi, hil⟩ := open_ints (hval 1 23 v1 rfl rfl) h1
  obtain ⟨q, ys, cap', rfl, hy, -⟩ := ps.open_fills (hval 2 22 v2 rfl rfl) h2
  have hyl : ys.length ≤ 4398046511104 := by
    rcases fills_len h2 with h | ⟨elems, sp, rfl, he⟩
    · omega
    · have h47 : (elems.length + sp.length) * Tryz.prog.bytesOf 36 ≤ reachBytes := sized_slice hZ (j := 2) (t := 22) (e := 36) (by rw [Tryz.params3]; rfl) rfl Tryz.underlying22
      rw [bytes36, he] at h47
      have := reachBytes_lt
      omega
  clear hA0 hval0
  simp only [List.append_nil] at hW'
  obtain ⟨hE, hT⟩ := swap_env (size_of hsh) hL
  have key : Calls Tryz.prog 3 #[.slice p xs.length cap, .slice pi is.length capi, .slice q ys.length cap'] W fun e w' => e = .returned (.bool true) ∧ Below W.heap.size W w' := ps.plays_any p pi q cap capi cap' xs ys is W hx hi hy hyl hil hE hT hc
  refine key.mono fun e W' ⟨he, hg⟩ => ?_
  subst he
  exact ⟨_, rfl, _, _, _, [], _, [], hW', trodAll_mk1 (shut_bool Tryz.underlying4 _), hAft W' hg, rfl, hg.frame _, fun h => by cases h⟩
theorem row_holds : Rows.PastPlaysSaid :=
  OpenClaim.holds_of_wide 3 Tryz.f3 rfl rfl rfl rfl rfl rfl rfl ⟨rfl, rfl, rfl, rfl, rfl⟩ rfl rfl rfl rfl rfl (by kernel_rfl) Tryz.func3 (by kernel_rfl)
    (of_decide_eq_true (by kernel_rfl)) (by unfold Func.isWrapper; first | (rw [if_pos (by decide +kernel)]; kernel_rfl) | (rw [if_neg (by decide +kernel)]; exact ⟨rfl, rfl⟩))
    (fun os started H enc _ => lifted os started H enc)
theorem card_holds : Rows.PastPlaysCardSaid :=
  Claim7.holds_tied_plain_at .later [] [.data, .data, .data, .handle, .sentinel, .sentinel, .data, .data] true Rows.pastPlaysCard.stood.harness true
    row_holds (fun _ h => by cases h) (by kernel_rfl) (fun _ h => by cases h) pastPlays_row_tie rfl ⟨rfl, rfl⟩ (by kernel_rfl) rfl
    (fun f fn hf hfn => by
      obtain rfl : f = 3 := Option.some.inj ((show Tryz.prog.funcNamed "sccsettle/scclaw2.PastPlays" = some 3 by kernel_rfl).symm.trans hf) |>.symm
      obtain rfl : fn = Tryz.f3 := (Option.some.inj (Tryz.func3.symm.trans hfn)).symm
      exact ⟨by kernel_rfl, fun j t ht => by
        rw [Tryz.params3] at ht
        have hm : t ∈ [22, 23, 22] := by simpa using Array.mem_of_getElem? ht
        have hall : ([22, 23, 22].all fun u => !Tryz.prog.wantsStandIn u) = true := by kernel_rfl
        exact (show Tryz.prog.wantsStandIn t = false by simpa using List.all_eq_true.1 hall t hm)⟩)
    (by kernel_rfl)
#print axioms card_holds
end Go.Proofs.YtcekgefkimbfaaaGreatDoor.pls
