
/- Package pick: Pick and Any, whole. Conditions: as each theorem says. -/
import Derived.Test.YtjbdpcnebilmbaaGreatDoorPc
namespace Go.Proofs.YtjbdpcnebilmbaaGreatDoor.so
open Go.RowKit Go.Sort Go.Shelf
/-- What the closures of Pick and Any read. -/
abbrev MC (w : World) (b0 : Nat) (sv : Value) (wx : World) : Prop := wx.cell? ⟨b0, 0, none⟩ = some sv ∧ Bw w wx
theorem PK.of {T : Tb} {n : Nat} {f : Nat → Wt} {P : Nat → Bool} {w W : World} {e : Ending} {w' : World} (hb : Bw w W) (h : PK T n f P W e w') : PK T n f P w e w' := by
  obtain ⟨⟨x, v, h1, h2, h3, h4⟩, h5⟩ := h
  exact ⟨⟨x, v, h1, h2, h3, fun h => by obtain ⟨V, h6, h7⟩ := h4 h; exact ⟨V, hb.tr h6, h7⟩⟩, hb.tr h5⟩
/-- Wants that a row has columns for. -/
def WC (l n : Nat) (f : Nat → Wt) : Prop := ∀ j, j < n → (0 ≤ (f j).c ∧ (f j).c < (l : Int)) ∧ (1 ≤ (f j).o ∧ (f j).o ≤ 6)
set_option maxRecDepth 100000 in
set_option maxHeartbeats 4000000 in
theorem any1_any (p : Option Addr) (l cp : Nat) (r : Nat → Vl) (p2 : Option Addr) (n c2 : Nat) (f : Nat → Wt) (b0 : Nat) (w : World) (hn : n ≤ 12) (hR : VM w p l r) (hW : WM w p2 n f) (h0 : Bx w b0 (.slice p2 n c2)) (hf : WC l n f) :
    Calls Tryz.prog 19 #[.slice p l cp, .pointer (some ⟨b0, 0, none⟩)] w fun e w' => e = .returned (.bool (anyB n (fun j => meet (r (f j).c.toNat) (f j).o (f j).v))) ∧ Bw w w' := by
  have HM := metBy_any p l cp
  have HC : Hid (∀ b1 b2 wx, Bw w wx → Bx wx b1 (.slice p l cp) → CV wx b2 3 1 nul → Calls Tryz.prog 16 #[.slice p2 n c2, fmet b1 b2] wx fun e w' => e = .returned (.bool (anyB n (fun j => meet (r (f j).c.toNat) (f j).o (f j).v))) ∧ Bw wx w') := fun b1 b2 wx hb h1 h2 =>
    contains_met p2 n c2 f _ b1 b2 wx hn (hW.next hb) (fun j hj wy hy => met1_any p l cp r (f j) b1 b2 wy (hR.next (hb.tr hy)) (h1.next hy) (h2.next hy) (hf j hj).1 (hf j hj).2)
  generalize anyB n (fun j => meet (r (f j).c.toNat) (f j).o (f j).v) = B at *
  have sof : Hid (∀ wx, Bw w wx → MC w b0 (.slice p2 n c2) wx) := fun wx hb => ⟨(h0.next hb).1, hb⟩
  have h0d := sof.out w.drew ((Below.refl _ _).drew)
  obtain ⟨y0, -⟩ := h0
  clear hR hW hf
  go_enter Tryz.func19, Tryz.ntmps19
  go_upto_region 1 with fail
  go_region_held3 (fun wx => MC w b0 (.slice p2 n c2) wx) (first | exact h0d | exact sof.out _ (And.right (by assumption : MC w b0 (.slice p2 n c2) _) |>.tr (by assumption))) (first | (go_at_call 20; refine (HM _).mono ?_; rintro e w3 ⟨b1, b2, rfl, q1, q2, q3⟩) | (go_at_call 16; refine (HC.out _ _ _ (by first | exact (And.right h0d).tr q3) q1 q2).mono ?_; rintro e w4 ⟨rfl, q4⟩))
  have HB3 : Hid (Bw w w4) := (h0d.2.tr q3).tr q4
  clear h0d y0 sof HM HC q1 q2 q3 q4
  go_wp2_with fail
  go_ret
  exact ⟨rfl, HB3.out⟩
set_option maxRecDepth 100000 in
set_option maxHeartbeats 4000000 in
theorem pick1_any (p : Option Addr) (l cp : Nat) (r : Nat → Vl) (p2 : Option Addr) (n c2 : Nat) (f : Nat → Wt) (b0 : Nat) (w : World) (hn : n ≤ 12) (hR : VM w p l r) (hW : WM w p2 n f) (h0 : Bx w b0 (.slice p2 n c2)) (hf : WC l n f) :
    Calls Tryz.prog 15 #[.slice p l cp, .pointer (some ⟨b0, 0, none⟩)] w fun e w' => e = .returned (.bool (!(anyB n (fun j => !(meet (r (f j).c.toNat) (f j).o (f j).v))))) ∧ Bw w w' := by
  have HM := missedBy_any p l cp
  have HC : Hid (∀ b1 b2 b3 wx, Bw w wx → Bx wx b3 (fmet b1 b2) → Bx wx b1 (.slice p l cp) → CV wx b2 3 1 nul → Calls Tryz.prog 16 #[.slice p2 n c2, fmis b3] wx fun e w' => e = .returned (.bool (anyB n (fun j => !(meet (r (f j).c.toNat) (f j).o (f j).v)))) ∧ Bw wx w') := fun b1 b2 b3 wx hb h3 h1 h2 =>
    contains_mis p2 n c2 f _ b3 wx hn (hW.next hb) (fun j hj wy hy => mis1_any p l cp r (f j) b1 b2 b3 wy (hR.next (hb.tr hy)) (h3.next hy) (h1.next hy) (h2.next hy) (hf j hj).1 (hf j hj).2)
  generalize anyB n (fun j => !(meet (r (f j).c.toNat) (f j).o (f j).v)) = B at *
  have sof : Hid (∀ wx, Bw w wx → MC w b0 (.slice p2 n c2) wx) := fun wx hb => ⟨(h0.next hb).1, hb⟩
  have h0d := sof.out w.drew ((Below.refl _ _).drew)
  obtain ⟨y0, -⟩ := h0
  clear hR hW hf
  go_enter Tryz.func15, Tryz.ntmps15
  go_upto_region 1 with fail
  go_region_held3 (fun wx => MC w b0 (.slice p2 n c2) wx) (first | exact h0d | exact sof.out _ (And.right (by assumption : MC w b0 (.slice p2 n c2) _) |>.tr (by assumption))) (first | (go_at_call 17; refine (HM _).mono ?_; rintro e w3 ⟨b1, b2, b3, rfl, q0, q1, q2, q3⟩) | (go_at_call 16; refine (HC.out _ _ _ _ (by first | exact (And.right h0d).tr q3) q0 q1 q2).mono ?_; rintro e w4 ⟨rfl, q4⟩))
  have HB3 : Hid (Bw w w4) := (h0d.2.tr q3).tr q4
  clear h0d y0 sof HM HC q0 q1 q2 q3 q4
  go_wp2_with fail
  go_ret
  exact ⟨rfl, HB3.out⟩
set_option maxRecDepth 100000 in
set_option maxHeartbeats 8000000 in
theorem take_pick (T : Tb) (p : Option Addr) (c : Nat) (p2 : Option Addr) (n c2 : Nat) (f : Nat → Wt) (M : Nat → Bool) (b0 : Nat) (w : World) (hT : TM w p T) (hW : WM w p2 n f) (hq : T.q ≤ 9223372036854775807) (hn : n ≤ 9223372036854775807) (hL : ∀ i, i < T.q → T.L i ≤ 9223372036854775807)
    (hf : WF T n f 0 → ∀ i, i < T.q → ∀ wx, Bw w wx → Calls Tryz.prog 15 #[.slice (T.P i) (T.L i) (T.C i), .pointer (some ⟨b0, 0, none⟩)] wx fun e w' => e = .returned (.bool (M i)) ∧ Bw wx w') :
    Calls Tryz.prog 14 #[.slice p T.q c, .slice p2 n c2, .func (.func 15) #[] #[.pointer (some ⟨b0, 0, none⟩)]] w fun e w' => PK T n f M w e w' := by
  have HC := pcheck_any T p c p2 n c2 f w hT hW hq hn hL
  have HF : Hid (WF T n f 0 → ∀ i, i < T.q → ∀ wx, Bw w wx → Calls Tryz.prog 15 #[.slice (T.P i) (T.L i) (T.C i), .pointer (some ⟨b0, 0, none⟩)] wx fun e w' => e = .returned (.bool (M i)) ∧ Bw wx w') := hf
  have HT : Hid (TM w p T) := hT
  clear hT hW hL hf
  obtain ⟨q, eq⟩ : ∃ q, T.q = q := ⟨_, rfl⟩
  have HEQ : Hid (T.q = q) := eq
  rw [eq] at HC hq ⊢
  clear eq
  go_enter Tryz.func14, Tryz.ntmps14
  go_wp2_with fail
  refine HC.mono ?_
  clear HC
  rintro e w1 ⟨⟨x, rfl, hx⟩, hb⟩
  have HX : Hid (WF T n f x) := hx
  have HB1 : Hid (Bw w w1) := hb
  clear hx hb
  by_cases hx0 : x = 0
  · subst hx0
    rw [errV_0]
    have hq60 : q ≤ 60 := by rw [← HEQ.out]; exact HX.out.zero.1.few
    go_wp2_with fail
    go_loopw [9, 20] (fun vl vi wr => ∃ j : Nat, vi = .int .i64 j ∧ j ≤ q ∧ Hid (IV w1 vl (sel M j) wr)) (fun _ vi _ => q - (intOf vi).toNat)
    case atStart => exact ⟨0, rfl, Nat.zero_le _, IV.nil w1⟩
    case round =>
      obtain ⟨j, rfl, hj, HV⟩ := hrel
      by_cases hlt : j < q
      · have hlt' : (j : Int) < (q : Int) := by omega
        have hj0 : (0 : Int) ≤ (j : Int) := by omega
        rcases HT.out.next (HB1.out.tr HV.out.below) with h | ⟨g, o, rfl, hg, h3⟩
        · have := HEQ.out; omega
        obtain ⟨z0, -⟩ := h3 j (by rw [HEQ.out]; exact hlt)
        clear h3 hg
        have HW := HF.out HX.out j (by rw [HEQ.out]; exact hlt) wr (HB1.out.tr HV.out.below)
        obtain ⟨pj, hp⟩ : ∃ x, T.P j = x := ⟨_, rfl⟩
        obtain ⟨lj, hl⟩ : ∃ x, T.L j = x := ⟨_, rfl⟩
        obtain ⟨cj, hc⟩ : ∃ x, T.C j = x := ⟨_, rfl⟩
        rw [hp, hl, hc] at z0 HW
        clear hp hl hc
        cases hm : M j with
        | false =>
          have HM : Hid (M j = false) := hm
          rw [hm] at HW
          clear hm
          go_wp2_with fail
          refine HW.mono ?_
          clear HW
          rintro e w2 ⟨rfl, hb⟩
          have HV2 : Hid (IV w1 u9 (sel M j) w2) := HV.out.next hb
          clear hb HV z0
          go_wp2_with fail
          exact ⟨⟨j + 1, by simp, hlt, by rw [sel_no HM.out]; exact HV2⟩, by simp [intOf]; omega⟩
        | true =>
          have HM : Hid (M j = true) := hm
          rw [hm] at HW
          clear hm
          go_wp2_with fail
          refine HW.mono ?_
          clear HW
          rintro e w2 ⟨rfl, hb⟩
          have HV2 : Hid (IV w1 u9 (sel M j) w2) := HV.out.next hb
          clear hb HV z0
          have hlen := sel_len M j
          obtain ⟨pv, cv, rfl, -⟩ := HV2.out.im
          obtain ⟨g2, cc, w3, hr, hV3⟩ := HV2.out.one (by omega) (j : Int)
          rw [← sel_yes HM.out] at hV3
          have HV3 : Hid (IV w1 (.slice (some ⟨g2, 0, none⟩) ((sel M j).length + 1) cc) (sel M (j + 1)) w3) := hV3
          obtain ⟨ln, hln⟩ : ∃ ln, (sel M j).length = ln := ⟨_, rfl⟩
          rw [hln] at hr hlen HV3 ⊢
          have HR : Hid ((Builtin.append_ #[25, 25] 25 #[.slice pv ln cv, .slice (some ⟨w2.heap.size, 0, none⟩) 1 1]).run Tryz.prog (w2.alloc (.cells #[.int .i64 (j : Int)] 3)) = .ok (.slice (some ⟨g2, 0, none⟩) (ln + 1) cc) w3) := hr
          clear hV3 HV2 hr
          go_wp2_with (first | (at_builtin; refine wpList_append_eq rfl _ _ 25 rfl _ _ _ _ rfl rfl HR.out ?_))
          exact ⟨⟨j + 1, by simp, hlt, HV3⟩, by simp [intOf]; omega⟩
      · have hj2 : ¬ (j : Int) < (q : Int) := by omega
        have ej : j = q := by omega
        subst ej
        go_wp2_with fail
        refine bodyPost_ret (v := .tuple #[u9, .nilIface]) (by simp [results, Tryz.results14, go_sem]) rfl ?_
        exact ⟨⟨0, _, rfl, HX.out, fun h => absurd rfl h, fun _ => ⟨w1, HB1.out, by rw [HEQ.out]; exact HV.out⟩⟩, HB1.out.tr HV.out.below⟩
  · rw [errV_of hx0]
    go_wp2_with fail
    refine bodyPost_ret (v := .tuple #[.slice none 0 0, .iface 48 (.int .i64 x)]) (by simp [results, Tryz.results14, go_sem]) rfl ?_
    exact ⟨⟨x, _, by rw [errV_of hx0], HX.out, fun _ => rfl, fun h => absurd h hx0⟩, HB1.out⟩
set_option maxRecDepth 100000 in
theorem pick_all : AllP 6 metA := by
  intro T p cp p2 n c2 f w hT hW hq hn hL hcp hc2
  obtain ⟨W0, hW0⟩ : ∃ W, w.alloc (.cells #[.slice p2 n c2] 23) = W := ⟨_, rfl⟩
  have hB0 : Bw w W0 := by rw [← hW0]; exact Bw.al _ _
  have hbx : Bx W0 w.heap.size (.slice p2 n c2) := by rw [← hW0]; exact ⟨by simp, by simp⟩
  have H := take_pick T p cp p2 n c2 f (metA T n f) w.heap.size W0 (hT.next hB0) (hW.next hB0) hq hn hL (fun hz i hi wx hb => by
    obtain ⟨hS, hn12, hok⟩ := hz.zero
    rcases hT.next (hB0.tr hb) with h | ⟨g, o, -, -, h3⟩
    · omega
    have hx := pick1_any (T.P i) (T.L i) (T.C i) (T.v i) p2 n c2 f w.heap.size wx hn12 (h3 i hi).2 (hW.next (hB0.tr hb)) (hbx.next hb) (fun j hj => by
      obtain ⟨k1, k2, k3, k4⟩ := hok j hj
      have := hS.col k1 hi
      exact ⟨⟨this.1, this.2.1⟩, k3, k4⟩)
    rw [metA_any] at hx
    exact hx)
  have HB0 : Hid (Bw w W0) := hB0
  obtain ⟨y0, -⟩ := hbx
  clear hT hW hL hB0
  obtain ⟨q, eq⟩ : ∃ q, T.q = q := ⟨_, rfl⟩
  rw [eq] at H hq hcp ⊢
  clear eq
  obtain ⟨b0, hb0⟩ : ∃ b, w.heap.size = b := ⟨_, rfl⟩
  rw [hb0] at H y0
  generalize metA T n f = M at *
  go_enter Tryz.func6, Tryz.ntmps6
  go_wp2_with fail
  refine H.mono ?_
  clear H y0 hW0
  rintro e w1 ⟨⟨x, v, rfl, h1, h2, h3⟩, h5⟩
  have HP : Hid (WF T n f x ∧ (x ≠ 0 → v = .slice none 0 0) ∧ (x = 0 → ∃ W, Bw W0 W ∧ IV W v (sel M T.q) w1) ∧ Bw W0 w1) := ⟨h1, h2, h3, h5⟩
  clear h1 h2 h3 h5
  obtain ⟨ev, hev⟩ : ∃ ev, errV x = ev := ⟨_, rfl⟩
  have HEV : Hid (ev = errV x) := hev.symm
  rw [hev]
  clear hev
  go_wp2_with fail
  refine bodyPost_ret (v := .tuple #[v, ev]) (by simp [results, Tryz.results6, go_sem]) rfl ?_
  obtain ⟨h1, h2, h3, h5⟩ := HP.out
  exact PK.of HB0.out ⟨⟨x, v, by rw [HEV.out], h1, h2, h3⟩, h5⟩
set_option maxRecDepth 100000 in
set_option maxHeartbeats 8000000 in
theorem take_any (T : Tb) (p : Option Addr) (c : Nat) (p2 : Option Addr) (n c2 : Nat) (f : Nat → Wt) (M : Nat → Bool) (b0 : Nat) (w : World) (hT : TM w p T) (hW : WM w p2 n f) (hq : T.q ≤ 9223372036854775807) (hn : n ≤ 9223372036854775807) (hL : ∀ i, i < T.q → T.L i ≤ 9223372036854775807)
    (hf : WF T n f 0 → ∀ i, i < T.q → ∀ wx, Bw w wx → Calls Tryz.prog 19 #[.slice (T.P i) (T.L i) (T.C i), .pointer (some ⟨b0, 0, none⟩)] wx fun e w' => e = .returned (.bool (M i)) ∧ Bw wx w') :
    Calls Tryz.prog 14 #[.slice p T.q c, .slice p2 n c2, .func (.func 19) #[] #[.pointer (some ⟨b0, 0, none⟩)]] w fun e w' => PK T n f M w e w' := by
  have HC := pcheck_any T p c p2 n c2 f w hT hW hq hn hL
  have HF : Hid (WF T n f 0 → ∀ i, i < T.q → ∀ wx, Bw w wx → Calls Tryz.prog 19 #[.slice (T.P i) (T.L i) (T.C i), .pointer (some ⟨b0, 0, none⟩)] wx fun e w' => e = .returned (.bool (M i)) ∧ Bw wx w') := hf
  have HT : Hid (TM w p T) := hT
  clear hT hW hL hf
  obtain ⟨q, eq⟩ : ∃ q, T.q = q := ⟨_, rfl⟩
  have HEQ : Hid (T.q = q) := eq
  rw [eq] at HC hq ⊢
  clear eq
  go_enter Tryz.func14, Tryz.ntmps14
  go_wp2_with fail
  refine HC.mono ?_
  clear HC
  rintro e w1 ⟨⟨x, rfl, hx⟩, hb⟩
  have HX : Hid (WF T n f x) := hx
  have HB1 : Hid (Bw w w1) := hb
  clear hx hb
  by_cases hx0 : x = 0
  · subst hx0
    rw [errV_0]
    have hq60 : q ≤ 60 := by rw [← HEQ.out]; exact HX.out.zero.1.few
    go_wp2_with fail
    go_loopw [9, 20] (fun vl vi wr => ∃ j : Nat, vi = .int .i64 j ∧ j ≤ q ∧ Hid (IV w1 vl (sel M j) wr)) (fun _ vi _ => q - (intOf vi).toNat)
    case atStart => exact ⟨0, rfl, Nat.zero_le _, IV.nil w1⟩
    case round =>
      obtain ⟨j, rfl, hj, HV⟩ := hrel
      by_cases hlt : j < q
      · have hlt' : (j : Int) < (q : Int) := by omega
        have hj0 : (0 : Int) ≤ (j : Int) := by omega
        rcases HT.out.next (HB1.out.tr HV.out.below) with h | ⟨g, o, rfl, hg, h3⟩
        · have := HEQ.out; omega
        obtain ⟨z0, -⟩ := h3 j (by rw [HEQ.out]; exact hlt)
        clear h3 hg
        have HW := HF.out HX.out j (by rw [HEQ.out]; exact hlt) wr (HB1.out.tr HV.out.below)
        obtain ⟨pj, hp⟩ : ∃ x, T.P j = x := ⟨_, rfl⟩
        obtain ⟨lj, hl⟩ : ∃ x, T.L j = x := ⟨_, rfl⟩
        obtain ⟨cj, hc⟩ : ∃ x, T.C j = x := ⟨_, rfl⟩
        rw [hp, hl, hc] at z0 HW
        clear hp hl hc
        cases hm : M j with
        | false =>
          have HM : Hid (M j = false) := hm
          rw [hm] at HW
          clear hm
          go_wp2_with fail
          refine HW.mono ?_
          clear HW
          rintro e w2 ⟨rfl, hb⟩
          have HV2 : Hid (IV w1 u9 (sel M j) w2) := HV.out.next hb
          clear hb HV z0
          go_wp2_with fail
          exact ⟨⟨j + 1, by simp, hlt, by rw [sel_no HM.out]; exact HV2⟩, by simp [intOf]; omega⟩
        | true =>
          have HM : Hid (M j = true) := hm
          rw [hm] at HW
          clear hm
          go_wp2_with fail
          refine HW.mono ?_
          clear HW
          rintro e w2 ⟨rfl, hb⟩
          have HV2 : Hid (IV w1 u9 (sel M j) w2) := HV.out.next hb
          clear hb HV z0
          have hlen := sel_len M j
          obtain ⟨pv, cv, rfl, -⟩ := HV2.out.im
          obtain ⟨g2, cc, w3, hr, hV3⟩ := HV2.out.one (by omega) (j : Int)
          rw [← sel_yes HM.out] at hV3
          have HV3 : Hid (IV w1 (.slice (some ⟨g2, 0, none⟩) ((sel M j).length + 1) cc) (sel M (j + 1)) w3) := hV3
          obtain ⟨ln, hln⟩ : ∃ ln, (sel M j).length = ln := ⟨_, rfl⟩
          rw [hln] at hr hlen HV3 ⊢
          have HR : Hid ((Builtin.append_ #[25, 25] 25 #[.slice pv ln cv, .slice (some ⟨w2.heap.size, 0, none⟩) 1 1]).run Tryz.prog (w2.alloc (.cells #[.int .i64 (j : Int)] 3)) = .ok (.slice (some ⟨g2, 0, none⟩) (ln + 1) cc) w3) := hr
          clear hV3 HV2 hr
          go_wp2_with (first | (at_builtin; refine wpList_append_eq rfl _ _ 25 rfl _ _ _ _ rfl rfl HR.out ?_))
          exact ⟨⟨j + 1, by simp, hlt, HV3⟩, by simp [intOf]; omega⟩
      · have hj2 : ¬ (j : Int) < (q : Int) := by omega
        have ej : j = q := by omega
        subst ej
        go_wp2_with fail
        refine bodyPost_ret (v := .tuple #[u9, .nilIface]) (by simp [results, Tryz.results14, go_sem]) rfl ?_
        exact ⟨⟨0, _, rfl, HX.out, fun h => absurd rfl h, fun _ => ⟨w1, HB1.out, by rw [HEQ.out]; exact HV.out⟩⟩, HB1.out.tr HV.out.below⟩
  · rw [errV_of hx0]
    go_wp2_with fail
    refine bodyPost_ret (v := .tuple #[.slice none 0 0, .iface 48 (.int .i64 x)]) (by simp [results, Tryz.results14, go_sem]) rfl ?_
    exact ⟨⟨x, _, by rw [errV_of hx0], HX.out, fun _ => rfl, fun h => absurd h hx0⟩, HB1.out⟩
set_option maxRecDepth 100000 in
theorem any_all : AllP 8 metO := by
  intro T p cp p2 n c2 f w hT hW hq hn hL hcp hc2
  obtain ⟨W0, hW0⟩ : ∃ W, w.alloc (.cells #[.slice p2 n c2] 23) = W := ⟨_, rfl⟩
  have hB0 : Bw w W0 := by rw [← hW0]; exact Bw.al _ _
  have hbx : Bx W0 w.heap.size (.slice p2 n c2) := by rw [← hW0]; exact ⟨by simp, by simp⟩
  have H := take_any T p cp p2 n c2 f (metO T n f) w.heap.size W0 (hT.next hB0) (hW.next hB0) hq hn hL (fun hz i hi wx hb => by
    obtain ⟨hS, hn12, hok⟩ := hz.zero
    rcases hT.next (hB0.tr hb) with h | ⟨g, o, -, -, h3⟩
    · omega
    have hx := any1_any (T.P i) (T.L i) (T.C i) (T.v i) p2 n c2 f w.heap.size wx hn12 (h3 i hi).2 (hW.next (hB0.tr hb)) (hbx.next hb) (fun j hj => by
      obtain ⟨k1, k2, k3, k4⟩ := hok j hj
      have := hS.col k1 hi
      exact ⟨⟨this.1, this.2.1⟩, k3, k4⟩)
    rw [metO_any] at hx
    exact hx)
  have HB0 : Hid (Bw w W0) := hB0
  obtain ⟨y0, -⟩ := hbx
  clear hT hW hL hB0
  obtain ⟨q, eq⟩ : ∃ q, T.q = q := ⟨_, rfl⟩
  rw [eq] at H hq hcp ⊢
  clear eq
  obtain ⟨b0, hb0⟩ : ∃ b, w.heap.size = b := ⟨_, rfl⟩
  rw [hb0] at H y0
  generalize metO T n f = M at *
  go_enter Tryz.func8, Tryz.ntmps8
  go_wp2_with fail
  refine H.mono ?_
  clear H y0 hW0
  rintro e w1 ⟨⟨x, v, rfl, h1, h2, h3⟩, h5⟩
  have HP : Hid (WF T n f x ∧ (x ≠ 0 → v = .slice none 0 0) ∧ (x = 0 → ∃ W, Bw W0 W ∧ IV W v (sel M T.q) w1) ∧ Bw W0 w1) := ⟨h1, h2, h3, h5⟩
  clear h1 h2 h3 h5
  obtain ⟨ev, hev⟩ : ∃ ev, errV x = ev := ⟨_, rfl⟩
  have HEV : Hid (ev = errV x) := hev.symm
  rw [hev]
  clear hev
  go_wp2_with fail
  refine bodyPost_ret (v := .tuple #[v, ev]) (by simp [results, Tryz.results8, go_sem]) rfl ?_
  obtain ⟨h1, h2, h3, h5⟩ := HP.out
  exact PK.of HB0.out ⟨⟨x, v, by rw [HEV.out], h1, h2, h3⟩, h5⟩
end Go.Proofs.YtjbdpcnebilmbaaGreatDoor.so
