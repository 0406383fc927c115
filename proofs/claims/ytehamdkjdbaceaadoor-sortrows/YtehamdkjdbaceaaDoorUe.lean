
/- Package sort: Sort, Sorted. Conditions: as each theorem says. -/
import Derived.Test.YtehamdkjdbaceaaDoorUd
import Derived.BigQuiet
namespace Go.Proofs.YtehamdkjdbaceaaDoor.so
open Go.RowKit Go.Sort Go.Shelf
/-- The two boxes, opened. -/
abbrev XB (W0 : World) (b2 b3 : Nat) (v2 v3 : Value) (wx : World) : Prop := wx.cell? ⟨b2, 0, none⟩ = some v2 ∧ wx.cell? ⟨b3, 0, none⟩ = some v3 ∧ Bw W0 wx
theorem xb_bw {W0 : World} {b2 b3 : Nat} {v2 v3 : Value} {wx : World} (h : XB W0 b2 b3 v2 v3 wx) : Bw W0 wx := h.2.2
theorem own_base {w : World} {base base' n t s : Nat} {v : Value} {xs : List Value} (h : w.ownsRow base t s v n xs) (hb : base' ≤ base) : w.ownsRow base' t s v n xs := by
  obtain ⟨h0, h | ⟨g, cap, cur, h1, h2, h3⟩⟩ := h
  · exact ⟨h0, Or.inl h⟩
  · exact ⟨h0, Or.inr ⟨g, cap, cur, h1, Nat.le_trans hb h2, h3⟩⟩
/-- What Sort answers. -/
def SO (T : Tb) (n : Nat) (c : Nat → Int) (d : Nat → Bool) (w : World) (e : Ending) (w' : World) : Prop :=
  (∃ x v, e = .returned (.tuple #[v, errV x]) ∧ CF T n c x ∧ (x ≠ 0 → v = .slice none 0 0) ∧ (x = 0 → ∃ W Z, Bw w W ∧ StN T n c d Z ∧ IV W v (natI Z) w')) ∧ Bw w w'
set_option maxRecDepth 100000 in
set_option maxHeartbeats 4000000 in
theorem sort_any (T : Tb) (p : Option Addr) (cp : Nat) (p3 : Option Addr) (n c3 : Nat) (c : Nat → Int) (d : Nat → Bool) (w : World) (hT : TM w p T) (hK : KM w p3 n c d) (hq : T.q ≤ 9223372036854775807) (hn : n ≤ 8796093022208) (hL : ∀ i, i < T.q → T.L i ≤ 9223372036854775807) :
    Calls Tryd.prog 12 #[.slice p T.q cp, .slice p3 n c3] w fun e w' => SO T n c d w e w' := by
  obtain ⟨W0, hW0⟩ : ∃ W, (w.alloc (.cells #[.slice p T.q cp] 22)).alloc (.cells #[.slice p3 n c3] 23) = W := ⟨_, rfl⟩
  have hb0 : Bw w W0 := by rw [← hW0]; exact (Bw.al _ _).tr (Bw.al _ _)
  have HCOL : Hid (∀ wx, Bw W0 wx → Calls Tryd.prog 22 #[.slice p3 n c3] wx fun e w' => ∃ pv cv, e = .returned (.slice pv n cv) ∧ IM w' pv n c ∧ Bw W0 w') := by
    intro wx hb
    refine (columnsOf_any p3 n c3 c d wx (hK.next (hb0.tr hb)) hn).mono ?_
    rintro e w' ⟨v, rfl, hv⟩
    obtain ⟨pv, cv, rfl, him⟩ := hv.im
    rw [colsL_len] at him ⊢
    exact ⟨pv, cv, rfl, him.congr (fun i hi => colsL_at hi), hb.tr hv.below⟩
  have HCW : Hid (∀ wx pv cv, Bw W0 wx → IM wx pv n c → Calls Tryd.prog 21 #[.slice p T.q cp, .slice pv n cv] wx fun e w' => (∃ x, e = .returned (errV x) ∧ CF T n c x) ∧ Bw W0 w') := fun wx pv cv hb hi =>
    (checkWith_any T p cp pv n cv c wx (hT.next (hb0.tr hb)) hi hq (by omega) hL).mono fun e w' h => ⟨h.1, hb.tr h.2⟩
  have hx2 : Bx W0 w.heap.size (.slice p T.q cp) := by rw [← hW0]; exact ⟨by rw [(Bw.al _ _).cell (p := ⟨w.heap.size, 0, none⟩) (by simp)]; simp, by simp; omega⟩
  have hx3 : Bx W0 (w.heap.size + 1) (.slice p3 n c3) := by
    rw [← hW0]
    have e : w.heap.size + 1 = (w.alloc (.cells #[.slice p T.q cp] 22)).heap.size := by simp
    rw [e]
    exact ⟨by simp, by simp⟩
  have HX2 : Hid (Bx W0 w.heap.size (.slice p T.q cp)) := hx2
  have HX3 : Hid (Bx W0 (w.heap.size + 1) (.slice p3 n c3)) := hx3
  have HB0 : Hid (Bw w W0) := hb0
  have HT : Hid (TM W0 p T) := hT.next hb0
  have HK : Hid (KM W0 p3 n c d) := hK.next hb0
  have sof : Hid (∀ wx, Bw W0 wx → XB W0 w.heap.size (w.heap.size + 1) (.slice p T.q cp) (.slice p3 n c3) wx) := fun wx hb =>
    ⟨(hb.cell (p := ⟨w.heap.size, 0, none⟩) hx2.2).trans hx2.1, (hb.cell (p := ⟨w.heap.size + 1, 0, none⟩) hx3.2).trans hx3.1, hb⟩
  have h0d := sof.out W0.drew (Below.refl _ _).drew
  obtain ⟨y2, y3, -⟩ := sof.out W0 (Below.refl _ _)
  have HSS : Hid (∀ v wx, CF T n c 0 → IV W0 v (natI (List.range T.q)) wx → (T.q = 0 → v = .slice none 0 0) → Calls Tryd.prog 23 #[v, .func (.func 24) #[] #[.pointer (some ⟨w.heap.size, 0, none⟩), .pointer (some ⟨w.heap.size + 1, 0, none⟩)]] wx fun e w' => e = .returned (.tuple #[]) ∧ ∃ Z, StN T n c d Z ∧ IV W0 v (natI Z) w') := fun v wx hcf hv h0 => sortStable_any T p cp p3 n c3 c d _ _ W0 wx v hcf.zero.1 hcf.zero.2.1 hcf.zero.2.2 HT.out HK.out HX2.out HX3.out hv h0
  obtain ⟨q, eq⟩ : ∃ q, T.q = q := ⟨_, rfl⟩
  have HEQ : Hid (T.q = q) := eq
  clear hT hK hL hb0 hx2 hx3
  rw [eq] at hW0 HCW HX2 y2 h0d sof HSS hq ⊢
  clear eq
  have mixed := mixed
  go_enter Tryd.func12, Tryd.ntmps12
  go_upto_region 1 with fail
  try rw [hW0]
  clear hW0
  go_cut [6] (fun s6 wx => ∃ x, s6 = errV x ∧ Hid (CF T n c x) ∧ Hid (Bw W0 wx))
  case first =>
    go_region_held3 (fun wx => XB W0 w.heap.size (w.heap.size + 1) (.slice p q cp) (.slice p3 n c3) wx) (first | exact h0d | exact sof.out _ (by assumption)) (first | (go_at_call 22; refine (HCOL.out _ (xb_bw (by assumption))).mono ?_; rintro e w1 ⟨pv, cv, rfl, him, hbw1⟩) | (go_at_call 21; refine (HCW.out _ _ _ (by assumption) (by assumption)).mono ?_; rintro e w2 ⟨⟨x, rfl, hx⟩, hbw2⟩))
    all_goals
      obtain ⟨ev, hev⟩ : ∃ ev, errV x = ev := ⟨_, rfl⟩
      have HEV : Hid (ev = errV x) := hev.symm
      rw [hev]
      clear hev
      go_wp2_with fail
      go_meet
      case rel => exact ⟨x, HEV.out, hx, hbw2⟩
  case rest =>
    obtain ⟨x, rfl, HX, HB⟩ := hcut
    clear y2 y3 h0d HCOL HCW
    have HBW : Hid (Bw w wc) := HB0.out.tr HB.out
    by_cases hx0 : x = 0
    · subst hx0
      rw [errV_0]
      have hq60 : q ≤ 60 := by rw [← HEQ.out]; exact HX.out.zero.1.few
      obtain ⟨y2, y3, -⟩ := sof.out wc HB.out
      apply_assumption
      go_wp2_with fail
      go_loopw [7, 18] (fun vl vi wr => ∃ j : Nat, vi = .int .i64 j ∧ j ≤ q ∧ Hid (IV wc vl (natI (List.range j)) wr) ∧ Hid (j = 0 → vl = .slice none 0 0)) (fun _ vi _ => q - (intOf vi).toNat)
      case atStart => exact ⟨0, rfl, Nat.zero_le _, IV.nil wc, fun _ => rfl⟩
      case round =>
        obtain ⟨j, rfl, hj, HV, HZ⟩ := hrel
        by_cases hlt : j < q
        · have hlt' : (j : Int) < (q : Int) := by omega
          have hj0 : (0 : Int) ≤ (j : Int) := by omega
          have hlen : (natI (List.range j)).length = j := by simp
          obtain ⟨pv, cv, rfl, -⟩ := HV.out.im
          obtain ⟨g2, cc, w3, hr, hV3⟩ := HV.out.one (by rw [hlen]; omega) (j : Int)
          rw [hlen] at hr hV3 ⊢
          have e : natI (List.range j) ++ [(j : Int)] = natI (List.range (j + 1)) := by simp [List.range_succ]
          rw [e] at hV3
          have HV3 : Hid (IV wc (.slice (some ⟨g2, 0, none⟩) (j + 1) cc) (natI (List.range (j + 1))) w3) := hV3
          have HR : Hid ((Builtin.append_ #[24, 24] 24 #[.slice pv j cv, .slice (some ⟨wr.heap.size, 0, none⟩) 1 1]).run Tryd.prog (wr.alloc (.cells #[.int .i64 (j : Int)] 3)) = .ok (.slice (some ⟨g2, 0, none⟩) (j + 1) cc) w3) := hr
          clear hV3 hr HV e HZ hlen
          go_wp2_with (first | (at_builtin; refine wpList_append_eq rfl _ _ 24 rfl _ _ _ _ rfl rfl HR.out ?_))
          exact ⟨⟨j + 1, by simp, hlt, HV3, fun h => by omega⟩, by simp [intOf]; omega⟩
        · have hj2 : ¬ (j : Int) < (q : Int) := by omega
          have ej : j = q := by omega
          subst ej
          have hV0 : IV W0 u7 (natI (List.range j)) wr := ⟨by have := HV.out.own; exact own_base this HB.out.size, HB.out.tr HV.out.below⟩
          have HSC := HSS.out u7 wr HX.out hV0 HZ.out
          clear HSS HV HZ hV0 y2 y3
          go_wp2_with fail
          refine HSC.mono ?_
          clear HSC
          rintro e w4 ⟨rfl, Z, hZ, hIV⟩
          have HO : Hid (StN T n c d Z ∧ IV W0 u7 (natI Z) w4) := ⟨hZ, hIV⟩
          clear hZ hIV
          go_wp2_with fail
          refine bodyPost_ret (v := .tuple #[u7, .nilIface]) (by simp [results, Tryd.results12, go_sem]) rfl ?_
          exact ⟨⟨0, _, rfl, HX.out, fun h => absurd rfl h, fun _ => ⟨W0, Z, HB0.out, HO.out.1, HO.out.2⟩⟩, HB0.out.tr HO.out.2.below⟩
    · rw [errV_of hx0]
      apply_assumption
      go_wp2_with fail
      refine bodyPost_ret (v := .tuple #[.slice none 0 0, .iface 46 (.int .i64 x)]) (by simp [results, Tryd.results12, go_sem]) rfl ?_
      exact ⟨⟨x, _, by rw [errV_of hx0], HX.out, fun _ => rfl, fun h => absurd h hx0⟩, HBW.out⟩
/-- Are two lists of numbers the same? -/
def sameL (n : Nat) (a : Nat → Int) (m : Nat) (b : Nat → Int) : Bool := n == m && (List.range n).all fun i => a i == b i
theorem sameL_true {n : Nat} {a : Nat → Int} {m : Nat} {b : Nat → Int} : sameL n a m b = true ↔ n = m ∧ ∀ i, i < n → a i = b i := by
  unfold sameL
  simp
theorem sameL_false {n : Nat} {a : Nat → Int} {m : Nat} {b : Nat → Int} {i : Nat} (hi : i < n) (h : a i ≠ b i) : sameL n a m b = false := by
  cases e : sameL n a m b with
  | false => rfl
  | true => exact absurd ((sameL_true.1 e).2 i hi) h
theorem drewN_bw (w : World) (m : Nat) : Bw w (w.drewN m) := Gr.below ⟨m, #[], by rw [grow_empty]⟩
set_option maxRecDepth 100000 in
set_option maxHeartbeats 4000000 in
theorem equal_any (p1 : Option Addr) (n c1 : Nat) (a : Nat → Int) (p2 : Option Addr) (m c2 : Nat) (b : Nat → Int) (w : World) (h1 : IM w p1 n a) (h2 : IM w p2 m b) (hn : n ≤ 9223372036854775807) (hm : m ≤ 9223372036854775807) :
    Calls Tryd.prog 26 #[.slice p1 n c1, .slice p2 m c2] w fun e w' => e = .returned (.bool (sameL n a m b)) ∧ Bw w w' := by
  have H1 : Hid (IM w p1 n a) := h1
  have H2 : Hid (IM w p2 m b) := h2
  clear h1 h2
  by_cases hne : n = m
  · subst hne
    obtain ⟨A, hA⟩ : ∃ A, sameL n a n b = A := ⟨_, rfl⟩
    have HA : Hid (sameL n a n b = A) := hA
    rw [hA]
    clear hA
    have mixed := mixed
    go_enter Tryd.func26, Tryd.ntmps26
    go_wp2_with fail
    go_loopw [13] (fun i wr => ∃ j : Nat, i = .int .i64 j ∧ j ≤ n ∧ Hid (Bw w wr) ∧ Hid (∀ i, i < j → a i = b i)) (fun i _ => n - (intOf i).toNat)
    case atStart => exact ⟨0, rfl, Nat.zero_le _, Below.refl _ _, fun i hi => absurd hi (Nat.not_lt_zero _)⟩
    case round =>
      obtain ⟨j, rfl, hj, HB, HD⟩ := hrel
      by_cases hlt : j < n
      · have hlt' : (j : Int) < (n : Int) := by omega
        have hj0 : (0 : Int) ≤ (j : Int) := by omega
        rcases H1.out.next HB.out with h | ⟨g1, o1, rfl, hg1, h1⟩
        · omega
        rcases H2.out.next HB.out with h | ⟨g2, o2, rfl, hg2, h2⟩
        · omega
        have y1 := h1 j hlt
        have y2 := h2 j hlt
        clear h1 h2 hg1 hg2
        have y1q : ∀ m, (wr.drewN m).cell? ⟨g1, o1 + j, none⟩ = some (.int .i64 (a j)) := fun m => y1
        have y2q : ∀ m, (wr.drewN m).cell? ⟨g2, o2 + j, none⟩ = some (.int .i64 (b j)) := fun m => y2
        obtain ⟨x, hx⟩ : ∃ x, a j = x := ⟨_, rfl⟩
        obtain ⟨y, hy⟩ : ∃ y, b j = y := ⟨_, rfl⟩
        have HX : Hid (a j = x ∧ b j = y) := ⟨hx, hy⟩
        rw [hx] at y1q y1
        rw [hy] at y2q y2
        clear hx hy
        by_cases hxy : x = y
        · subst hxy
          go_wp2_with fail
          try go_quiet (fail)
          go_wp2_with fail
          exact ⟨⟨j + 1, by simp, hlt, by first | exact HB | exact HB.out.tr (drewN_bw _ _), fun i hi => by
            by_cases e : i = j
            · subst e; rw [HX.out.1, HX.out.2]
            · exact HD.out i (by omega)⟩, by simp [intOf]; omega⟩
        · have HF : Hid (A = false) := by show A = false; rw [← HA.out]; exact sameL_false hlt (by rw [HX.out.1, HX.out.2]; exact hxy)
          have hxy' : (x != y) = true := by simp; exact hxy
          go_wp2_with fail
          try go_quiet (fail)
          go_wp2_with fail
          go_ret
          exact ⟨by rw [HF.out]; rfl, by first | exact HB.out | exact HB.out.tr (drewN_bw _ _)⟩
      · have hj2 : ¬ (j : Int) < (n : Int) := by omega
        go_wp2_with fail
        go_ret
        exact ⟨by rw [← HA.out, sameL_true.2 ⟨rfl, fun i hi => HD.out i (by omega)⟩]; rfl, HB.out⟩
  · have e : sameL n a m b = false := by
      cases e : sameL n a m b with
      | false => rfl
      | true => exact absurd (sameL_true.1 e).1 hne
    rw [e]
    have hne' : ((n : Int) != (m : Int)) = true := by simp; omega
    clear e hne
    go_enter Tryd.func26, Tryd.ntmps26
    go_wp2_with fail
    go_ret
    exact ⟨rfl, Below.refl _ _⟩
end Go.Proofs.YtehamdkjdbaceaaDoor.so
