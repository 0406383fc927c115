
/- Package pick: how many rows at the head of an order are alike. Conditions: as each theorem says. -/
import Derived.Test.YtbiikodnfaeceaaGreatDoorGb
namespace Go.Proofs.YtbiikodnfaeceaaGreatDoor.so
open Go.RowKit Go.Sort Go.Shelf
/-- What the closure reads. -/
abbrev MD (w : World) (bf br bb g a bk' : Nat) (sr sb row : Value) (wx : World) : Prop :=
  wx.cell? ⟨bf, 0, none⟩ = some (.func (.func 50) #[] #[.pointer (some ⟨bk', 0, none⟩)]) ∧ wx.cell? ⟨br, 0, none⟩ = some sr ∧ wx.cell? ⟨bb, 0, none⟩ = some sb ∧ wx.cell? ⟨g, a, none⟩ = some row ∧ Bw w wx
theorem md_bw {w : World} {bf br bb g a bk' : Nat} {sr sb row : Value} {wx : World} (h : MD w bf br bb g a bk' sr sb row wx) : Bw w wx := h.2.2.2.2
set_option maxRecDepth 100000 in
set_option maxHeartbeats 4000000 in
theorem other_any (T : Tb) (p : Option Addr) (cp : Nat) (p2 : Option Addr) (n c2 : Nat) (c : Nat → Int) (pv : Option Addr) (cv : Nat) (b : Nat → Vl) (bf br bb bk' t : Nat) (w : World) (hn : n ≤ 12) (_hq : T.q ≤ 60) (ht : t < T.q) (hT : TM w p T) (hI : IM w p2 n c) (hc : ∀ i, i < n → 0 ≤ c i ∧ c i < (T.L t : Int))
    (hf : Bx w bf (fhk bk')) (hk : Bx w bk' (.slice pv n cv)) (hv : VM w pv n b) (hr : Bx w br (.slice p T.q cp)) (hb : Bx w bb (.slice p2 n c2)) :
    Calls Tryz.prog 36 #[.int .i64 (t : Int), .pointer (some ⟨bf, 0, none⟩), .pointer (some ⟨br, 0, none⟩), .pointer (some ⟨bb, 0, none⟩)] w fun e w' => e = .returned (.bool (!(eqK (fun i => T.v t (c i).toNat) b n))) ∧ Bw w w' := by
  rcases hT with h | ⟨g, o, rfl, hg, h3⟩
  · omega
  obtain ⟨z0, hvm⟩ := h3 t ht
  clear h3
  have HVI : Hid (∀ wx, Bw w wx → Calls Tryz.prog 22 #[.slice (T.P t) (T.L t) (T.C t), .slice p2 n c2] wx fun e w' => ∃ pv cv, e = .returned (.slice pv n cv) ∧ VM w' pv n (fun i => T.v t (c i).toNat) ∧ At wx.heap.size w'.heap.size n pv ∧ Bw wx w') := fun wx hb =>
    valuesIn_at _ _ _ (T.v t) p2 n c2 c wx (hvm.next hb) (hI.next hb) hn hc
  have HHK : Hid (∀ p1 c1 wx, Bw w wx → VM wx p1 n (fun i => T.v t (c i).toNat) → Calls Tryz.prog 50 #[.slice p1 n c1, .pointer (some ⟨bk', 0, none⟩)] wx fun e w' => e = .returned (.bool (eqK (fun i => T.v t (c i).toNat) b n)) ∧ Bw wx w') := fun p1 c1 wx hb h1 =>
    hasKey1_any p1 c1 _ pv cv b n hn bk' wx h1 (hv.next hb) (hk.next hb)
  have sof : Hid (∀ wx, Bw w wx → MD w bf br bb g (o + t) bk' (.slice (some ⟨g, o, none⟩) T.q cp) (.slice p2 n c2) (.slice (T.P t) (T.L t) (T.C t)) wx) := fun wx hbw => ⟨(hf.next hbw).1, (hr.next hbw).1, (hb.next hbw).1, (hbw.cell (p := ⟨g, _, none⟩) hg).trans z0, hbw⟩
  obtain ⟨E, hE⟩ : ∃ E, eqK (fun i => T.v t (c i).toNat) b n = E := ⟨_, rfl⟩
  rw [hE] at HHK ⊢
  clear hE hf hk hv hr hb hvm z0 hI hc hg
  obtain ⟨q, eq⟩ : ∃ q, T.q = q := ⟨_, rfl⟩
  rw [eq] at sof _hq ht
  clear eq
  have ht' : (t : Int) < (q : Int) := by omega
  have ht0 : (0 : Int) ≤ (t : Int) := by omega
  generalize T.P t = pt at *
  generalize T.L t = lt at *
  generalize T.C t = ct at *
  have h0d := sof.out w.drew ((Below.refl _ _).drew)
  obtain ⟨y0, y1, y2, y3, -⟩ := sof.out w (Below.refl _ _)
  go_enter Tryz.func36, Tryz.ntmps36
  go_upto_region 1 with fail
  go_region_held3 (fun wx => MD w bf br bb g (o + t) bk' (.slice (some ⟨g, o, none⟩) q cp) (.slice p2 n c2) (.slice pt lt ct) wx) (first | exact h0d | exact sof.out _ ((md_bw (by assumption)).tr (by assumption))) (first | (go_at_call 22; refine (HVI.out _ (md_bw h0d)).mono ?_; rintro e w3 ⟨p3, c3, rfl, q1, -, q3⟩) | (go_at_call 50; refine (HHK.out _ _ _ ((md_bw h0d).tr q3) q1).mono ?_; rintro e w4 ⟨rfl, q4⟩))
  have HB3 : Hid (Bw w w4) := ((md_bw h0d).tr q3).tr q4
  clear h0d y0 y1 y2 y3 sof HVI HHK q1 q3 q4
  go_wp2_with fail
  go_ret
  exact ⟨rfl, HB3.out⟩
set_option maxRecDepth 100000 in
set_option maxHeartbeats 4000000 in
theorem indexI_any (p : Option Addr) (m cp : Nat) (z : Nat → Nat) (f : Nat → Bool) (b1 b2 b3 : Nat) (w : World) (hm : m ≤ 60) (hI : IM w p m (fun i => (z i : Int))) (hf : ∀ j, j < m → ∀ wx, Bw w wx → Calls Tryz.prog 36 #[.int .i64 (z j : Int), .pointer (some ⟨b1, 0, none⟩), .pointer (some ⟨b2, 0, none⟩), .pointer (some ⟨b3, 0, none⟩)] wx fun e w' => e = .returned (.bool (f j)) ∧ Bw wx w') :
    Calls Tryz.prog 37 #[.slice p m cp, .func (.func 36) #[] #[.pointer (some ⟨b1, 0, none⟩), .pointer (some ⟨b2, 0, none⟩), .pointer (some ⟨b3, 0, none⟩)]] w fun e w' => (∃ x : Int, e = .returned (.int .i64 x) ∧ ((x = -1 ∧ ∀ j, j < m → f j = false) ∨ (∃ j, j < m ∧ x = (j : Nat) ∧ f j = true ∧ ∀ i, i < j → f i = false))) ∧ Bw w w' := by
  have HT : Hid (IM w p m (fun i => (z i : Int))) := hI
  have HF : Hid (∀ j, j < m → ∀ wx, Bw w wx → Calls Tryz.prog 36 #[.int .i64 (z j : Int), .pointer (some ⟨b1, 0, none⟩), .pointer (some ⟨b2, 0, none⟩), .pointer (some ⟨b3, 0, none⟩)] wx fun e w' => e = .returned (.bool (f j)) ∧ Bw wx w') := hf
  clear hI hf
  go_enter Tryz.func37, Tryz.ntmps37
  go_wp2_with fail
  go_loopw [8] (fun i wr => ∃ j : Nat, i = .int .i64 j ∧ j ≤ m ∧ Hid (Bw w wr) ∧ Hid (∀ i, i < j → f i = false)) (fun i _ => m - (intOf i).toNat)
  case atStart => exact ⟨0, rfl, Nat.zero_le _, Below.refl _ _, fun i hi => absurd hi (Nat.not_lt_zero _)⟩
  case round =>
    obtain ⟨j, rfl, hj, HB, HD⟩ := hrel
    by_cases hlt : j < m
    · have hlt' : (j : Int) < (m : Int) := by omega
      have hj0 : (0 : Int) ≤ (j : Int) := by omega
      rcases HT.out.next HB.out with h | ⟨g, o, rfl, hg, h3⟩
      · omega
      have y0 := h3 j hlt
      dsimp only at y0
      clear h3 hg
      have HW := HF.out j hlt wr HB.out
      generalize z j = zj at *
      cases hb : f j with
      | true =>
        have HX : Hid (f j = true) := hb
        rw [hb] at HW
        clear hb
        go_wp2_with fail
        refine HW.mono ?_
        rintro e w1 ⟨rfl, hb1⟩
        have HB1 : Hid (Bw w w1) := HB.out.tr hb1
        clear hb1 HW y0 HB
        go_wp2_with fail
        go_ret
        exact ⟨⟨j, rfl, .inr ⟨j, hlt, rfl, HX.out, HD.out⟩⟩, HB1.out⟩
      | false =>
        have HX : Hid (f j = false) := hb
        rw [hb] at HW
        clear hb
        go_wp2_with fail
        refine HW.mono ?_
        rintro e w1 ⟨rfl, hb1⟩
        have HB1 : Hid (Bw w w1) := HB.out.tr hb1
        clear hb1 HW y0 HB
        go_wp2_with fail
        exact ⟨⟨j + 1, by simp, hlt, HB1, fun i hi => by
          by_cases e : i = j
          · subst e; exact HX.out
          · exact HD.out i (by omega)⟩, by simp [intOf]; omega⟩
    · have hj2 : ¬ (j : Int) < (m : Int) := by omega
      go_wp2_with fail
      go_ret
      exact ⟨⟨-1, rfl, .inl ⟨rfl, fun i hi => HD.out i (by omega)⟩⟩, HB.out⟩
theorem VM.setO {w : World} {p : Option Addr} {n b : Nat} {r : Nat → Vl} (h : VM w p n r) {lo hi : Nat} (ha : At lo hi n p) (hb : b < lo ∨ hi ≤ b) (o : Nat) (u : Value) : VM (w.setCell ⟨b, o, none⟩ u) p n r := by
  rcases ha with h0 | ⟨g, rfl, h1, h2⟩
  · exact .inl h0
  · rcases h with h0 | ⟨g', o', e, hg, h3⟩
    · exact .inl h0
    · obtain ⟨rfl, rfl⟩ : g = g' ∧ 0 = o' := by
        injection e with e; injection e with e1 e2; exact ⟨e1, e2⟩
      have hne : g ≠ b := by omega
      have key : ∀ t, (w.setCell ⟨b, o, none⟩ u).cell? ⟨g, t, none⟩ = w.cell? ⟨g, t, none⟩ := fun t => by
        have := oblk_else (w := w) (b := b) (o := o) (i := g) (u := u) hne
        simp only [World.cell?, this]
      refine .inr ⟨g, 0, rfl, by simpa using hg, fun i hi => ?_⟩
      rw [key, key, key]
      exact h3 i hi
theorem Bx.setO {w : World} {b g : Nat} {v : Value} (h : Bx w g v) (hne : g ≠ b) (o : Nat) (u : Value) : Bx (w.setCell ⟨b, o, none⟩ u) g v := by
  have := oblk_else (w := w) (b := b) (o := o) (i := g) (u := u) hne
  exact ⟨by simp only [World.cell?, this]; exact h.1, by simpa using h.2⟩
end Go.Proofs.YtbiikodnfaeceaaGreatDoor.so
