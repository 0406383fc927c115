
/- sccsame.Bytes: whether two lists of bytes are the same, walked. Conditions: as each theorem says. -/
import Derived.Test.YtokfijkhflfioaaGreatDoorBka
import Derived.BigQuiet
namespace Go.Proofs.YtokfijkhflfioaaGreatDoor.fw
open Go.RowKit Go.Sort
theorem drawn_bw (w : World) (m : Nat) : Bw w (w.drewN m) := ⟨rfl, rfl, rfl, Nat.le_refl _, fun _ _ => rfl⟩
/-- A list of bytes that lies somewhere. -/
def BM (w : World) (v : Value) (xs : List UInt8) : Prop := ∃ p c, v = .slice p xs.length c ∧ ∀ (i : Nat) (x : UInt8), xs[i]? = some x → ∃ g o, p = some ⟨g, o, none⟩ ∧ w.cell? ⟨g, o + i, none⟩ = some (.int .u8 (x.toNat : Int))
theorem BV.bm {w : World} {v : Value} {xs : List UInt8} {wx : World} (h : BV w v xs wx) : BM wx v xs := by
  obtain ⟨p, c, rfl, ⟨h0, rfl, rfl⟩ | ⟨g, rfl, hc⟩⟩ := h.form
  · refine ⟨none, 0, rfl, fun i x hx => ?_⟩
    rw [List.eq_nil_of_length_eq_zero h0] at hx
    cases hx
  · exact ⟨_, _, rfl, fun i x hx => ⟨g, 0, rfl, by rw [Nat.zero_add]; exact h.cell hx⟩⟩
theorem BM.next {w w' : World} {v : Value} {xs : List UInt8} (h : BM w v xs) (hb : Bw w w') : BM w' v xs := by
  obtain ⟨p, c, e, h⟩ := h
  refine ⟨p, c, e, fun i x hx => ?_⟩
  obtain ⟨g, o, e1, h1⟩ := h i x hx
  exact ⟨g, o, e1, by rw [hb.cell (p := ⟨g, _, none⟩) (World.block_lt_of_cell? w _ h1)]; exact h1⟩
set_option maxRecDepth 1000000 in
set_option maxHeartbeats 8000000 in
theorem rbytes_any (u v : Value) (xs ys : List UInt8) (w : World) (hu : BM w u xs) (hv : BM w v ys) (hl : xs.length ≤ 281474976710656) : Calls Tryz.prog 11 #[u, v] w fun e w' => e = .returned (.bool (decide (xs = ys))) ∧ Bw w w' := by
  have HUB : Hid (BM w u xs) := hu
  have HVB : Hid (BM w v ys) := hv
  obtain ⟨p, c, rfl, -⟩ := hu
  obtain ⟨q, d, rfl, -⟩ := hv
  have HU : Hid (∀ wx, Bw w wx → ∀ (i : Nat) (x : UInt8), xs[i]? = some x → ∃ g o, p = some ⟨g, o, none⟩ ∧ wx.cell? ⟨g, o + i, none⟩ = some (.int .u8 (x.toNat : Int))) := fun wx hb i x hx => by
    obtain ⟨p', c', e, h⟩ := HUB.out.next hb
    injection e with e1
    subst e1
    exact h i x hx
  have HV : Hid (∀ wx, Bw w wx → ∀ (i : Nat) (x : UInt8), ys[i]? = some x → ∃ g o, q = some ⟨g, o, none⟩ ∧ wx.cell? ⟨g, o + i, none⟩ = some (.int .u8 (x.toNat : Int))) := fun wx hb i x hx => by
    obtain ⟨p', c', e, h⟩ := HVB.out.next hb
    injection e with e1
    subst e1
    exact h i x hx
  clear HUB HVB
  have hl9 : (xs.length : Int) ≤ 281474976710656 := by omega
  by_cases hne : xs.length = ys.length
  · have HL : Hid (ys.length = xs.length) := hne.symm
    rw [← hne]
    clear hne
    obtain ⟨R, hR⟩ : ∃ R, decide (xs = ys) = R := ⟨_, rfl⟩
    have HR : Hid (decide (xs = ys) = R) := hR
    rw [hR]
    clear hR
    obtain ⟨n, hn⟩ : ∃ n, xs.length = n := ⟨_, rfl⟩
    have HN : Hid (xs.length = n) := hn
    rw [hn] at hl9 HL ⊢
    clear hn hl
    go_enter Tryz.func11, Tryz.ntmps11
    go_wp2_with fail
    go_loopw [5] (fun s5 wr => ∃ i : Nat, s5 = .int .i64 (i : Int) ∧ i ≤ n ∧ Hid (Bw w wr) ∧ Hid (xs.take i = ys.take i)) (fun s5 _ => n - (intOf s5).toNat)
    case atStart => exact ⟨0, rfl, Nat.zero_le _, Below.refl _ _, by show _ = _; simp⟩
    case round =>
      obtain ⟨i, rfl, hi, HB, HT⟩ := hrel
      by_cases hlt : i < n
      · have hlt' : (i : Int) < (n : Int) := by omega
        have hi0 : (0 : Int) ≤ (i : Int) := by omega
        obtain ⟨x, hx⟩ : ∃ x, xs[i]? = some x := ⟨_, List.getElem?_eq_getElem (by rw [HN.out]; exact hlt)⟩
        obtain ⟨y, hy⟩ : ∃ y, ys[i]? = some y := ⟨_, List.getElem?_eq_getElem (by rw [HL.out]; exact hlt)⟩
        obtain ⟨g, o, ep, c1⟩ := HU.out wr HB.out i x hx
        obtain ⟨g2, o2, eq, c2⟩ := HV.out wr HB.out i y hy
        have HX : Hid (xs[i]? = some x ∧ ys[i]? = some y) := ⟨hx, hy⟩
        clear hx hy HU HV
        subst ep
        subst eq
        have y1q : ∀ m, (wr.drewN m).cell? ⟨g, o + i, none⟩ = some (.int .u8 (x.toNat : Int)) := fun m => c1
        have y2q : ∀ m, (wr.drewN m).cell? ⟨g2, o2 + i, none⟩ = some (.int .u8 (y.toNat : Int)) := fun m => c2
        clear c1 c2
        by_cases hxy : x = y
        · subst hxy
          have HT2 : Hid (xs.take (i + 1) = ys.take (i + 1)) := by
            show _ = _
            rw [List.take_add_one, List.take_add_one, HX.out.1, HX.out.2, HT.out]
          go_wp2_with fail
          go_quiet (fail)
          go_wp2_with fail
          exact ⟨⟨i + 1, by simp, hlt, HB.out.tr (drawn_bw _ _), HT2⟩, by simp [intOf]; omega⟩
        · have hxn : ((x.toNat : Int) != (y.toNat : Int)) = true := by
            simp only [bne_iff_ne, ne_eq]
            exact fun e => hxy (UInt8.toNat_inj.1 (by omega))
          have HF : Hid (R = false) := by
            show _ = _
            rw [← HR.out]
            exact decide_eq_false fun e => hxy (by
              have h1 := HX.out.1
              rw [e, HX.out.2] at h1
              exact (Option.some.inj h1).symm)
          go_wp2_with fail
          go_quiet (fail)
          go_wp2_with fail
          go_ret
          exact ⟨by rw [HF.out]; rfl, HB.out.tr (drawn_bw _ _)⟩
      · have hlt' : ¬ (i : Int) < (n : Int) := by omega
        obtain rfl : i = n := by omega
        have HF : Hid (R = true) := by
          show _ = _
          rw [← HR.out]
          have h1 := HT.out
          rw [List.take_of_length_le (by rw [HN.out]; exact Nat.le_refl _), List.take_of_length_le (by rw [HL.out]; exact Nat.le_refl _)] at h1
          exact decide_eq_true h1
        go_wp2_with fail
        go_ret
        exact ⟨by rw [HF.out]; rfl, HB.out⟩
  · have hne' : ¬ (xs.length : Int) = (ys.length : Int) := by omega
    have HF : Hid (decide (xs = ys) = false) := decide_eq_false fun e => hne (by rw [e])
    go_enter Tryz.func11, Tryz.ntmps11
    go_wp2_with fail
    go_ret
    exact ⟨by rw [HF.out]; rfl, Below.refl _ _⟩
end Go.Proofs.YtokfijkhflfioaaGreatDoor.fw
