
/- The document's Wants. Conditions: as each theorem says. -/
import Derived.Test.YtjbdpcnebilmbaaGreatDoorRk
import Derived.Test.YtjbdpcnebilmbaaGreatDoorRb
namespace Go.Proofs.YtjbdpcnebilmbaaGreatDoor.so
open Go.RowKit Go.Sort Go.Shelf
set_option maxRecDepth 100000 in
set_option maxHeartbeats 4000000 in
theorem rwants_any (T : Tb) (p : Option Addr) (c : Nat) (p2 : Option Addr) (n c2 : Nat) (f : Nat → Wt) (w : World) (hT : TM w p T) (hW : WM w p2 n f) (hq : T.q ≤ 9223372036854775807) (hn : n ≤ 9223372036854775807) (hL : ∀ i, i < T.q → T.L i ≤ 9223372036854775807) :
    Calls Tryz.prog 4 #[.slice p T.q c, .slice p2 n c2] w fun e w' => (∃ x, e = .returned (.int .i64 x) ∧ WF T n f x) ∧ Bw w w' := by
  have HC : Hid (∀ wx, TM wx p T → Calls Tryz.prog 10 #[.slice p T.q c] wx fun e w' => (∃ x, e = .returned (.int .i64 x) ∧ TF T x) ∧ Bw wx w') := fun wx h => rtable_any T p c wx h hq hL
  have HWD : Hid (Snd T → ∀ x wx, TM wx p T → Calls Tryz.prog 11 #[.slice p T.q c, .int .i64 x] wx fun e w' => RB T x e ∧ w' = wx) := fun hs x wx h => rcolumn_any T p c x wx h hs.few hs.thin
  have HIS : Hid (∀ (x : Vl) (wx : World), Calls Tryz.prog 12 #[V x.k x.n x.s] wx fun e w' => e = .returned (.bool x.ok) ∧ Bw wx w') := ris_any
  have HT : Hid (TM w p T) := hT
  have HW : Hid (WM w p2 n f) := hW
  clear hT hW hL
  obtain ⟨q, eq⟩ : ∃ q, T.q = q := ⟨_, rfl⟩
  rw [eq] at HC HWD hq ⊢
  clear eq
  go_enter Tryz.func4, Tryz.ntmps4
  have HWW := HC.out w HT.out
  go_wp2_with fail
  refine HWW.mono ?_
  clear HC HWW
  rintro e w1 ⟨⟨x, rfl, hx⟩, hb⟩
  have HX : Hid (TF T x) := hx
  have HB : Hid (Bw w w1) := hb
  clear hx hb
  by_cases hx0 : x = 0
  · subst hx0
    by_cases h12 : 12 < (n : Int)
    · go_wp2_with fail
      go_ret
      exact ⟨⟨4, rfl, .inr ⟨HX.out, .inl ⟨rfl, by omega⟩⟩⟩, HB.out⟩
    have hn12 : n ≤ 12 := by omega
    go_wp2_with fail
    go_loopw [6] (fun i wr => ∃ j : Nat, i = .int .i64 j ∧ j ≤ n ∧ Hid (Bw w wr) ∧ Hid (∀ i, i < j → wOk T (f i))) (fun i _ => n - (intOf i).toNat)
    case atStart => exact ⟨0, rfl, Nat.zero_le _, HB, fun i hi => absurd hi (Nat.not_lt_zero _)⟩
    case round =>
      clear HB
      obtain ⟨j, rfl, hj, HB, HD⟩ := hrel
      by_cases hlt : j < n
      · have hlt' : (j : Int) < (n : Int) := by omega
        have hj0 : (0 : Int) ≤ (j : Int) := by omega
        have HWM : Hid (∃ g o, p2 = some ⟨g, o, none⟩ ∧ ∀ wx, Bw w wx → wx.cell? ⟨g, o + j * 5, none⟩ = some (.int .i64 (f j).c) ∧ wx.cell? ⟨g, o + j * 5 + 1, none⟩ = some (.int .i64 (f j).o) ∧ wx.cell? ⟨g, o + j * 5 + 2, none⟩ = some (.int .i64 (f j).v.k) ∧ wx.cell? ⟨g, o + j * 5 + 2 + 1, none⟩ = some (.int .i64 (f j).v.n) ∧ wx.cell? ⟨g, o + j * 5 + 2 + 2, none⟩ = some (.string (f j).v.s)) := by
          rcases HW.out with h | ⟨g, o, e1, hg, h3⟩
          · omega
          refine ⟨g, o, e1, fun wx hb => ?_⟩
          obtain ⟨a0, a1, a2, a3, a4⟩ := h3 j hlt
          exact ⟨(hb.cell (p := ⟨g, _, none⟩) hg).trans a0, (hb.cell (p := ⟨g, _, none⟩) hg).trans a1, (hb.cell (p := ⟨g, _, none⟩) hg).trans a2, (hb.cell (p := ⟨g, _, none⟩) hg).trans a3, (hb.cell (p := ⟨g, _, none⟩) hg).trans a4⟩
        obtain ⟨g, o, rfl, sof⟩ := HWM.out
        have HSOF : Hid (∀ wx, Bw w wx → wx.cell? ⟨g, o + j * 5, none⟩ = some (.int .i64 (f j).c) ∧ wx.cell? ⟨g, o + j * 5 + 1, none⟩ = some (.int .i64 (f j).o) ∧ wx.cell? ⟨g, o + j * 5 + 2, none⟩ = some (.int .i64 (f j).v.k) ∧ wx.cell? ⟨g, o + j * 5 + 2 + 1, none⟩ = some (.int .i64 (f j).v.n) ∧ wx.cell? ⟨g, o + j * 5 + 2 + 2, none⟩ = some (.string (f j).v.s)) := sof
        clear sof HWM
        obtain ⟨y0, -, -, -, -⟩ := HSOF.out wr HB.out
        have HWX := HWD.out HX.out.zero (f j).c wr (HT.out.next HB.out)
        have HXX := HIS.out (f j).v
        have HOK : Hid (∀ b : Bool, (b = true ↔ colOk T (f j).c) → (wOk T (f j) ↔ (b = true ∧ (f j).v.ok = true ∧ 1 ≤ (f j).o ∧ (f j).o ≤ 6))) := fun b hb => by unfold wOk; rw [hb]
        obtain ⟨B2, hB2⟩ : ∃ B2, (f j).v.ok = B2 := ⟨_, rfl⟩
        rw [hB2] at HXX HOK
        clear hB2
        generalize hcc : (f j).c = cc at *
        clear hcc
        generalize (f j).o = oo at *
        generalize (f j).v.k = vk at *
        generalize (f j).v.n = vn at *
        generalize (f j).v.s = vs at *
        go_wp2_with fail
        refine HWX.mono ?_
        clear HWX
        rintro e w2 ⟨⟨b, rfl, hb⟩, rfl⟩
        have HBB : Hid (wOk T (f j) ↔ (b = true ∧ B2 = true ∧ 1 ≤ oo ∧ oo ≤ 6)) := HOK.out b hb
        clear hb HOK y0
        obtain ⟨-, -, y2, y3, y4⟩ := HSOF.out w2 HB.out
        go_wp2_with fail
        refine (HXX _).mono ?_
        clear HXX y2 y3 y4
        rintro e w3 ⟨rfl, hb3⟩
        have HB3 : Hid (Bw w w3) := HB.out.tr hb3
        clear hb3 HB
        obtain ⟨-, y1, -, -, -⟩ := HSOF.out w3 HB3.out
        by_cases hall : b = true ∧ B2 = true ∧ 1 ≤ oo ∧ oo ≤ 6
        · have HYES : Hid (wOk T (f j)) := HBB.out.2 hall
          obtain ⟨rfl, rfl, h1, h6⟩ := hall
          have h1' : ¬ oo < 1 := by omega
          have h6' : ¬ oo > 6 := by omega
          have h6'' : ¬ 6 < oo := by omega
          have d1 : decide (oo < 1) = false := decide_eq_false h1'
          have d6 : decide (oo > 6) = false := decide_eq_false h6'
          go_wp2_with fail
          exact ⟨⟨j + 1, by simp, hlt, HB3, fun i hi => by
            by_cases e : i = j
            · subst e; exact HYES.out
            · exact HD.out i (by omega)⟩, by simp [intOf]; omega⟩
        · have HNO : Hid (¬ wOk T (f j)) := fun h => hall (HBB.out.1 h)
          cases b with
          | false =>
            go_wp2_with fail
            go_ret
            exact ⟨⟨1, rfl, .inr ⟨HX.out, .inr (.inl ⟨rfl, hn12, j, hlt, HNO.out⟩)⟩⟩, HB3.out⟩
          | true =>
            cases B2 with
            | false =>
              go_wp2_with fail
              go_ret
              exact ⟨⟨1, rfl, .inr ⟨HX.out, .inr (.inl ⟨rfl, hn12, j, hlt, HNO.out⟩)⟩⟩, HB3.out⟩
            | true =>
              by_cases h1 : oo < 1
              · have d1 : decide (oo < 1) = true := decide_eq_true h1
                go_wp2_with fail
                go_ret
                exact ⟨⟨1, rfl, .inr ⟨HX.out, .inr (.inl ⟨rfl, hn12, j, hlt, HNO.out⟩)⟩⟩, HB3.out⟩
              · have d1 : decide (oo < 1) = false := decide_eq_false h1
                have h6 : oo > 6 := by
                  rcases Int.lt_or_le 6 oo with h | h
                  · exact h
                  · exact absurd ⟨rfl, rfl, by omega, h⟩ hall
                have d6 : decide (oo > 6) = true := decide_eq_true h6
                clear hall
                go_wp2_with fail
                go_ret
                exact ⟨⟨1, rfl, .inr ⟨HX.out, .inr (.inl ⟨rfl, hn12, j, hlt, HNO.out⟩)⟩⟩, HB3.out⟩
      · have hj2 : ¬ (j : Int) < (n : Int) := by omega
        go_wp2_with fail
        go_ret
        exact ⟨⟨0, rfl, .inr ⟨HX.out, .inr (.inr ⟨rfl, hn12, fun i hi => HD.out i (by omega)⟩)⟩⟩, HB.out⟩
  · go_wp2_with fail
    go_ret
    exact ⟨⟨x, rfl, .inl ⟨hx0, HX.out⟩⟩, HB.out⟩
end Go.Proofs.YtjbdpcnebilmbaaGreatDoor.so
