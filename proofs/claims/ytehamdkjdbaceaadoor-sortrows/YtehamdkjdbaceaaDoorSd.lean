
/- Package sort: the rows that are like none ahead. Conditions: as each theorem says. -/
import Derived.Test.YtehamdkjdbaceaaDoorSc
import Derived.OwnWalk
import Derived.Deep.AppendLies
namespace Go.Proofs.YtehamdkjdbaceaaDoor.so
open Go.RowKit Go.Sort Go.Shelf
set_option maxRecDepth 100000 in
set_option maxHeartbeats 4000000 in
theorem index_any (p : Option Addr) (m c : Nat) (P : Nat → Option Addr) (L C : Nat → Nat) (v : Nat → Nat → Vl) (f : Nat → Bool) (b2 b3 : Nat) (w : World) (hm : m ≤ 60) (hT : TM w p ⟨m, P, L, C, v⟩) (hf : ∀ j, j < m → ∀ wx, Gr w wx → Calls Tryd.prog 28 #[.slice (P j) (L j) (C j), .pointer (some ⟨b2, 0, none⟩), .pointer (some ⟨b3, 0, none⟩)] wx fun e w' => e = .returned (.bool (f j)) ∧ Gr wx w') :
    Calls Tryd.prog 37 #[.slice p m c, .func (.func 28) #[] #[.pointer (some ⟨b2, 0, none⟩), .pointer (some ⟨b3, 0, none⟩)]] w fun e w' => (∃ x : Int, e = .returned (.int .i64 x) ∧ ((x = -1 ∧ ∀ j, j < m → f j = false) ∨ (∃ j, j < m ∧ x = (j : Nat) ∧ f j = true))) ∧ Gr w w' := by
  have HT : Hid (TM w p ⟨m, P, L, C, v⟩) := hT
  have HF : Hid (∀ j, j < m → ∀ wx, Gr w wx → Calls Tryd.prog 28 #[.slice (P j) (L j) (C j), .pointer (some ⟨b2, 0, none⟩), .pointer (some ⟨b3, 0, none⟩)] wx fun e w' => e = .returned (.bool (f j)) ∧ Gr wx w') := hf
  clear hT hf
  go_enter Tryd.func37, Tryd.ntmps37
  go_wp2_with fail
  go_loopw [8] (fun i wr => ∃ j : Nat, i = .int .i64 j ∧ j ≤ m ∧ Hid (Gr w wr) ∧ Hid (∀ i, i < j → f i = false)) (fun i _ => m - (intOf i).toNat)
  case atStart => exact ⟨0, rfl, Nat.zero_le _, Gr.refl _, fun i hi => absurd hi (Nat.not_lt_zero _)⟩
  case round =>
    obtain ⟨j, rfl, hj, HB, HD⟩ := hrel
    by_cases hlt : j < m
    · have hlt' : (j : Int) < (m : Int) := by omega
      have hj0 : (0 : Int) ≤ (j : Int) := by omega
      rcases HT.out.next HB.out.below with h | ⟨g, o, rfl, hg, h3⟩
      · simp only at h; omega
      obtain ⟨y0, -⟩ := h3 j hlt
      simp only at y0
      clear h3 hg
      have HW := HF.out j hlt wr HB.out
      obtain ⟨pj, hp⟩ : ∃ x, P j = x := ⟨_, rfl⟩
      obtain ⟨lj, hl⟩ : ∃ x, L j = x := ⟨_, rfl⟩
      obtain ⟨cj, hc⟩ : ∃ x, C j = x := ⟨_, rfl⟩
      rw [hp, hl, hc] at y0 HW
      clear hp hl hc
      cases hb : f j with
      | true =>
        have HX : Hid (f j = true) := hb
        rw [hb] at HW
        clear hb
        go_wp2_with fail
        refine HW.mono ?_
        rintro e w1 ⟨rfl, hb1⟩
        have HB1 : Hid (Gr w w1) := HB.out.trans hb1
        clear hb1 HW y0 HB
        go_wp2_with fail
        go_ret
        exact ⟨⟨j, rfl, .inr ⟨j, hlt, rfl, HX.out⟩⟩, HB1.out⟩
      | false =>
        have HX : Hid (f j = false) := hb
        rw [hb] at HW
        clear hb
        go_wp2_with fail
        refine HW.mono ?_
        rintro e w1 ⟨rfl, hb1⟩
        have HB1 : Hid (Gr w w1) := HB.out.trans hb1
        clear hb1 HW y0 HB
        go_wp2_with fail
        exact ⟨⟨j + 1, by simp, hlt, HB1, fun i hi => by
          by_cases e : i = j
          · subst e; exact HX.out
          · exact HD.out i (by omega)⟩, by simp [intOf]; omega⟩
    · have hj2 : ¬ (j : Int) < (m : Int) := by omega
      go_wp2_with fail
      go_ret
      exact ⟨⟨-1, rfl, .inl ⟨rfl, fun i hi => HD.out i (by omega)⟩⟩, HB.out⟩
theorem contains_any (p : Option Addr) (m c : Nat) (P : Nat → Option Addr) (L C : Nat → Nat) (v : Nat → Nat → Vl) (f : Nat → Bool) (b2 b3 : Nat) (w : World) (hm : m ≤ 60) (hT : TM w p ⟨m, P, L, C, v⟩) (hf : ∀ j, j < m → ∀ wx, Gr w wx → Calls Tryd.prog 28 #[.slice (P j) (L j) (C j), .pointer (some ⟨b2, 0, none⟩), .pointer (some ⟨b3, 0, none⟩)] wx fun e w' => e = .returned (.bool (f j)) ∧ Gr wx w') :
    Calls Tryd.prog 30 #[.slice p m c, .func (.func 28) #[] #[.pointer (some ⟨b2, 0, none⟩), .pointer (some ⟨b3, 0, none⟩)]] w fun e w' => (∃ x : Bool, e = .returned (.bool x) ∧ (x = true ↔ ∃ j, j < m ∧ f j = true)) ∧ Gr w w' := by
  have H := index_any p m c P L C v f b2 b3 w hm hT hf
  clear hT hf
  go_enter Tryd.func30, Tryd.ntmps30
  go_wp2_with fail
  refine H.mono ?_
  rintro e w1 ⟨⟨x, rfl, hx⟩, hb⟩
  have HB : Hid (Gr w w1) := hb
  have HX : Hid ((x = -1 ∧ ∀ j, j < m → f j = false) ∨ (∃ j, j < m ∧ x = (j : Nat) ∧ f j = true)) := hx
  clear hb hx H
  go_wp2_with fail
  go_ret
  refine ⟨⟨decide (x ≥ 0), by simp, ?_⟩, HB.out⟩
  rcases HX.out with ⟨h1, h2⟩ | ⟨j, h1, h2, h3⟩
  · constructor
    · intro h; simp at h; omega
    · rintro ⟨j, hj, h⟩; rw [h2 j hj] at h; cases h
  · constructor
    · intro _; exact ⟨j, h1, h3⟩
    · intro _; simp; omega
end Go.Proofs.YtehamdkjdbaceaaDoor.so
