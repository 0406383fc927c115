
/- The document's tables and columns: their faults, rows that are alike, rows that are like none ahead. Conditions: as each theorem says. -/
import Derived.Test.YtehamdkjdbaceaaDoorRv
import Derived.Test.YtehamdkjdbaceaaDoorSf
import Derived.BigQuiet
namespace Go.Proofs.YtehamdkjdbaceaaDoor.so
open Go.RowKit Go.Sort Go.Shelf
theorem Bw.drewN (w : World) (m : Nat) : Bw w (w.drewN m) := Gr.below ⟨m, #[], by rw [grow_empty]⟩
theorem ris_any (x : Vl) (w : World) : Calls Tryd.prog 16 #[V x.k x.n x.s] w fun e w' => e = .returned (.bool x.ok) ∧ Bw w w' := is_any _ _ _ _
set_option maxRecDepth 100000 in
set_option maxHeartbeats 4000000 in
theorem rtable_any (T : Tb) (p : Option Addr) (c : Nat) (w : World) (hT : TM w p T) (hq : T.q ≤ 9223372036854775807) (hL : ∀ i, i < T.q → T.L i ≤ 9223372036854775807) :
    Calls Tryd.prog 5 #[.slice p T.q c] w fun e w' => (∃ x, e = .returned (.int .i64 x) ∧ TF T x) ∧ Bw w w' := by
  have HC : Hid (∀ (x : Vl) (wx : World), Calls Tryd.prog 16 #[V x.k x.n x.s] wx fun e w' => e = .returned (.bool x.ok) ∧ Bw wx w') := ris_any
  obtain ⟨q, P, L, C, v⟩ := T
  simp only at hq hL ⊢
  have HT : Hid (TM w p ⟨q, P, L, C, v⟩) := hT
  have HL : Hid (∀ i, i < q → L i ≤ 9223372036854775807) := hL
  clear hT hL
  by_cases h60 : 60 < (q : Int)
  · go_enter Tryd.func5, Tryd.ntmps5
    go_wp2_with fail
    go_ret
    exact ⟨⟨4, rfl, .inl ⟨rfl, by show 60 < q; omega⟩⟩, Below.refl _ _⟩
  have hq60 : q ≤ 60 := by omega
  go_enter Tryd.func5, Tryd.ntmps5
  go_wp2_with fail
  go_loopw [3] (fun i wr => ∃ j : Nat, i = .int .i64 j ∧ j ≤ q ∧ w = wr ∧ Hid (∀ i, i < j → L i ≤ 12)) (fun i _ => q - (intOf i).toNat)
  case atStart => exact ⟨0, rfl, Nat.zero_le _, rfl, fun i hi => absurd hi (Nat.not_lt_zero _)⟩
  case round =>
    obtain ⟨j, rfl, hj, rfl, HD⟩ := hrel
    by_cases hlt : j < q
    · have hlt' : (j : Int) < (q : Int) := by omega
      have hj0 : (0 : Int) ≤ (j : Int) := by omega
      rcases HT.out with h | ⟨g, o, rfl, hg, h3⟩
      · simp only at h; omega
      obtain ⟨y0, -⟩ := h3 j hlt
      simp only at y0
      have hlm := HL.out j hlt
      clear h3 hg
      by_cases h12 : 12 < (L j : Int)
      · go_wp2_with fail
        go_ret
        exact ⟨⟨4, rfl, .inr (.inl ⟨rfl, hq60, j, hlt, by show 12 < L j; omega⟩)⟩, Below.refl _ _⟩
      · go_wp2_with fail
        exact ⟨⟨j + 1, by simp, hlt, trivial, fun i hi => by
          by_cases e : i = j
          · subst e; omega
          · exact HD.out i (by omega)⟩, by simp [intOf]; omega⟩
    have hj2 : ¬ (j : Int) < (q : Int) := by omega
    have ej : j = q := by omega
    subst ej
    go_wp2_with fail
    have mixed := mixed
    go_loopw [4] (fun i wr => ∃ t : Nat, i = .int .i64 t ∧ t ≤ j ∧ Hid (Bw w wr) ∧ Hid (∀ i, i < t → L i = L 0)) (fun i _ => j - (intOf i).toNat)
    case atStart => exact ⟨0, rfl, Nat.zero_le _, Below.refl _ _, fun i hi => absurd hi (Nat.not_lt_zero _)⟩
    case round =>
      obtain ⟨t, rfl, ht, HBT, HE⟩ := hrel
      by_cases hlt : t < j
      · have hlt' : (t : Int) < (j : Int) := by omega
        have ht0 : (0 : Int) ≤ (t : Int) := by omega
        rcases HT.out.next HBT.out with h | ⟨g, o, rfl, hg, h3⟩
        · simp only at h; omega
        obtain ⟨y0, -⟩ := h3 t hlt
        obtain ⟨z0, -⟩ := h3 0 (by show 0 < j; omega)
        simp only [Nat.add_zero] at y0 z0
        have y0q : ∀ m, (wr.drewN m).cell? ⟨g, o + t, none⟩ = some (.slice (P t) (L t) (C t)) := fun m => y0
        have z0q : ∀ m, (wr.drewN m).cell? ⟨g, o, none⟩ = some (.slice (P 0) (L 0) (C 0)) := fun m => z0
        have hj0 : (0 : Int) < (j : Int) := by omega
        clear h3 hg y0 z0
        by_cases hne : L t = L 0
        · have hne' : ((L t : Int) != (L 0 : Int)) = false := by simp; omega
          have HN : Hid (L t = L 0) := hne
          clear hne
          go_wp2_with fail
          go_quiet (fail)
          go_wp2_with fail
          exact ⟨⟨t + 1, by simp, hlt, HBT.out.tr (Bw.drewN _ _), fun i hi => by
            by_cases e : i = t
            · subst e; exact HN.out
            · exact HE.out i (by omega)⟩, by simp [intOf]; omega⟩
        · have hne' : ((L t : Int) != (L 0 : Int)) = true := by simp; omega
          have HN : Hid (L t ≠ L 0) := hne
          clear hne
          go_wp2_with fail
          go_quiet (fail)
          go_wp2_with fail
          go_ret
          exact ⟨⟨3, rfl, .inr (.inr (.inl ⟨rfl, hq60, HD.out, t, hlt, HN.out⟩))⟩, HBT.out.tr (Bw.drewN _ _)⟩
      have hj2 : ¬ (t : Int) < (j : Int) := by omega
      have ej : t = j := by omega
      subst ej
      go_wp2_with fail
      go_loopw [5] (fun i wr => ∃ j : Nat, i = .int .i64 j ∧ j ≤ t ∧ Hid (Bw w wr) ∧ Hid (∀ i, i < j → ∀ u, u < L i → (v i u).ok = true)) (fun i _ => t - (intOf i).toNat)
      case atStart => exact ⟨0, rfl, Nat.zero_le _, HBT, fun i hi => absurd hi (Nat.not_lt_zero _)⟩
      case round =>
        obtain ⟨j, rfl, hj, HB, HO⟩ := hrel
        by_cases hlt : j < t
        · have hlt' : (j : Int) < (t : Int) := by omega
          have hj0 : (0 : Int) ≤ (j : Int) := by omega
          have hl12 := HD.out j hlt
          obtain ⟨lj, hlj⟩ : ∃ lj, L j = lj := ⟨_, rfl⟩
          have HLJ : Hid (L j = lj) := hlj
          rw [hlj] at hl12
          clear hlj
          go_wp2_with fail
          generalize wr = wo at *
          go_loopw [6] (fun i wz => ∃ u : Nat, i = .int .i64 u ∧ u ≤ lj ∧ Hid (Bw wo wz) ∧ Hid (∀ i, i < u → (v j i).ok = true)) (fun i _ => lj - (intOf i).toNat)
          case atStart => exact ⟨0, rfl, Nat.zero_le _, Below.refl _ _, fun i hi => absurd hi (Nat.not_lt_zero _)⟩
          case round =>
            obtain ⟨u, rfl, hu, HZ, HE2⟩ := hrel
            have hu0 : (0 : Int) ≤ (u : Int) := by omega
            rcases HT.out.next (HB.out.tr HZ.out) with h | ⟨g, o, rfl, hg, h3⟩
            · simp only at h; omega
            obtain ⟨y0, hvm⟩ := h3 j hlt
            simp only at y0 hvm
            rw [HLJ.out] at y0 hvm
            have HV : Hid (VM wr (P j) lj (v j)) := hvm
            clear h3 hg hvm
            generalize P j = pj at *
            generalize C j = cj at *
            by_cases hlt2 : u < lj
            · have hlt2' : (u : Int) < (lj : Int) := by omega
              rcases HV.out with h | ⟨g2, o2, rfl, hg, h3⟩
              · omega
              obtain ⟨z0, z1, z2⟩ := h3 u hlt2
              clear h3 hg
              have HW := HC.out (v j u)
              obtain ⟨b, hb⟩ : ∃ b, (v j u).ok = b := ⟨_, rfl⟩
              have HX : Hid ((v j u).ok = b) := hb
              rw [hb] at HW
              clear hb
              generalize (v j u).k = kk at *
              generalize (v j u).n = nn at *
              generalize (v j u).s = ss at *
              go_wp2_with fail
              refine (HW _).mono ?_
              clear z0 z1 z2 y0
              rintro e w1 ⟨rfl, hb1⟩
              have HB1 : Hid (Bw wo w1) := HZ.out.tr hb1
              clear hb1 HZ HW
              cases b with
              | true =>
                go_wp2_with fail
                exact ⟨⟨u + 1, by simp, hlt2, HB1, fun i hi => by
                  by_cases e : i = u
                  · subst e; exact HX.out
                  · exact HE2.out i (by omega)⟩, by simp [intOf]; omega⟩
              | false =>
                go_wp2_with fail
                go_ret
                exact ⟨⟨1, rfl, .inr (.inr (.inr (.inl ⟨rfl, hq60, HD.out, HE.out, j, hlt, u, by show u < L j; rw [HLJ.out]; exact hlt2, HX.out⟩)))⟩, HB.out.tr HB1.out⟩
            · have hu2 : ¬ (u : Int) < (lj : Int) := by omega
              go_wp2_with fail
              exact ⟨⟨j + 1, by simp, hlt, HB.out.tr HZ.out, fun i hi x hx => by
                by_cases e : i = j
                · subst e; rw [HLJ.out] at hx; exact HE2.out x (by omega)
                · exact HO.out i (by omega) x hx⟩, by simp [intOf]; omega⟩
        · have hj2 : ¬ (j : Int) < (t : Int) := by omega
          go_wp2_with fail
          go_ret
          exact ⟨⟨0, rfl, .inr (.inr (.inr (.inr ⟨rfl, hq60, HD.out, HE.out, fun i hi => HO.out i (by show i < j; have : i < t := hi; omega)⟩)))⟩, HB.out⟩
end Go.Proofs.YtehamdkjdbaceaaDoor.so
