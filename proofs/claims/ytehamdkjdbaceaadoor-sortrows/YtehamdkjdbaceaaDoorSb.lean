
/- Package sort: what is wrong with a table, and with columns of it. Conditions: as each theorem says. -/
import Derived.Test.YtehamdkjdbaceaaDoorSa
namespace Go.Proofs.YtehamdkjdbaceaaDoor.so
open Go.RowKit Go.Sort
/-- All that stood stands. -/
abbrev Bw (w w' : World) : Prop := Below w.heap.size w w'
theorem Bw.al (w : World) (o : Obj) : Bw w (w.alloc o) := (Below.refl _ _).alloc (Nat.le_refl _) _
theorem Bw.tr {a b c : World} (h : Bw a b) (h2 : Bw b c) : Bw a c := bnext h h2 h.size
theorem vcheck_any (x : Vl) (w : World) : Calls Tryd.prog 31 #[V x.k x.n x.s] w fun e w' => e = .returned (errV (if x.ok = true then 0 else 1)) ∧ Bw w w' := by
  cases h : x.ok with
  | true => rw [if_pos rfl]; exact check_yes _ _ _ _ h
  | false => rw [if_neg (by simp)]; exact check_no _ _ _ _ h
set_option maxRecDepth 100000 in
set_option maxHeartbeats 4000000 in
theorem checkValues_any (T : Tb) (p : Option Addr) (c : Nat) (w : World) (hT : TM w p T) (hq : T.q ≤ 60) (hL : ∀ i, i < T.q → T.L i ≤ 12) :
    Calls Tryd.prog 17 #[.slice p T.q c] w fun e w' => (∃ x, e = .returned (errV x) ∧ ((x = 0 ∧ ∀ i, i < T.q → ∀ j, j < T.L i → (T.v i j).ok = true) ∨ (x = 1 ∧ ∃ i, i < T.q ∧ ∃ j, j < T.L i ∧ (T.v i j).ok = false))) ∧ Bw w w' := by
  obtain ⟨q, P, L, C, v⟩ := T
  simp only at hq hL ⊢
  have HT : Hid (TM w p ⟨q, P, L, C, v⟩) := hT
  have HL : Hid (∀ i, i < q → L i ≤ 12) := hL
  clear hT hL
  have HC : Hid (∀ (x : Vl) (wx : World), Calls Tryd.prog 31 #[V x.k x.n x.s] wx fun e w' => e = .returned (errV (if x.ok = true then 0 else 1)) ∧ Bw wx w') := vcheck_any
  go_enter Tryd.func17, Tryd.ntmps17
  go_wp2_with fail
  go_loopw [10] (fun i wr => ∃ j : Nat, i = .int .i64 j ∧ j ≤ q ∧ Hid (Bw w wr) ∧ Hid (∀ i, i < j → ∀ t, t < L i → (v i t).ok = true)) (fun i _ => q - (intOf i).toNat)
  case atStart => exact ⟨0, rfl, Nat.zero_le _, Below.refl _ _, fun i hi => absurd hi (Nat.not_lt_zero _)⟩
  case round =>
    obtain ⟨j, rfl, hj, HB, HD⟩ := hrel
    by_cases hlt : j < q
    · have hlt' : (j : Int) < (q : Int) := by omega
      have hj0 : (0 : Int) ≤ (j : Int) := by omega
      rcases HT.out.next HB.out with h | ⟨g, o, rfl, hg, h3⟩
      · simp only at h; omega
      obtain ⟨y0, hvm⟩ := h3 j hlt
      simp only at y0 hvm
      have HV : Hid (VM wr (P j) (L j) (v j)) := hvm
      have hl12 := HL.out j hlt
      clear h3 hg hvm
      generalize P j = pj at *
      obtain ⟨lj, hlj⟩ : ∃ lj, L j = lj := ⟨_, rfl⟩
      have HLJ : Hid (L j = lj) := hlj
      rw [hlj] at y0 HV hl12
      generalize C j = cj at *
      clear hlj
      go_wp2_with fail
      generalize wr = wo at *
      go_loopw [16] (fun i wz => ∃ t : Nat, i = .int .i64 t ∧ t ≤ lj ∧ Hid (Bw wo wz) ∧ Hid (∀ i, i < t → (v j i).ok = true)) (fun i _ => lj - (intOf i).toNat)
      case atStart => exact ⟨0, rfl, Nat.zero_le _, Below.refl _ _, fun i hi => absurd hi (Nat.not_lt_zero _)⟩
      case round =>
        obtain ⟨t, rfl, ht, HZ, HE⟩ := hrel
        by_cases hlt2 : t < lj
        · have hlt2' : (t : Int) < (lj : Int) := by omega
          have ht0 : (0 : Int) ≤ (t : Int) := by omega
          rcases HV.out.next HZ.out with h | ⟨g2, o2, rfl, hg, h3⟩
          · omega
          obtain ⟨z0, z1, z2⟩ := h3 t hlt2
          clear h3 hg
          have HW := HC.out (v j t)
          cases hb : (v j t).ok with
          | true =>
            have HX : Hid ((v j t).ok = true) := hb
            rw [hb, if_pos rfl, errV_0] at HW
            clear hb
            generalize (v j t).k = kk at *
            generalize (v j t).n = nn at *
            generalize (v j t).s = ss at *
            go_wp2_with fail
            refine (HW _).mono ?_
            clear z0 z1 z2
            rintro e w1 ⟨rfl, hb1⟩
            have HB1 : Hid (Bw wo w1) := HZ.out.tr ((Bw.al _ _).tr hb1)
            clear hb1 HZ HW
            go_wp2_with fail
            exact ⟨⟨t + 1, by simp, hlt2, HB1, fun i hi => by
              by_cases e : i = t
              · subst e; exact HX.out
              · exact HE.out i (by omega)⟩, by simp [intOf]; omega⟩
          | false =>
            have HX : Hid ((v j t).ok = false) := hb
            rw [hb, if_neg (by simp), errV_of (by decide)] at HW
            clear hb
            generalize (v j t).k = kk at *
            generalize (v j t).n = nn at *
            generalize (v j t).s = ss at *
            go_wp2_with fail
            refine (HW _).mono ?_
            clear z0 z1 z2
            rintro e w1 ⟨rfl, hb1⟩
            have HB1 : Hid (Bw wo w1) := HZ.out.tr ((Bw.al _ _).tr hb1)
            clear hb1 HZ HW
            go_wp2_with fail
            go_ret
            exact ⟨⟨1, rfl, .inr ⟨rfl, j, hlt, t, by rw [HLJ.out]; exact hlt2, HX.out⟩⟩, HB.out.tr HB1.out⟩
        · have ht2 : ¬ (t : Int) < (lj : Int) := by omega
          go_wp2_with fail
          exact ⟨⟨j + 1, by simp, hlt, HB.out.tr HZ.out, fun i hi u hu => by
            by_cases e : i = j
            · subst e; rw [HLJ.out] at hu; exact HE.out u (by omega)
            · exact HD.out i (by omega) u hu⟩, by simp [intOf]; omega⟩
    · have hj2 : ¬ (j : Int) < (q : Int) := by omega
      go_wp2_with fail
      go_ret
      exact ⟨⟨0, rfl, .inl ⟨rfl, fun i hi => HD.out i (by omega)⟩⟩, HB.out⟩
set_option maxRecDepth 100000 in
set_option maxHeartbeats 4000000 in
theorem check_any (T : Tb) (p : Option Addr) (c : Nat) (w : World) (hT : TM w p T) (hq : T.q ≤ 9223372036854775807) (hL : ∀ i, i < T.q → T.L i ≤ 9223372036854775807) :
    Calls Tryd.prog 6 #[.slice p T.q c] w fun e w' => (∃ x, e = .returned (errV x) ∧ TF T x) ∧ Bw w w' := by
  have HV : Hid (T.q ≤ 60 → (∀ i, i < T.q → T.L i ≤ 12) → ∀ wx, TM wx p T → Calls Tryd.prog 17 #[.slice p T.q c] wx fun e w' => (∃ x, e = .returned (errV x) ∧ ((x = 0 ∧ ∀ i, i < T.q → ∀ j, j < T.L i → (T.v i j).ok = true) ∨ (x = 1 ∧ ∃ i, i < T.q ∧ ∃ j, j < T.L i ∧ (T.v i j).ok = false))) ∧ Bw wx w') := fun h1 h2 wx h3 => checkValues_any T p c wx h3 h1 h2
  obtain ⟨q, P, L, C, v⟩ := T
  simp only at hq hL HV ⊢
  have HT : Hid (TM w p ⟨q, P, L, C, v⟩) := hT
  have HL : Hid (∀ i, i < q → L i ≤ 9223372036854775807) := hL
  clear hT hL
  by_cases h60 : 60 < (q : Int)
  · go_enter Tryd.func6, Tryd.ntmps6
    go_wp2_with fail
    go_ret
    exact ⟨⟨4, rfl, .inl ⟨rfl, by show 60 < q; omega⟩⟩, Below.refl _ _⟩
  have hq60 : q ≤ 60 := by omega
  go_enter Tryd.func6, Tryd.ntmps6
  go_wp2_with fail
  go_loopw [13] (fun i wr => ∃ j : Nat, i = .int .i64 j ∧ j ≤ q ∧ w = wr ∧ Hid (∀ i, i < j → L i ≤ 12)) (fun i _ => q - (intOf i).toNat)
  case atStart => exact ⟨0, rfl, Nat.zero_le _, rfl, fun i hi => absurd hi (Nat.not_lt_zero _)⟩
  case round =>
    obtain ⟨j, rfl, hj, rfl, HD⟩ := hrel
    by_cases hlt : j < q
    · have hlt' : (j : Int) < (q : Int) := by omega
      have hj0 : (0 : Int) ≤ (j : Int) := by omega
      rcases HT.out with h | ⟨g, o, rfl, hg, h3⟩
      · simp only at h; omega
      obtain ⟨y0, -⟩ := h3 j hlt
      simp only at y0
      have hlm := HL.out j hlt
      clear h3 hg
      by_cases h12 : 12 < (L j : Int)
      · go_wp2_with fail
        go_ret
        exact ⟨⟨4, rfl, .inr (.inl ⟨rfl, hq60, j, hlt, by show 12 < L j; omega⟩)⟩, Below.refl _ _⟩
      · go_wp2_with fail
        exact ⟨⟨j + 1, by simp, hlt, trivial, fun i hi => by
          by_cases e : i = j
          · subst e; omega
          · exact HD.out i (by omega)⟩, by simp [intOf]; omega⟩
    have hj2 : ¬ (j : Int) < (q : Int) := by omega
    have ej : j = q := by omega
    subst ej
    go_wp2_with fail
    go_loopw [24] (fun i wr => ∃ t : Nat, i = .int .i64 t ∧ t ≤ j ∧ w = wr ∧ Hid (∀ i, i < t → L i = L 0)) (fun i _ => j - (intOf i).toNat)
    case atStart => exact ⟨0, rfl, Nat.zero_le _, rfl, fun i hi => absurd hi (Nat.not_lt_zero _)⟩
    case round =>
      obtain ⟨t, rfl, ht, rfl, HE⟩ := hrel
      by_cases hlt : t < j
      · have hlt' : (t : Int) < (j : Int) := by omega
        have ht0 : (0 : Int) ≤ (t : Int) := by omega
        rcases HT.out with h | ⟨g, o, rfl, hg, h3⟩
        · simp only at h; omega
        obtain ⟨y0, -⟩ := h3 t hlt
        obtain ⟨z0, -⟩ := h3 0 (by show 0 < j; omega)
        simp only [Nat.add_zero] at y0 z0
        have hj0 : (0 : Int) < (j : Int) := by omega
        clear h3 hg
        by_cases hne : L t = L 0
        · have hne' : ((L t : Int) != (L 0 : Int)) = false := by simp; omega
          have HN : Hid (L t = L 0) := hne
          clear hne
          go_wp2_with fail
          exact ⟨⟨t + 1, by simp, hlt, trivial, fun i hi => by
            by_cases e : i = t
            · subst e; exact HN.out
            · exact HE.out i (by omega)⟩, by simp [intOf]; omega⟩
        · have hne' : ((L t : Int) != (L 0 : Int)) = true := by simp; omega
          have HN : Hid (L t ≠ L 0) := hne
          clear hne
          go_wp2_with fail
          go_ret
          exact ⟨⟨3, rfl, .inr (.inr (.inl ⟨rfl, hq60, HD.out, t, hlt, HN.out⟩))⟩, Below.refl _ _⟩
      have hj2 : ¬ (t : Int) < (j : Int) := by omega
      have ej : t = j := by omega
      subst ej
      have HW := HV.out hq60 HD.out w HT.out
      go_wp2_with fail
      refine HW.mono ?_
      rintro e w1 ⟨⟨x, rfl, hx⟩, hb⟩
      have HX : Hid (((x = 0 ∧ ∀ i, i < t → ∀ j, j < L i → (v i j).ok = true) ∨ (x = 1 ∧ ∃ i, i < t ∧ ∃ j, j < L i ∧ (v i j).ok = false)) ∧ Bw w w1) := ⟨hx, hb⟩
      clear hx hb HW
      obtain ⟨ev, hev⟩ : ∃ ev, errV x = ev := ⟨_, rfl⟩
      have HEV : Hid (ev = errV x) := hev.symm
      rw [hev]
      clear hev
      go_wp2_with fail
      go_ret
      refine ⟨⟨x, by rw [← HEV.out]; rfl, ?_⟩, HX.out.2⟩
      rcases HX.out.1 with ⟨h1, h2⟩ | ⟨h1, h2⟩
      · exact .inr (.inr (.inr (.inr ⟨h1, hq60, HD.out, HE.out, h2⟩)))
      · exact .inr (.inr (.inr (.inl ⟨h1, hq60, HD.out, HE.out, h2⟩)))
/-- Has a table a column? -/
def hasC (T : Tb) (x : Int) : Bool := decide (0 ≤ x) && decide (x < (wid T : Int))
theorem hasC_true {T : Tb} {x : Int} : hasC T x = true ↔ colOk T x := by unfold hasC colOk; simp
theorem hasC_false {T : Tb} {x : Int} : hasC T x = false ↔ ¬ colOk T x := by rw [← hasC_true]; simp
set_option maxRecDepth 100000 in
theorem hasColumn_any (T : Tb) (p : Option Addr) (c : Nat) (x : Int) (w : World) (hT : TM w p T) (hq : T.q ≤ 60) (hL : ∀ i, i < T.q → T.L i ≤ 12) :
    Calls Tryd.prog 34 #[.slice p T.q c, .int .i64 x] w fun e w' => e = .returned (.bool (hasC T x)) ∧ w' = w := by
  obtain ⟨q, P, L, C, v⟩ := T
  simp only at hq hL ⊢
  obtain ⟨wd, hwd⟩ : ∃ wd, wid ⟨q, P, L, C, v⟩ = wd := ⟨_, rfl⟩
  unfold hasC
  rw [hwd]
  unfold wid at hwd
  simp only at hwd
  by_cases h0 : q = 0
  · subst h0
    rw [if_pos rfl] at hwd
    subst hwd
    clear hT hL
    by_cases hx0 : 0 ≤ x
    · have hd0 : decide (0 ≤ x) = true := by simp; exact hx0
      go_enter Tryd.func34, Tryd.ntmps34
      go_wp2_with fail
      go_ret
      exact ⟨by simp [hx0], rfl⟩
    · have hd0 : decide (0 ≤ x) = false := by simp; omega
      go_enter Tryd.func34, Tryd.ntmps34
      go_wp2_with fail
      go_ret
      exact ⟨by simp, rfl⟩
  · rw [if_neg h0] at hwd
    rcases hT with h | ⟨g, o, rfl, hg, h3⟩
    · exact absurd h h0
    obtain ⟨y0, -⟩ := h3 0 (by show 0 < q; omega)
    have hl := hL 0 (by omega)
    have hq1 : (0 : Int) < (q : Int) := by omega
    have hqd : decide ((q : Int) > 0) = true := by simp; omega
    simp only [Nat.add_zero] at y0
    rw [hwd] at y0 hl
    clear h3 hg hL h0 hwd
    by_cases hx0 : 0 ≤ x
    · have hd0 : decide (0 ≤ x) = true := by simp; exact hx0
      go_enter Tryd.func34, Tryd.ntmps34
      go_wp2_with fail
      go_ret
      exact ⟨by simp [hx0], rfl⟩
    · have hd0 : decide (0 ≤ x) = false := by simp; omega
      go_enter Tryd.func34, Tryd.ntmps34
      go_wp2_with fail
      go_ret
      exact ⟨by simp, rfl⟩
set_option maxRecDepth 100000 in
set_option maxHeartbeats 4000000 in
theorem checkWith_any (T : Tb) (p : Option Addr) (c : Nat) (p2 : Option Addr) (n c2 : Nat) (d : Nat → Int) (w : World) (hT : TM w p T) (hI : IM w p2 n d) (hq : T.q ≤ 9223372036854775807) (hn : n ≤ 9223372036854775807) (hL : ∀ i, i < T.q → T.L i ≤ 9223372036854775807) :
    Calls Tryd.prog 21 #[.slice p T.q c, .slice p2 n c2] w fun e w' => (∃ x, e = .returned (errV x) ∧ CF T n d x) ∧ Bw w w' := by
  have HC : Hid (∀ wx, TM wx p T → Calls Tryd.prog 6 #[.slice p T.q c] wx fun e w' => (∃ x, e = .returned (errV x) ∧ TF T x) ∧ Bw wx w') := fun wx h => check_any T p c wx h hq hL
  have HWD : Hid (Snd T → ∀ y wx, TM wx p T → Calls Tryd.prog 34 #[.slice p T.q c, .int .i64 y] wx fun e w' => e = .returned (.bool (hasC T y)) ∧ w' = wx) := fun hs y wx h => hasColumn_any T p c y wx h hs.few hs.thin
  have HT : Hid (TM w p T) := hT
  have HI : Hid (IM w p2 n d) := hI
  clear hT hI hL
  obtain ⟨q, eq⟩ : ∃ q, T.q = q := ⟨_, rfl⟩
  rw [eq] at HC HWD hq ⊢
  clear eq
  go_enter Tryd.func21, Tryd.ntmps21
  have HW := HC.out w HT.out
  go_wp2_with fail
  refine HW.mono ?_
  clear HC HW
  rintro e w1 ⟨⟨x, rfl, hx⟩, hb⟩
  have HX : Hid (TF T x) := hx
  have HB : Hid (Bw w w1) := hb
  clear hx hb
  by_cases hx0 : x = 0
  · subst hx0
    rw [errV_0]
    by_cases h12 : 12 < (n : Int)
    · go_wp2_with fail
      go_ret
      exact ⟨⟨4, rfl, .inr ⟨HX.out, .inl ⟨rfl, by omega⟩⟩⟩, HB.out⟩
    have hn12 : n ≤ 12 := by omega
    have HWX : Hid (∀ y, Calls Tryd.prog 34 #[.slice p q c, .int .i64 y] w1 fun e w' => e = .returned (.bool (hasC T y)) ∧ w' = w1) := fun y => HWD.out HX.out.zero y w1 (HT.out.next HB.out)
    clear HWD
    go_wp2_with fail
    go_loopw [19] (fun i wr => ∃ j : Nat, i = .int .i64 j ∧ j ≤ n ∧ w1 = wr ∧ Hid (∀ i, i < j → colOk T (d i))) (fun i _ => n - (intOf i).toNat)
    case atStart => exact ⟨0, rfl, Nat.zero_le _, rfl, fun i hi => absurd hi (Nat.not_lt_zero _)⟩
    case round =>
      obtain ⟨j, rfl, hj, rfl, HD⟩ := hrel
      by_cases hlt : j < n
      · have hlt' : (j : Int) < (n : Int) := by omega
        have hj0 : (0 : Int) ≤ (j : Int) := by omega
        rcases HI.out.next HB.out with h | ⟨g, o, rfl, hg, h3⟩
        · omega
        have y0 := h3 j hlt
        clear h3 hg
        obtain ⟨x, hx⟩ : ∃ x, d j = x := ⟨_, rfl⟩
        have HXJ : Hid (d j = x) := hx
        rw [hx] at y0
        clear hx
        have HY := HWX.out x
        cases hb : hasC T x with
        | false =>
          have HBD : Hid (¬ colOk T (d j)) := by show ¬ colOk T (d j); rw [HXJ.out]; exact hasC_false.1 hb
          rw [hb] at HY
          clear hb
          go_wp2_with fail
          refine HY.mono ?_
          rintro e w2 ⟨rfl, rfl⟩
          clear HY
          go_wp2_with fail
          go_ret
          exact ⟨⟨1, rfl, .inr ⟨HX.out, .inr (.inl ⟨rfl, hn12, j, hlt, HBD.out⟩)⟩⟩, HB.out⟩
        | true =>
          have HBD : Hid (colOk T (d j)) := by show colOk T (d j); rw [HXJ.out]; exact hasC_true.1 hb
          rw [hb] at HY
          clear hb
          go_wp2_with fail
          refine HY.mono ?_
          rintro e w2 ⟨rfl, rfl⟩
          clear HY
          go_wp2_with fail
          exact ⟨⟨j + 1, by simp, hlt, trivial, fun i hi => by
            by_cases e : i = j
            · subst e; exact HBD.out
            · exact HD.out i (by omega)⟩, by simp [intOf]; omega⟩
      · have hj2 : ¬ (j : Int) < (n : Int) := by omega
        go_wp2_with fail
        go_ret
        exact ⟨⟨0, rfl, .inr ⟨HX.out, .inr (.inr ⟨rfl, hn12, fun i hi => HD.out i (by omega)⟩)⟩⟩, HB.out⟩
  · rw [errV_of hx0]
    go_wp2_with fail
    go_ret
    exact ⟨⟨x, by rw [errV_of hx0]; rfl, .inl ⟨hx0, HX.out⟩⟩, HB.out⟩
end Go.Proofs.YtehamdkjdbaceaaDoor.so
