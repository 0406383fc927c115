
/- The document's Sort, walked. Conditions: as each theorem says. -/
import Derived.Test.YtehamdkjdbaceaaDoorRg
import Derived.Deep.CutBlock
namespace Go.Proofs.YtehamdkjdbaceaaDoor.so
open Go.RowKit Go.Sort Go.Shelf
theorem nthN_at2 {Z : List Nat} {i : Nat} (h : i < Z.length) : nthN Z i = ((Z[i] : Nat) : Int) := by
  unfold nthN
  rw [List.getD_eq_getElem?_getD, List.getElem?_map, List.getElem?_eq_getElem h]
  rfl
/-- All from a place on stand behind a row. -/
def Bhd (T : Tb) (n : Nat) (c : Nat → Int) (d : Nat → Bool) (i k : Nat) (Z : List Nat) : Prop := ∀ j (hj : j < Z.length), k ≤ j → crw (T.v i) (T.v Z[j]) c d n 0 < 0
/-- The one ahead of a place does not. -/
def Stp (T : Tb) (n : Nat) (c : Nat → Int) (d : Nat → Bool) (i k : Nat) (Z : List Nat) : Prop := ∀ j (hj : j < Z.length), j + 1 = k → ¬ crw (T.v i) (T.v Z[j]) c d n 0 < 0
set_option maxRecDepth 100000 in
set_option maxHeartbeats 8000000 in
theorem rsort_any (T : Tb) (p : Option Addr) (cp : Nat) (p3 : Option Addr) (n c3 : Nat) (c : Nat → Int) (d : Nat → Bool) (w : World) (hT : TM w p T) (hK : KM w p3 n c d) (hS : Snd T) (hn : n ≤ 12) (hco : ∀ i, i < n → colOk T (c i)) :
    Calls Tryd.prog 10 #[.slice p T.q cp, .slice p3 n c3] w fun e w' => ∃ v, e = .returned v ∧ ∃ Z, StN T n c d Z ∧ IV w v (natI Z) w' := by
  have HA : Hid (∀ i j wx, i < T.q → j < T.q → Bw w wx → Calls Tryd.prog 20 #[.slice (T.P i) (T.L i) (T.C i), .slice (T.P j) (T.L j) (T.C j), .slice p3 n c3] wx fun e w' => e = .returned (.bool (decide (crw (T.v i) (T.v j) c d n 0 < 0))) ∧ Gr wx w') := by
    intro i j wx hi hj hb
    rcases hT.next hb with h | ⟨g, o, -, -, h3⟩
    · omega
    refine rahead_any _ _ _ _ _ _ _ _ _ _ _ _ _ wx (h3 i hi).2 (h3 j hj).2 (hK.next hb) hn (fun u hu => ?_)
    have c1 := hS.col (hco u hu) hi
    have c2 := hS.col (hco u hu) hj
    exact ⟨c1.1, c1.2.1, c2.2.1⟩
  have HT : Hid (TM w p T) := hT
  have hq60 := hS.few
  obtain ⟨q, eq⟩ : ∃ q, T.q = q := ⟨_, rfl⟩
  have HEQ : Hid (T.q = q) := eq
  rw [eq] at HA hq60 ⊢
  clear hT hK hS hco eq
  have mixed := mixed
  go_enter Tryd.func10, Tryd.ntmps10
  go_wp2_with fail
  go_loopw [5, 6] (fun s5 s6 wr => ∃ (i : Nat) (Z : List Nat), s6 = .int .i64 i ∧ i ≤ q ∧ Hid (Z.Perm (List.range i) ∧ Z.Pairwise (Tn T n c d)) ∧ Hid (IV w s5 (natI Z) wr) ∧ Hid (i = 0 → s5 = .slice none 0 0)) (fun _ s6 _ => q - (intOf s6).toNat)
  case atStart => exact ⟨0, [], rfl, Nat.zero_le _, ⟨by simp, by simp⟩, IV.nil w, fun _ => rfl⟩
  case round =>
    obtain ⟨i, Z, rfl, hi, HP, HV, HZ0⟩ := hrel
    by_cases hlt : i < q
    · have hlt' : (i : Int) < (q : Int) := by omega
      have hi0 : (0 : Int) ≤ (i : Int) := by omega
      have HZL : Hid (Z.length = i) := by show Z.length = i; rw [HP.out.1.length_eq]; simp
      have hshape : ∃ pv cv, u5 = .slice pv i cv ∧ ((i = 0 ∧ pv = none ∧ cv = 0) ∨ (0 < i ∧ i ≤ cv ∧ ∃ g, pv = some ⟨g, 0, none⟩ ∧ g < wr.heap.size ∧ ∀ j, j < i → wr.cell? ⟨g, j, none⟩ = some (.int .i64 (nthN Z j)))) := by
        by_cases h0 : i = 0
        · exact ⟨none, 0, by rw [HZ0.out h0, h0], .inl ⟨h0, rfl, rfl⟩⟩
        · have hl : (natI Z).length = i := by rw [List.length_map, HZL.out]
          obtain ⟨pv, cv, e, him⟩ := HV.out.im
          rw [hl] at e him
          rcases HV.out.own.2 with ⟨e2, e3⟩ | ⟨g, cap, cur, e2, e3, e4, e5, -⟩
          · rw [hl] at e3; exact absurd e3 h0
          · rw [hl] at e2 e5
            rcases him with h | ⟨g', o', e6, hg', h3⟩
            · exact absurd h h0
            · have e7 := e.symm.trans e2
              rw [e6] at e7
              injection e7 with e8 _ e9
              injection e8 with e8
              injection e8 with e10 e11
              subst e10 e11 e9
              exact ⟨some ⟨g', 0, none⟩, cv, by rw [e, e6], .inr ⟨by omega, e5, g', rfl, hg', fun j hj => by have := h3 j hj; rwa [Nat.zero_add] at this⟩⟩
      obtain ⟨pv, cv, rfl, hsh⟩ := hshape
      have HSH : Hid ((i = 0 ∧ pv = none ∧ cv = 0) ∨ (0 < i ∧ i ≤ cv ∧ ∃ g, pv = some ⟨g, 0, none⟩ ∧ g < wr.heap.size ∧ ∀ j, j < i → wr.cell? ⟨g, j, none⟩ = some (.int .i64 (nthN Z j)))) := hsh
      clear hsh HZ0
      generalize wr = wo at *
      go_upto_block 2 with fail
      go_cut [7] (fun s7 wx => ∃ k : Nat, s7 = .int .i64 k ∧ k ≤ i ∧ Hid (Bhd T n c d i k Z ∧ Stp T n c d i k Z) ∧ Hid (Gr wo wx))
      case first =>
        go_wp2_with fail
        go_loopw [7] (fun s7 wr => ∃ k : Nat, s7 = .int .i64 k ∧ k ≤ i ∧ Hid (Bhd T n c d i k Z) ∧ Hid (Gr wo wr)) (fun s7 _ => (intOf s7).toNat)
        case atStart => exact ⟨i, rfl, Nat.le_refl _, fun j hj h => by have := HZL.out; omega, Gr.refl _⟩
        case round =>
          obtain ⟨k, rfl, hk, HD, HB⟩ := hrel
          cases k with
          | zero =>
            have hk0 : ¬ (0 : Nat) < 0 := by omega
            go_wp2_with fail
            go_quiet (fail)
            go_wp2_with fail
            go_meet
            case rel => exact ⟨0, rfl, Nat.zero_le _, ⟨HD.out, fun j _ h => by omega⟩, HB.out.trans ⟨nq, #[], by rw [grow_empty]⟩⟩
          | succ k =>
            have hne : 0 < i := by omega
            have hkl : k < Z.length := by rw [HZL.out]; omega
            have hiq : i < T.q := by rw [HEQ.out]; exact hlt
            obtain ⟨s, es⟩ : ∃ s, Z[k] = s := ⟨_, rfl⟩
            have hs : s < i := List.mem_range.1 (HP.out.1.mem_iff.1 (by rw [← es]; exact List.getElem_mem hkl))
            have hsT : s < T.q := by omega
            have hcell : ∃ g, pv = some ⟨g, 0, none⟩ ∧ g < wr.heap.size ∧ wr.cell? ⟨g, k, none⟩ = some (.int .i64 ((s : Nat) : Int)) := by
              rcases HSH.out with h | ⟨-, -, g, e1, e2, e3⟩
              · omega
              · refine ⟨g, e1, Nat.lt_of_lt_of_le e2 HB.out.below.size, ?_⟩
                rw [HB.out.below.cell (p := ⟨g, k, none⟩) e2, e3 k (by omega)]
                exact congrArg (fun x : Int => some (Value.int .i64 x)) ((nthN_at2 hkl).trans (congrArg (fun x : Nat => (x : Int)) es))
            obtain ⟨g, rfl, hg, hc0⟩ := hcell
            have x0 := fun m os => cell_at2 hg hc0 m os
            rcases HT.out.next (HV.out.below.tr HB.out.below) with h | ⟨gt, ot, rfl, hgt, h3⟩
            · omega
            have r1 := fun m os => tm_at2 hgt h3 hiq m os
            have r2 := fun m os => tm_at2 hgt h3 hsT m os
            have hc := fun m os => HA.out i s (grow (wr.drewN m) os) (by rw [← HEQ.out]; exact hiq) (by rw [← HEQ.out]; exact hsT) ((HV.out.below.tr HB.out.below).tr (Gr.below ⟨m, os, rfl⟩))
            obtain ⟨A, hA⟩ : ∃ A, decide (crw (T.v i) (T.v s) c d n 0 < 0) = A := ⟨_, rfl⟩
            rw [hA] at hc
            have HAA : Hid (decide (crw (T.v i) (T.v s) c d n 0 < 0) = A) := hA
            have HES : Hid (∀ h : k < Z.length, Z[k] = s) := fun _ => es
            have hs0 : (0 : Int) ≤ (s : Int) := by omega
            have hsq : (s : Int) < (q : Int) := by have := HEQ.out; omega
            have pc : (0 : Int) ≤ (k : Int) := by omega
            have bc : (k : Int) < (i : Int) := by omega
            have gt0 : decide ((k : Int) + 1 > 0) = true := decide_eq_true (by omega)
            have gt1 : (0 : Int) < (k : Int) + 1 := by omega
            have gt2 : decide ((0 : Int) < (k : Int) + 1) = true := decide_eq_true (by omega)
            have rc : IntKind.i64.wrap (k : Int) = (k : Int) := by rw [IntKind.wrap_i64]; omega
            clear h3 hgt hc0 hg es hA
            generalize T.P i = pi at *
            generalize T.L i = li at *
            generalize T.C i = ci at *
            generalize T.P s = ps at *
            generalize T.L s = ls at *
            generalize T.C s = cs at *
            go_wp2_with fail
            go_quiet_grown (first | (go_at_call 20; refine Calls.grown_of (hc _ _)))
            have HB2 : Hid (Gr wo (grow (wr.drewN nq) osq)) := HB.out.trans ⟨nq, osq, rfl⟩
            clear x0 r1 r2 hc HB
            generalize grow (wr.drewN nq) osq = w2 at *
            cases A with
            | true =>
              go_wp2_with fail
              exact ⟨⟨k, rfl, by omega, fun j hj h => by
                by_cases e : j = k
                · subst e; rw [HES.out hj]; exact of_decide_eq_true HAA.out
                · exact HD.out j hj (by omega), HB2⟩, by simp [intOf]⟩
            | false =>
              go_wp2_with fail
              go_meet
              case rel => exact ⟨k + 1, by simp, hk, ⟨HD.out, fun j hj e => by
                have e' : j = k := by omega
                subst e'
                rw [HES.out hj]
                exact of_decide_eq_false HAA.out⟩, HB2⟩
      case rest =>
        obtain ⟨k, rfl, hk, HK2, HB⟩ := hcut
        have hZok := ins_ok HP.out.1 HP.out.2 (by rw [HZL.out]; exact hk) HK2.out.1 HK2.out.2
        have HOK : Hid ((Z.take k ++ [i] ++ Z.drop k).Perm (List.range (i + 1)) ∧ (Z.take k ++ [i] ++ Z.drop k).Pairwise (Tn T n c d)) := hZok
        have hkI : (k : Int) ≤ (i : Int) := by omega
        have hk0 : (0 : Int) ≤ (k : Int) := by omega
        clear hZok HK2
        apply_assumption
        rcases HSH.out with ⟨e0, rfl, rfl⟩ | ⟨hi1, hic, g, rfl, hg, hcl⟩
        · subst e0
          have hk00 : k = 0 := by omega
          subst hk00
          have hZ0 : Z = [] := List.length_eq_zero_iff.1 HZL.out
          subst hZ0
          obtain ⟨i0, hinf, -, -, -⟩ := info_parts info3
          have hr1 := run_append_owned_none (P := Tryd.prog) (w := wc) wc.heap.size 24 24 3 i0 1 Tryd.underlying24 hinf (.slice none 0 0) 0 [] (IV.nil wc).own
          obtain ⟨g2, cc, w3, hr, hV3⟩ := (IV.nil wc).one (by simp) (0 : Int)
          have hr3 := run_append_owned_none (P := Tryd.prog) (w := w3) wc.heap.size 24 24 3 i0 1 Tryd.underlying24 hinf _ _ _ hV3.own
          have HR1 : Hid ((Builtin.append_ #[24, 24] 24 #[.slice none 0 0, .slice none 0 0]).run Tryd.prog wc = .ok (.slice none 0 0) wc) := hr1
          have HR2 : Hid ((Builtin.append_ #[24, 24] 24 #[.slice none 0 0, .slice (some ⟨wc.heap.size, 0, none⟩) 1 1]).run Tryd.prog (wc.alloc (.cells #[.int .i64 0] 3)) = .ok (.slice (some ⟨g2, 0, none⟩) 1 cc) w3) := hr
          have HR3 : Hid ((Builtin.append_ #[24, 24] 24 #[.slice (some ⟨g2, 0, none⟩) 1 cc, .slice none 0 0]).run Tryd.prog w3 = .ok (.slice (some ⟨g2, 0, none⟩) 1 cc) w3) := hr3
          have HV3 : Hid (IV w (.slice (some ⟨g2, 0, none⟩) 1 cc) (natI [0]) w3) := ⟨own_base hV3.own (HV.out.below.tr HB.out.below).size, (HV.out.below.tr HB.out.below).tr hV3.below⟩
          clear hr1 hr hr3 hV3 HV HB hinf
          go_upto_region 10 with (first | (at_builtin; refine wpList_append_eq rfl _ _ 24 rfl _ _ _ _ rfl rfl HR1.out ?_))
          go_upto_region 11 with (first | (at_builtin; refine wpList_append_eq rfl _ _ 24 rfl _ _ _ _ rfl rfl HR2.out ?_))
          go_wp2_with (first | (at_builtin; refine wpList_append_eq rfl _ _ 24 rfl _ _ _ _ rfl rfl HR3.out ?_))
          exact ⟨⟨1, [0], by simp, by omega, HOK, HV3, fun h => by omega⟩, by simp [intOf]; omega⟩
        · have hgc : g < wc.heap.size := Nat.lt_of_lt_of_le hg HB.out.below.size
          have hcl2 : ∀ wx, Bw wc wx → ∀ j, j < i → wx.cell? ⟨g, j, none⟩ = some (.int .i64 (nthN Z j)) := fun wx hb j hj => by
            rw [hb.cell (p := ⟨g, j, none⟩) hgc, HB.out.below.cell (p := ⟨g, j, none⟩) hg]
            exact hcl j hj
          have hlt1 : (natI (Z.take k)).length = k := by rw [List.length_map, List.length_take, HZL.out]; omega
          obtain ⟨v1, w5, hr1, hV1⟩ := (IV.nil wc).many (p := some ⟨g, 0, none⟩) (ys := natI (Z.take k)) (a := nthN Z) cv (by
            rw [hlt1]
            by_cases hk1 : k = 0
            · exact .inl hk1
            · exact .inr ⟨g, 0, rfl, hgc, fun j hj => by rw [Nat.zero_add]; exact hcl2 wc (Below.refl _ _) j (by omega)⟩) (fun j hj => by
            rw [hlt1] at hj
            have h1 : j < Z.length := by rw [HZL.out]; omega
            rw [nthN_at2 h1, List.getD_eq_getElem?_getD, List.getElem?_map, List.getElem?_take, if_pos hj, List.getElem?_eq_getElem h1]
            rfl) (by rw [hlt1]; simp; omega)
          rw [List.nil_append] at hV1
          rw [hlt1] at hr1
          obtain ⟨p1, c1, rfl, -⟩ := hV1.im
          rw [hlt1] at hr1
          obtain ⟨g2, c2, w6, hr2, hV2⟩ := hV1.one (by rw [hlt1]; omega) (i : Int)
          rw [hlt1] at hr2 hV2
          have hld : (natI (Z.drop k)).length = i - k := by rw [List.length_map, List.length_drop, HZL.out]
          obtain ⟨PP, hPP⟩ : ∃ PP, (if cv = k then some (⟨g, 0, none⟩ : Addr) else some ⟨g, k, none⟩) = PP := ⟨_, rfl⟩
          obtain ⟨v3, w7, hr3, hV3⟩ := hV2.many (p := PP) (ys := natI (Z.drop k)) (a := fun j => nthN Z (k + j)) (cv - k) (by
            rw [hld]
            by_cases hk1 : i - k = 0
            · exact .inl hk1
            · exact .inr ⟨g, k, by rw [← hPP, if_neg (by omega)], Nat.lt_of_lt_of_le hgc hV2.below.size, fun j hj => hcl2 w6 hV2.below (k + j) (by omega)⟩) (fun j hj => by
            rw [hld] at hj
            have h1 : k + j < Z.length := by rw [HZL.out]; omega
            rw [nthN_at2 h1, List.getD_eq_getElem?_getD, List.getElem?_map, List.getElem?_drop, List.getElem?_eq_getElem h1]
            rfl) (by rw [hld, List.length_append, hlt1]; simp; omega)
          rw [hld] at hr3
          have eL : natI (Z.take k) ++ [(i : Int)] ++ natI (Z.drop k) = natI (Z.take k ++ [i] ++ Z.drop k) := by simp
          rw [eL] at hV3
          obtain ⟨p3', c3', rfl, -⟩ := hV3.im
          have hlf : (natI (Z.take k ++ [i] ++ Z.drop k)).length = i + 1 := by
            rw [List.length_map, HOK.out.1.length_eq]; simp
          rw [hlf] at hr3
          have HR1 : Hid ((Builtin.append_ #[24, 24] 24 #[.slice none 0 0, .slice (some ⟨g, 0, none⟩) k cv]).run Tryd.prog wc = .ok (.slice p1 k c1) w5) := hr1
          have HR2 : Hid ((Builtin.append_ #[24, 24] 24 #[.slice p1 k c1, .slice (some ⟨w5.heap.size, 0, none⟩) 1 1]).run Tryd.prog (w5.alloc (.cells #[.int .i64 (i : Int)] 3)) = .ok (.slice (some ⟨g2, 0, none⟩) (k + 1) c2) w6) := hr2
          have HR3 : Hid ((Builtin.append_ #[24, 24] 24 #[.slice (some ⟨g2, 0, none⟩) (k + 1) c2, .slice PP (i - k) (cv - k)]).run Tryd.prog w6 = .ok (.slice p3' (i + 1) c3') w7) := hr3
          have HV3 : Hid (IV w (.slice p3' (i + 1) c3') (natI (Z.take k ++ [i] ++ Z.drop k)) w7) := by
            rw [hlf] at hV3
            exact ⟨own_base hV3.own (HV.out.below.tr HB.out.below).size, (HV.out.below.tr HB.out.below).tr hV3.below⟩
          have hic' : (i : Int) ≤ (cv : Int) := by omega
          have hkc' : (k : Int) ≤ (cv : Int) := by omega
          clear hr1 hr2 hr3 hV1 hV2 hV3 HV HB hcl hcl2 hlt1 hld hlf eL hg hgc
          go_upto_region 10 with (first | (at_builtin; refine wpList_append_eq rfl _ _ 24 rfl _ _ _ _ rfl rfl HR1.out ?_))
          go_upto_region 11 with (first | (at_builtin; refine wpList_append_eq rfl _ _ 24 rfl _ _ _ _ rfl rfl HR2.out ?_))
          go_wp2_with (first | (at_builtin; refine wpList_append_eq rfl _ _ 24 rfl _ _ _ _ rfl rfl HR3.out ?_))
          exact ⟨⟨i + 1, Z.take k ++ [i] ++ Z.drop k, by simp, hlt, HOK, HV3, fun h => by omega⟩, by simp [intOf]; omega⟩
    · have hj2 : ¬ (i : Int) < (q : Int) := by omega
      have ej : i = q := by omega
      subst ej
      go_wp2_with fail
      go_ret
      exact ⟨_, rfl, Z, ⟨by rw [HEQ.out]; exact HP.out.1, HP.out.2⟩, HV.out⟩
end Go.Proofs.YtehamdkjdbaceaaDoor.so
