
/- The document's Group, walked. Conditions: as each theorem says. -/
import Derived.Test.YtbiikodnfaeceaaGreatDoorGy
namespace Go.Proofs.YtbiikodnfaeceaaGreatDoor.so
open Go.RowKit Go.Sort Go.Shelf
theorem of_then {P : Program} {c : Code} {Q : Exit → Act → World → Prop} {a : Act} {w : World} (h : Code.wp P c (Exit.then (fun a w => Q .normal a w) (fun _ _ _ => False)) a w) : Code.wp P c Q a w :=
  wp_mono h (fun e a w hq => by cases e <;> first | exact hq | exact hq.elim)
theorem dst_memG {T : Tb} {n : Nat} {c : Nat → Int} {j : Nat} {x : Int} : x ∈ dst T n c j ↔ ∃ k : Nat, x = (k : Int) ∧ k < j ∧ likeA T n c k = false := by
  induction j with
  | zero => simp [dst]
  | succ j ih =>
    cases h : likeA T n c j with
    | true =>
      rw [dst_yes h, ih]
      constructor
      · rintro ⟨k, a, b, d⟩; exact ⟨k, a, by omega, d⟩
      · rintro ⟨k, a, b, d⟩
        refine ⟨k, a, ?_, d⟩
        rcases Nat.lt_or_ge k j with h' | h'
        · exact h'
        · have : k = j := by omega
          subst this; rw [h] at d; cases d
    | false =>
      rw [dst_no h, List.mem_append, ih, List.mem_singleton]
      constructor
      · rintro (⟨k, a, b, d⟩ | a)
        · exact ⟨k, a, by omega, d⟩
        · exact ⟨j, a, by omega, h⟩
      · rintro ⟨k, a, b, d⟩
        rcases Nat.lt_or_ge k j with h' | h'
        · exact .inl ⟨k, a, h', d⟩
        · have : k = j := by omega
          subst this; exact .inr a
/-- Is a number among the first so many of a list? -/
def anyI (D : List Int) (z : Int) (k : Nat) : Bool := (List.range k).any fun j => D.getD j 0 == z
theorem anyI_succ (D : List Int) (z : Int) (k : Nat) : anyI D z (k + 1) = (anyI D z k || D.getD k 0 == z) := by
  unfold anyI
  rw [List.range_succ, List.any_append]
  simp
theorem anyI_all {T : Tb} {n : Nat} {c : Nat → Int} {z : Nat} (hz : z < T.q) : anyI (dst T n c T.q) (z : Int) (dst T n c T.q).length = !likeA T n c z := by
  have h1 : anyI (dst T n c T.q) (z : Int) (dst T n c T.q).length = true ↔ (z : Int) ∈ dst T n c T.q := by
    unfold anyI
    rw [List.any_eq_true]
    constructor
    · rintro ⟨j, hj, e⟩
      have hj' := List.mem_range.1 hj
      rw [List.getD_eq_getElem?_getD, List.getElem?_eq_getElem hj'] at e
      have e2 : (dst T n c T.q)[j] = (z : Int) := by simpa using e
      rw [← e2]
      exact List.getElem_mem hj'
    · intro hm
      obtain ⟨j, hj, e⟩ := List.getElem_of_mem hm
      refine ⟨j, List.mem_range.2 hj, ?_⟩
      rw [List.getD_eq_getElem?_getD, List.getElem?_eq_getElem hj]
      simpa using e
  rw [Bool.eq_iff_iff, h1, dst_memG]
  constructor
  · rintro ⟨j, e, hj, hl⟩
    have : j = z := by omega
    subst this
    rw [hl]; rfl
  · intro h
    exact ⟨z, rfl, hz, by simpa using h⟩
/-- The groups' rows, so far. -/
def grpL (T : Tb) (n : Nat) (c : Nat → Int) (q : Nat) (l : List Nat) : List (List Nat) := (l.filter fun i => !likeA T n c i).map fun i => lkL T n c i q
theorem grpL_snoc (T : Tb) (n : Nat) (c : Nat → Int) (q : Nat) (l : List Nat) (z : Nat) : grpL T n c q (l ++ [z]) = grpL T n c q l ++ (if likeA T n c z = true then [] else [lkL T n c z q]) := by
  unfold grpL
  rw [List.filter_append, List.map_append]
  cases e : likeA T n c z <;> simp [e]
/-- What the document's Group answers. -/
def RGO (T : Tb) (n : Nat) (c : Nat → Int) (k : Nat) (w : World) (e : Ending) (w' : World) : Prop := ∃ v, e = .returned v ∧ ∃ W Z gs, StN T n c (fun _ => false) Z ∧ gs.map Gp.pt = grpL T n c T.q Z ∧ GS T n c k W v gs w' ∧ Bw w w'
set_option maxRecDepth 1000000 in
set_option maxHeartbeats 16000000 in
theorem rgroup_any (T : Tb) (p : Option Addr) (cp : Nat) (p2 : Option Addr) (n c2 : Nat) (c : Nat → Int) (k : Nat) (w : World) (hT : TM w p T) (hI : IM w p2 n c) (hS : Snd T) (hn12 : n ≤ 12) (hco : ∀ i, i < n → colOk T (c i)) (hx : colOk T (k : Int)) (h64 : ∀ i, i < T.q → ∀ j, j < T.L i → B64 (T.v i j).n) :
    Calls Tryz.prog 7 #[.slice p T.q cp, .slice p2 n c2, .int .i64 (k : Int)] w fun e w' => RGO T n c k w e w' := by
  have HT : Hid (TM w p T) := hT
  have HI : Hid (IM w p2 n c) := hI
  have HS : Hid (Snd T) := hS
  have HCO : Hid (∀ i, i < n → colOk T (c i)) := hco
  have HX : Hid (colOk T (k : Int)) := hx
  have H64 : Hid (∀ i, i < T.q → ∀ j, j < T.L i → B64 (T.v i j).n) := h64
  have HSO : Hid (∀ v wx, KV w v (colsL c n) wx → ∃ pv cv, v = .slice pv n cv ∧ Calls Tryz.prog 15 #[.slice p T.q cp, .slice pv n cv] wx fun e w' => ∃ v, e = .returned v ∧ ∃ Z, StN T n c (fun _ => false) Z ∧ IV wx v (natI Z) w') := fun v wx hv => by
    obtain ⟨pv, cv, rfl, hkm⟩ := hv.km
    rw [colsL_len] at hkm ⊢
    refine ⟨pv, cv, rfl, ?_⟩
    have hkm' : KM wx pv n c (fun _ => false) := by
      rcases hkm with h | ⟨g, o, h1, h2, h3⟩
      · exact .inl h
      · refine .inr ⟨g, o, h1, h2, fun i hi => ?_⟩
        have := h3 i hi
        dsimp only at this
        rwa [colsL_at hi] at this
    exact rsort_any T p cp pv n cv c _ wx (HT.out.next hv.below) hkm' HS.out hn12 HCO.out
  have HDI : Hid (∀ wx, Bw w wx → Calls Tryz.prog 16 #[.slice p T.q cp, .slice p2 n c2] wx fun e w' => ∃ v, e = .returned v ∧ IV wx v (dst T n c T.q) w') := fun wx hb => rdistinct_any T p cp p2 n c2 c wx (HT.out.next hb) (HI.out.next hb) HS.out hn12 HCO.out
  have hq60 := hS.few
  have HDL : Hid ((dst T n c T.q).length ≤ T.q) := dst_len T n c T.q
  have HAN : Hid (∀ z, z < T.q → anyI (dst T n c T.q) (z : Int) (dst T n c T.q).length = !likeA T n c z) := fun z hz => anyI_all hz
  generalize dst T n c T.q = D at *
  obtain ⟨q, eq⟩ : ∃ q, T.q = q := ⟨_, rfl⟩
  have HEQ : Hid (T.q = q) := eq
  rw [eq] at HSO HDI hq60 HDL HAN ⊢
  clear hT hI hS hco hx h64 eq
  have mixed := mixed
  go_enter Tryz.func7, Tryz.ntmps7
  go_upto_block 0 with fail
  go_cut [7] (fun s7 wx => Hid (KV w s7 (colsL c n) wx))
  case first =>
    go_wp2_with fail
    go_loopw [7, 8] (fun vl vi wr => ∃ j : Nat, vi = .int .i64 j ∧ j ≤ n ∧ Hid (KV w vl (colsL c j) wr)) (fun _ vi _ => n - (intOf vi).toNat)
    case atStart => exact ⟨0, rfl, Nat.zero_le _, KV.nil w⟩
    case round =>
      obtain ⟨j, rfl, hj, HV⟩ := hrel
      by_cases hlt : j < n
      · have hlt' : (j : Int) < (n : Int) := by omega
        have hj0 : (0 : Int) ≤ (j : Int) := by omega
        have hjm : (j : Int) ≤ 12 := by omega
        rcases HI.out.next HV.out.below with h | ⟨g, o, rfl, hg, h3⟩
        · omega
        have y0 := h3 j hlt
        clear h3 hg
        obtain ⟨x, hx⟩ : ∃ x, c j = x := ⟨_, rfl⟩
        have hlen := colsL_len c j
        obtain ⟨pv, cv, rfl, -⟩ := HV.out.km
        obtain ⟨g2, cc2, w3, hr, hV3⟩ := HV.out.one (by rw [hlen]; omega) (c j)
        rw [← colsL_succ] at hV3
        rw [hx] at hr y0
        clear hx
        have HV3 : Hid (KV w (.slice (some ⟨g2, 0, none⟩) ((colsL c j).length + 1) cc2) (colsL c (j + 1)) w3) := hV3
        rw [hlen] at hr HV3 ⊢
        have HR : Hid ((Builtin.append_ #[46, 46] 46 #[.slice pv j cv, .slice (some ⟨wr.heap.size, 0, none⟩) 1 1]).run Tryz.prog (wr.alloc (.cells #[.int .i64 x, .bool false] 48)) = .ok (.slice (some ⟨g2, 0, none⟩) (j + 1) cc2) w3) := hr
        clear hV3 HV hr hlen
        go_wp2_with (first | (at_builtin; refine wpList_append_eq rfl _ _ 46 rfl _ _ _ _ rfl rfl HR.out ?_))
        exact ⟨⟨j + 1, by simp, hlt, HV3⟩, by simp [intOf]; omega⟩
      · have hj2 : ¬ (j : Int) < (n : Int) := by omega
        have ej : j = n := by omega
        subst ej
        go_wp2_with fail
        go_meet
        case rel => exact HV
  case rest =>
  have HV : Hid (KV w u7 (colsL c n) wc) := hcut
  clear hcut
  obtain ⟨pv, cv, e7, hso⟩ := HSO.out _ _ HV.out
  subst e7
  have HBK : Hid (Bw w wc) := HV.out.below
  clear HSO HV
  apply_assumption
  go_wp2_with fail
  refine hso.mono ?_
  clear hso
  rintro e w1 ⟨vl, rfl, Z, hst, hiv⟩
  have HST : Hid (StN T n c (fun _ => false) Z) := hst
  have HZ1 : Hid (IV wc vl (natI Z) w1) := hiv
  have HB1 : Hid (Bw w w1) := HBK.out.tr hiv.below
  have hd := HDI.out w1 HB1.out
  clear hst hiv HDI
  go_wp2_with fail
  refine hd.mono ?_
  clear hd
  rintro e w2 ⟨vd, rfl, hdv⟩
  have HD2 : Hid (IV w1 vd D w2) := hdv
  have HB2 : Hid (Bw w w2) := HB1.out.tr hdv.below
  have hZl : Z.length = q := by rw [← HEQ.out, HST.out.1.length_eq]; simp
  have hzi := HZ1.out.next hdv.below
  obtain ⟨pl, cl, el, himl⟩ := hzi.im
  rw [List.length_map, hZl] at el himl
  subst el
  have HL : Hid (IM w2 pl q (nthN Z)) := himl
  obtain ⟨pd, cd, ed, himd⟩ := hdv.im
  obtain ⟨dl, hdl⟩ : ∃ dl, D.length = dl := ⟨_, rfl⟩
  have HDN : Hid (D.length = dl) := hdl
  rw [hdl] at ed himd HDL HAN
  subst ed
  have HDM : Hid (IM w2 pd dl (fun i => D.getD i 0)) := himd
  have hdl60 : dl ≤ 60 := by have := HDL.out; omega
  clear hdv himl himd hzi HZ1 HD2 hdl HB1 HBK
  go_wp2_with fail
  go_loopw [11, 12] (fun s11 s12 wr => ∃ (i : Nat) (gs : List Gp), s12 = .int .i64 i ∧ i ≤ q ∧ Hid (GS T n c k w2 s11 gs wr) ∧ Hid (gs.map Gp.pt = grpL T n c q (Z.take i)) ∧ gs.length ≤ i) (fun _ s12 _ => q - (intOf s12).toNat)
  case atStart => exact ⟨0, [], rfl, Nat.zero_le _, GS.nil _ _ _ _ _, rfl, Nat.le_refl _⟩
  case round =>
    obtain ⟨i, gs, rfl, hi, HG, HGP, hgl⟩ := hrel
    by_cases hlt : i < q
    · have hlt' : (i : Int) < (q : Int) := by omega
      have hi0 : (0 : Int) ≤ (i : Int) := by omega
      obtain ⟨z, hz⟩ : ∃ z, Z[i]? = some z := ⟨_, List.getElem?_eq_getElem (by omega)⟩
      have HZI : Hid (Z.take (i + 1) = Z.take i ++ [z]) := by
        show _ = _
        rw [List.take_succ_eq_append_getElem (by omega), (List.getElem?_eq_some_iff.1 hz).2]
      have HZN : Hid (nthN Z i = (z : Int)) := by
        show _ = _
        rw [nthN_at2 (by omega), (List.getElem?_eq_some_iff.1 hz).2]
      have hzT : z < T.q := List.mem_range.1 (HST.out.1.mem_iff.1 (List.mem_of_getElem? hz))
      have hzq : z < q := by rw [← HEQ.out]; exact hzT
      have HIS := HAN.out z hzq
      have hgp := grpL_snoc T n c q (Z.take i) z
      rw [← HZI.out] at hgp
      have HGN : Hid (grpL T n c q (Z.take (i + 1)) = grpL T n c q (Z.take i) ++ (if likeA T n c z = true then [] else [lkL T n c z q])) := hgp
      clear hz hgp
      go_upto_block 4 with fail
      go_cut [13] (fun s13 wx => s13 = .bool (!likeA T n c z) ∧ Hid (Bw wr wx))
      case first =>
        go_wp2_with fail
        generalize wr = wo at *
        go_loopw [13, 14] (fun s13 s14 wr => ∃ kk : Nat, s14 = .int .i64 kk ∧ kk ≤ dl ∧ s13 = .bool (anyI D (z : Int) kk) ∧ Hid (Bw wo wr)) (fun _ s14 _ => dl - (intOf s14).toNat)
        case atStart => exact ⟨0, rfl, Nat.zero_le _, rfl, Below.refl _ _⟩
        case round =>
          obtain ⟨kk, rfl, hkk, rfl, HB3⟩ := hrel
          by_cases hlk : kk < dl
          · have hlk' : (kk : Int) < (dl : Int) := by omega
            have hk0 : (0 : Int) ≤ (kk : Int) := by omega
            rcases HDM.out.next (HG.out.below.tr HB3.out) with h | ⟨gd, od, rfl, hgd, hd3⟩
            · omega
            have y1 := hd3 kk hlk
            rcases HL.out.next (HG.out.below.tr HB3.out) with h | ⟨gl', ol, rfl, hgl', hl3⟩
            · omega
            have y0 := hl3 i hlt
            rw [HZN.out] at y0
            have hsc := anyI_succ D (z : Int) kk
            dsimp only at y1
            generalize D.getD kk 0 = x at *
            have HNX : Hid (anyI D (z : Int) (kk + 1) = (anyI D (z : Int) kk || x == (z : Int))) := hsc
            have y0q : ∀ m, (wr.drewN m).cell? ⟨gl', ol + i, none⟩ = some (.int .i64 (z : Int)) := fun m => y0
            have y1q : ∀ m, (wr.drewN m).cell? ⟨gd, od + kk, none⟩ = some (.int .i64 x) := fun m => y1
            obtain ⟨A, hA⟩ : ∃ A, anyI D (z : Int) kk = A := ⟨_, rfl⟩
            have HA : Hid (anyI D (z : Int) kk = A) := hA
            rw [hA]
            clear hA hsc hd3 hl3 hgd hgl' y0 y1
            cases A with
            | true =>
              go_wp2_with fail
              go_quiet (fail)
              have HB4 : Hid (Bw wo (wr.drewN nq)) := HB3.out.tr (Bw.drewN _ _)
              clear y0q y1q HB3
              generalize wr.drewN nq = w4 at *
              go_wp2_with fail
              exact ⟨⟨kk + 1, by simp, hlk, by rw [HNX.out, HA.out]; rfl, HB4⟩, by simp [intOf]; omega⟩
            | false =>
              go_wp2_with fail
              go_quiet (fail)
              have HB4 : Hid (Bw wo (wr.drewN nq)) := HB3.out.tr (Bw.drewN _ _)
              clear y0q y1q HB3
              generalize wr.drewN nq = w4 at *
              go_wp2_with fail
              exact ⟨⟨kk + 1, by simp, hlk, by rw [HNX.out, HA.out]; rfl, HB4⟩, by simp [intOf]; omega⟩
          · have hlk' : ¬ (kk : Int) < (dl : Int) := by omega
            have hkd : kk = dl := by omega
            subst hkd
            rw [HIS]
            go_wp2_with fail
            go_meet
            case rel => exact ⟨rfl, HB3⟩
      case rest =>
      obtain ⟨rfl, HB3⟩ := hcut
      apply_assumption
      have HG3 : Hid (GS T n c k w2 u11 gs wc) := HG.out.next HB3.out
      clear HG HB3 HIS
      cases hlz : likeA T n c z with
      | true =>
        have HGE : Hid (gs.map Gp.pt = grpL T n c q (Z.take (i + 1))) := by show _ = _; rw [HGN.out, if_pos hlz, List.append_nil]; exact HGP.out
        clear hlz
        go_wp2_with fail
        exact ⟨⟨i + 1, gs, by simp, hlt, HG3, HGE, by omega⟩, by simp [intOf]; omega⟩
      | false =>
        have HLZ : Hid (likeA T n c z = false) := hlz
        have HGE : Hid (∀ pk ck, (gs ++ [(⟨pk, ck, lkL T n c z q⟩ : Gp)]).map Gp.pt = grpL T n c q (Z.take (i + 1))) := fun pk ck => by rw [HGN.out, if_neg (by rw [hlz]; simp), List.map_append, HGP.out]; rfl
        clear hlz
        obtain ⟨pg, cg, e11⟩ := HG3.out.form
        obtain ⟨gl, hgl'⟩ : ∃ gl, gs.length = gl := ⟨_, rfl⟩
        have HGL : Hid (gs.length = gl) := hgl'
        rw [hgl'] at e11 hgl
        subst e11
        clear hgl'
        go_upto_region 17 with fail
        go_cut [65] (fun s65 wx => s65 = .bool false ∧ wx = wc)
        case first =>
          go_wp2_with fail
          go_meet
          case rel => exact ⟨rfl, rfl⟩
        case rest =>
          obtain ⟨rfl, rfl⟩ := hcut
          apply_assumption
          refine wp_cond_false (by simp [Act.eval]) ?_
          refine wp_skip ?_
          apply_assumption
          have hbw : Bw w wc := HB2.out.tr HG3.out.below
          refine of_then (rgrp_one T p cp q p2 n c2 c k pl cl i z Z pg gl cg gs w2 wc HEQ (HT.out.next hbw) HS HX HCO H64 (HI.out.next hbw) (HL.out.next HG3.out.below) hn12 HZN hlt hzq HLZ HG3 HGL (by omega) _ _ _ _ _ _ _ _ _ _ _ _ _ _ _ _ _ _ _ _ _ _ _ _ _ _ _ _ _ _ _ _ _ _ _ _ _ _ _ _ _ _ _ _ _ _ _ _ _ _ _ _ _ _ _ _ _ _ _ _ _ _ _ _ _ _ _ _ _ _ _ _ _ _ _ _ _ _ _ _ _ _ _ _ _ _ _ _ _ _ _ _ _ _ _ _ _ _ _ _ _ _ _ _ _ _ _ _ _ _ _ _ _ _ _ _ _ _ _ _ _ _ _ _ _ _ _ ?_)
          clear HG3 hbw
          unfold Hid
          intro m15 m16 m17 m18 m19 m66 m67 m68 m69 m70 m71 m72 m73 m74 m75 m76 m77 m78 m79 m80 m81 m82 m83 m84 m85 m86 m87 m88 m89 m90 m91 m92 m93 m94 m95 m96 m97 m98 m99 m100 m101 m102 m103 m104 m105 m106 m107 m108 m109 m110 m111 m112 m113 m114 m115 m116 m117 m118 m119 m120 m121 m122 m123 m124 m125 m126 m127 m128 m129 m130 m131 gg cc pk ck w' hG'
          have HG' : Hid (GS T n c k w2 (.slice (some ⟨gg, 0, none⟩) (gl + 1) cc) (gs ++ [⟨pk, ck, lkL T n c z q⟩]) w') := hG'
          clear hG'
          dsimp only
          go_wp2_with fail
          have HGE2 : Hid ((gs ++ [(⟨pk, ck, lkL T n c z q⟩ : Gp)]).map Gp.pt = grpL T n c q (Z.take (i + 1))) := HGE.out pk ck
          exact ⟨⟨i + 1, gs ++ [(⟨pk, ck, lkL T n c z q⟩ : Gp)], by simp, hlt, HG', HGE2, by rw [List.length_append, HGL.out]; simp; omega⟩, by simp [intOf]; omega⟩
    · have hlt' : ¬ (i : Int) < (q : Int) := by omega
      have hiq : i = q := by omega
      subst hiq
      have HFI : Hid (gs.map Gp.pt = grpL T n c i Z) := by have := HGP.out; rwa [List.take_of_length_le (by omega)] at this
      go_wp2_with fail
      go_ret
      exact ⟨_, rfl, w2, Z, gs, HST.out, by rw [HEQ.out]; exact HFI.out, HG.out, HB2.out.tr HG.out.below⟩
end Go.Proofs.YtbiikodnfaeceaaGreatDoor.so
