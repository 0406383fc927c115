
/- The law PickGroups. Conditions: as each theorem says. -/
import Derived.Test.YtbiikodnfaeceaaGreatDoorRc
import Derived.Test.YtbiikodnfaeceaaGreatDoorGz

/- Two lists of values that are the same; a column of any table. Conditions: as each theorem says. -/
namespace Go.Proofs.YtbiikodnfaeceaaGreatDoor.so
open Go.RowKit Go.Sort Go.Shelf
set_option maxRecDepth 100000 in
set_option maxHeartbeats 4000000 in
theorem rvals_same (p1 : Option Addr) (n c1 : Nat) (a : Nat → Vl) (p2 : Option Addr) (c2 : Nat) (b : Nat → Vl) (w : World) (h1 : VM w p1 n a) (h2 : VM w p2 n b) (hn : n ≤ 1000000) (hab : ∀ i, i < n → a i = b i) :
    Calls Tryz.prog 10 #[.slice p1 n c1, .slice p2 n c2] w fun e w' => e = .returned (.bool true) ∧ Gr w w' := by
  have H1 : Hid (VM w p1 n a) := h1
  have H2 : Hid (VM w p2 n b) := h2
  have HE : Hid (∀ i, i < n → a i = b i) := hab
  clear h1 h2 hab
  have mixed := mixed
  have tM := tM
  go_enter Tryz.func10, Tryz.ntmps10
  go_wp2_with fail
  go_loopw [5] (fun i wr => ∃ j : Nat, i = .int .i64 j ∧ j ≤ n ∧ Hid (Gr w wr)) (fun i _ => n - (intOf i).toNat)
  case atStart => exact ⟨0, rfl, Nat.zero_le _, Gr.refl _⟩
  case round =>
    obtain ⟨j, rfl, hj, HB⟩ := hrel
    by_cases hlt : j < n
    · have hlt' : (j : Int) < (n : Int) := by omega
      have hj0 : (0 : Int) ≤ (j : Int) := by omega
      rcases H1.out.next HB.out.below with h | ⟨g1, o1, rfl, hg1, h1⟩
      · omega
      rcases H2.out.next HB.out.below with h | ⟨g2, o2, rfl, hg2, h2⟩
      · omega
      obtain ⟨z1, z2, z3⟩ := h1 j (by omega)
      obtain ⟨x1, x2, x3⟩ := h2 j (by omega)
      have he := HE.out j hlt
      rw [← he] at x1 x2 x3
      generalize a j = va at *
      obtain ⟨k1, n1, s1⟩ := va
      dsimp only at z1 z2 z3 x1 x2 x3
      have z1q : ∀ m, (wr.drewN m).cell? ⟨g1, o1 + j * 3, none⟩ = some (.int .i64 k1) := fun m => z1
      have z2q : ∀ m, (wr.drewN m).cell? ⟨g1, o1 + j * 3 + 1, none⟩ = some (.int .i64 n1) := fun m => z2
      have z3q : ∀ m, (wr.drewN m).cell? ⟨g1, o1 + j * 3 + 2, none⟩ = some (.string s1) := fun m => z3
      have x1q : ∀ m, (wr.drewN m).cell? ⟨g2, o2 + j * 3, none⟩ = some (.int .i64 k1) := fun m => x1
      have x2q : ∀ m, (wr.drewN m).cell? ⟨g2, o2 + j * 3 + 1, none⟩ = some (.int .i64 n1) := fun m => x2
      have x3q : ∀ m, (wr.drewN m).cell? ⟨g2, o2 + j * 3 + 2, none⟩ = some (.string s1) := fun m => x3
      have hne : ∀ W, (binOp BinOp.neq 36 (V k1 n1 s1) (V k1 n1 s1)).run Tryz.prog W = .ok (.bool false) W := fun W => by rw [neqV]; simp
      clear h1 h2 hg1 hg2 he z1 z2 z3 x1 x2 x3
      go_wp2_with fail
      go_quiet (fail)
      have HB2 : Hid (Gr w (wr.drewN nq)) := HB.out.trans ⟨nq, #[], by rw [grow_empty]⟩
      clear z1q z2q z3q x1q x2q x3q HB
      generalize wr.drewN nq = w2 at *
      go_wp2_with fail
      exact ⟨⟨j + 1, by simp, hlt, HB2⟩, by simp [intOf]; omega⟩
    · have hlt' : ¬ (j : Int) < (n : Int) := by omega
      go_wp2_with fail
      go_ret
      exact ⟨rfl, HB.out⟩
set_option maxRecDepth 100000 in
set_option maxHeartbeats 1000000 in
theorem rcolumn_all (T : Tb) (p : Option Addr) (c : Nat) (x : Int) (w : World) (hT : TM w p T) (hq : T.q ≤ 9223372036854775807) (hL : ∀ i, i < T.q → T.L i ≤ 9223372036854775807) :
    Calls Tryz.prog 6 #[.slice p T.q c, .int .i64 x] w fun e w' => RB T x e ∧ w' = w := by
  obtain ⟨W, hW⟩ : ∃ W : Nat, wid T = W := ⟨_, rfl⟩
  have HP : Hid (∀ b : Bool, (b = true ↔ (0 ≤ x ∧ x < (W : Int))) → (b = true ↔ colOk T x)) := by
    intro b h; unfold colOk; rw [hW]; exact h
  obtain ⟨q, P, L, C, v⟩ := T
  simp only at hq hL ⊢
  by_cases h0 : q = 0
  · subst h0
    have e : (12 : Int) = W := by rw [← hW]; rfl
    have HE : Hid ((12 : Int) = W) := e
    clear hT hL hW e
    by_cases h1 : 0 ≤ x
    · have h1' : x ≥ 0 := h1
      go_enter Tryz.func6, Tryz.ntmps6
      go_wp2_with fail
      go_ret
      exact ⟨⟨decide (x < 12), by simp, HP.out _ (by rw [← HE.out]; simp; intro _; exact h1)⟩, rfl⟩
    · have h1' : ¬ x ≥ 0 := h1
      go_enter Tryz.func6, Tryz.ntmps6
      go_wp2_with fail
      go_ret
      exact ⟨⟨false, rfl, HP.out _ (by simp; omega)⟩, rfl⟩
  · have e : L 0 = W := by rw [← hW]; unfold wid; rw [if_neg h0]
    rcases hT with h | ⟨g, o, rfl, hg, h3⟩
    · exact absurd h h0
    obtain ⟨y0, -⟩ := h3 0 (by show 0 < q; omega)
    have hl := hL 0 (by omega)
    have hq1 : (0 : Int) < (q : Int) := by omega
    simp only [Nat.add_zero] at y0
    rw [e] at y0 hl
    clear h3 hg hL h0 hW e
    by_cases h1 : 0 ≤ x
    · have h1' : x ≥ 0 := h1
      go_enter Tryz.func6, Tryz.ntmps6
      go_wp2_with fail
      go_ret
      exact ⟨⟨decide (x < (W : Int)), by simp, HP.out _ (by simp; intro _; exact h1)⟩, rfl⟩
    · have h1' : ¬ x ≥ 0 := h1
      go_enter Tryz.func6, Tryz.ntmps6
      go_wp2_with fail
      go_ret
      exact ⟨⟨false, rfl, HP.out _ (by simp; omega)⟩, rfl⟩
end Go.Proofs.YtbiikodnfaeceaaGreatDoor.so
namespace Go.Proofs.YtbiikodnfaeceaaGreatDoor.so
open Go.RowKit Go.Sort Go.Shelf
theorem pwG_eq {α : Type} {R : α → α → Prop} (ass : ∀ a b, R a b → R b a → False) : ∀ {l1 l2 : List α}, l1.Perm l2 → l1.Pairwise R → l2.Pairwise R → l1 = l2
  | [], l2, h, _, _ => by rw [List.nil_perm.1 h]
  | a :: t1, [], h, _, _ => by simp at h
  | a :: t1, b :: t2, h, h1, h2 => by
    have e : a = b := by
      rcases List.mem_cons.1 (h.mem_iff.1 (List.mem_cons_self (a := a) (l := t1))) with e | e
      · exact e
      · rcases List.mem_cons.1 (h.mem_iff.2 (List.mem_cons_self (a := b) (l := t2))) with e' | e'
        · exact e'.symm
        · exact (ass a b ((List.pairwise_cons.1 h1).1 b e') ((List.pairwise_cons.1 h2).1 a e)).elim
    subst e
    rw [pwG_eq ass (List.perm_cons a |>.1 h) (List.pairwise_cons.1 h1).2 (List.pairwise_cons.1 h2).2]
theorem StN.sole {T : Tb} {n : Nat} {c : Nat → Int} {d : Nat → Bool} {Z Z' : List Nat} (h : StN T n c d Z) (h' : StN T n c d Z') : Z = Z' := pwG_eq (fun x y h1 h2 => by
  unfold Tn at *
  have := crw_neg (T.v x) (T.v y) c d n 0
  omega) (h.1.trans h'.1.symm) h.2 h'.2
/-- Groups as memory has them. -/
theorem GS.at {T : Tb} {n : Nat} {c : Nat → Int} {k : Nat} {w : World} {v : Value} {gs : List Gp} {wx : World} (h : GS T n c k w v gs wx) (hl : 0 < gs.length) : ∃ g cc, v = .slice (some ⟨g, 0, none⟩) gs.length cc ∧ g < wx.heap.size ∧ ∀ i x, gs[i]? = some x → wx.cell? ⟨g, i * 5, none⟩ = some (.slice x.p n x.cap) ∧ wx.cell? ⟨g, i * 5 + 1, none⟩ = some (.int .i64 (x.pt.length : Nat)) ∧ wx.cell? ⟨g, i * 5 + 2, none⟩ = some (.int .i64 (gsum T k x.pt).k) ∧ wx.cell? ⟨g, i * 5 + 2 + 1, none⟩ = some (.int .i64 (gsum T k x.pt).n) ∧ wx.cell? ⟨g, i * 5 + 2 + 2, none⟩ = some (.string (gsum T k x.pt).s) := by
  rcases h.own.2 with ⟨rfl, h0⟩ | ⟨g, cap, cur, rfl, hb, hg, hc, hm, hz, ht⟩
  · omega
  · refine ⟨g, cap, rfl, (Array.getElem?_eq_some_iff.1 hg).1, fun i x hx => ?_⟩
    have hi : i < gs.length := (List.getElem?_eq_some_iff.1 hx).1
    have key : ∀ j, j < 5 → wx.cell? ⟨g, i * 5 + j, none⟩ = (g5 T n k x)[j]? := fun j hj => by
      have e : (cur.toList.take (gs.length * 5))[i * 5 + j]? = (grps T n k gs)[i * 5 + j]? := by rw [ht]
      rw [List.getElem?_take, if_pos (by omega), Array.getElem?_toList, grps_at hx j hj] at e
      simp only [World.cell?, hg]
      exact e
    exact ⟨key 0 (by omega), key 1 (by omega), key 2 (by omega), key 3 (by omega), key 4 (by omega)⟩
theorem rgrp_len {T : Tb} {n : Nat} {c : Nat → Int} {q : Nat} (l : List Nat) : (grpL T n c q l).length ≤ l.length := by
  unfold grpL
  rw [List.length_map]
  exact List.length_filter_le _ _
noncomputable def gtail6C : Code := ((Tryz.f3.body.bind (findSeq 6)).getD .skip)
set_option maxRecDepth 1000000 in
set_option maxHeartbeats 16000000 in
theorem gtail6 (T : Tb) (p : Option Addr) (cp q : Nat) (p2 : Option Addr) (n c2 : Nat) (c : Nat → Int) (x E : Int) (w0 w : World) (_HEQ : Hid (T.q = q)) (HB0 : Hid (Bw w0 w)) (HGF : Hid (GF T n c x E))
    (H3 : Hid (GF T n c x 0 → ∀ wx, Bw w0 wx → Calls Tryz.prog 7 #[.slice p q cp, .slice p2 n c2, .int .i64 x] wx fun e w' => RGO T n c x.toNat wx e w'))
    (H4 : Hid (∀ wx, Bw w0 wx → Calls Tryz.prog 8 #[.slice p q cp, .slice p2 n c2, .int .i64 x] wx fun e w' => GO T n c x wx e w'))
    (H5 : Hid (∀ wx e, Bw w0 wx → Calls Tryz.prog 9 #[errV e, .int .i64 e] wx fun r w' => r = .returned (.bool true) ∧ Bw wx w'))
    (l3 l4 l5 l6 l8 l10 l11 l12 l13 l14 l15 l16 l17 l18 l19 l20 l21 l22 l23 l24 l25 l26 l27 l28 l29 l30 l31 l32 l33 l34 l35 l36 l37 l38 l39 l40 l41 l42 l43 l44 l45 l46 l47 l48 l49 l50 l51 l52 l53 l54 l55 l56 l57 l58 l59 l60 l61 l62 l63 l64 l65 l66 l67 l68 l69 l70 l71 l72 l73 l74 l75 l76 l77 l78 l79 l80 l81 l82 l83 l84 l85 l86 l87 l88 l89 l90 l91 l92 l93 l94 l95 l96 : Value) :
    Code.wp Tryz.prog gtail6C (bodyPost Tryz.prog Tryz.f3 fun e w' => e = .returned (.bool true) ∧ Bw w0 w') ⟨#[.slice p q cp, .slice p2 n c2, .int .i64 x, l3, l4, l5, l6, .int .i64 E, l8, .slice none 0 0, l10, l11, l12, l13, l14, l15, l16, l17, l18, l19, l20, l21, l22, l23, l24, l25, l26, l27, l28, l29, l30, l31, l32, l33, l34, l35, l36, l37, l38, l39, l40, l41, l42, l43, l44, l45, l46, l47, l48, l49, l50, l51, l52, l53, l54, l55, l56, l57, l58, l59, l60, l61, l62, l63, l64, l65, l66, l67, l68, l69, l70, l71, l72, l73, l74, l75, l76, l77, l78, l79, l80, l81, l82, l83, l84, l85, l86, l87, l88, l89, l90, l91, l92, l93, l94, l95, l96], []⟩ w := by
  dsimp only
  conv => arg 2; whnf
  have mixed := mixed
  have tM := tM
  by_cases hE0 : E = 0
  · subst hE0
    have h3 := H3.out HGF.out w HB0.out
    go_upto_region 8 with fail
    refine h3.mono ?_
    clear h3 H3
    rintro e w1 ⟨v', rfl, W', Z', gs', hst', hgp', hgs', hb1⟩
    have HST' : Hid (StN T n c (fun _ => false) Z') := hst'
    have HGP' : Hid (gs'.map Gp.pt = grpL T n c T.q Z') := hgp'
    have HGS' : Hid (GS T n c x.toNat W' v' gs' w1) := hgs'
    have HB1 : Hid (Bw w0 w1) := HB0.out.tr hb1
    have h4 := H4.out w1 HB1.out
    obtain ⟨pg', cg', e'⟩ := hgs'.form
    subst e'
    obtain ⟨gl', hgl'⟩ : ∃ gl', gs'.length = gl' := ⟨_, rfl⟩
    have HGL' : Hid (gs'.length = gl') := hgl'
    rw [hgl'] at HGS' ⊢
    clear hst' hgp' hgs' hb1 H4 hgl'
    go_upto_region 8 with fail
    go_upto_region 9 with fail
    refine h4.mono ?_
    clear h4
    rintro e w2 ⟨⟨er, v, rfl, hgf, -, hyes⟩, hb2⟩
    have her : er = 0 := hgf.one HGF.out
    subst her
    obtain ⟨W, Z, gs, -, hst, hpt, hgs⟩ := hyes rfl
    have hZZ := hst.sole HST'.out
    subst hZZ
    have hps := parts_is hst hpt
    have HPT : Hid (gs.map Gp.pt = gs'.map Gp.pt) := by show _ = _; rw [hps, HGP'.out]; rfl
    have hq60 : T.q ≤ 60 := hgf.zero.1.few
    have hzl : Z.length = T.q := by rw [hst.1.length_eq]; simp
    have hgl60 : gs.length ≤ 60 := by
      have h1 := rgrp_len (T := T) (n := n) (c := c) (q := T.q) Z
      have h2 : gs.length = (grpL T n c T.q Z).length := by rw [← List.length_map (f := Gp.pt), hps]; rfl
      omega
    have hll : gs'.length = gs.length := by rw [← List.length_map (f := Gp.pt), ← HPT.out, List.length_map]
    have HGS : Hid (GS T n c x.toNat W v gs w2) := hgs
    have HGS2 : Hid (GS T n c x.toNat W' (.slice pg' gl' cg') gs' w2) := HGS'.out.next hb2
    have HB2 : Hid (Bw w0 w2) := HB1.out.tr hb2
    obtain ⟨pg, cg, ev⟩ := hgs.form
    have hn12 : n ≤ 12 := hgf.zero.2.1
    have h5 := H5.out w2 0 HB2.out
    subst ev
    have hll2 : gl' = gs.length := HGL'.out.symm.trans hll
    subst hll2
    obtain ⟨gl, hgl⟩ : ∃ gl, gs.length = gl := ⟨_, rfl⟩
    have HGL : Hid (gs.length = gl) := hgl
    rw [hgl] at HGS HGS2 HGL' hgl60 ⊢
    clear hgs hb2 hyes hst hpt hps hgf hll hgl HGS' HST' HGP' H5 HB1 HB0 hzl
    go_upto_region 9 with fail
    go_upto_region 10 with fail
    refine h5.mono ?_
    clear h5
    rintro e w3 ⟨rfl, hb3⟩
    have HG3 : Hid (GS T n c x.toNat W (.slice pg gl cg) gs w3) := HGS.out.next hb3
    have HG4 : Hid (GS T n c x.toNat W' (.slice pg' gl cg') gs' w3) := HGS2.out.next hb3
    have HB3 : Hid (Bw w0 w3) := HB2.out.tr hb3
    clear hb3 HGS HGS2 HB2
    go_wp2_with fail
    go_loopw [13] (fun s13 wr => ∃ i : Nat, s13 = .int .i64 i ∧ i ≤ gl ∧ Hid (Bw w3 wr)) (fun s13 _ => gl - (intOf s13).toNat)
    case atStart => exact ⟨0, rfl, Nat.zero_le _, Below.refl _ _⟩
    case round =>
      obtain ⟨i, rfl, hi, HBR⟩ := hrel
      by_cases hlt : i < gl
      · have hlt' : (i : Int) < (gl : Int) := by omega
        have hi0 : (0 : Int) ≤ (i : Int) := by omega
        have hg1 := HG3.out.next HBR.out
        have hg2 := HG4.out.next HBR.out
        obtain ⟨a, ha⟩ : ∃ a, gs[i]? = some a := ⟨_, List.getElem?_eq_getElem (by rw [HGL.out]; exact hlt)⟩
        obtain ⟨b, hb⟩ : ∃ b, gs'[i]? = some b := ⟨_, List.getElem?_eq_getElem (by rw [HGL'.out]; exact hlt)⟩
        have hab : a.pt = b.pt := by
          have h1 : (gs.map Gp.pt)[i]? = (gs'.map Gp.pt)[i]? := by rw [HPT.out]
          rw [List.getElem?_map, List.getElem?_map, ha, hb] at h1
          simpa using h1
        have k1 := (hg1.keys a (List.mem_of_getElem? ha)).1
        have k2 := (hg2.keys b (List.mem_of_getElem? hb)).1
        have HV : Hid (∀ wx, Bw wr wx → Calls Tryz.prog 10 #[.slice a.p n a.cap, .slice b.p n b.cap] wx fun e w' => e = .returned (.bool true) ∧ Gr wx w') := fun wx hb' => rvals_same a.p n a.cap (gkey T c a) b.p b.cap (gkey T c b) wx (k1.next hb') (k2.next hb') (by omega) (fun j hj => by unfold gkey; rw [hab])
        obtain ⟨ga, ca, e1, hga, hca⟩ := hg1.at (by rw [HGL.out]; omega)
        obtain ⟨gb, cb, e2, hgb, hcb⟩ := hg2.at (by rw [HGL'.out]; omega)
        injection e1 with e1 el1 e1'
        injection e2 with e2 el2 e2'
        clear el1 el2
        subst e1 e1' e2 e2'
        obtain ⟨a0, a1, a2, a3, a4⟩ := hca i a ha
        obtain ⟨b0, b1, b2, b3, b4⟩ := hcb i b hb
        rw [← hab] at b1 b2 b3 b4
        obtain ⟨R, hR⟩ : ∃ R, gsum T x.toNat a.pt = R := ⟨_, rfl⟩
        rw [hR] at a2 a3 a4 b2 b3 b4
        obtain ⟨ln, hln⟩ : ∃ ln, a.pt.length = ln := ⟨_, rfl⟩
        rw [hln] at a1 b1
        clear hR hln hca hcb k1 k2 ha hb hab hg1 hg2
        generalize a.p = pa at *
        generalize a.cap = cpa at *
        generalize b.p = pb at *
        generalize b.cap = cpb at *
        obtain ⟨rk, rn, rs⟩ := R
        dsimp only at a2 a3 a4 b2 b3 b4
        have HMEM : Hid (∀ wx, Bw wr wx → wx.cell? ⟨ga, i * 5 + 1, none⟩ = some (.int .i64 (ln : Nat)) ∧ wx.cell? ⟨ga, i * 5 + 2, none⟩ = some (.int .i64 rk) ∧ wx.cell? ⟨ga, i * 5 + 2 + 1, none⟩ = some (.int .i64 rn) ∧ wx.cell? ⟨ga, i * 5 + 2 + 2, none⟩ = some (.string rs) ∧ wx.cell? ⟨gb, i * 5 + 1, none⟩ = some (.int .i64 (ln : Nat)) ∧ wx.cell? ⟨gb, i * 5 + 2, none⟩ = some (.int .i64 rk) ∧ wx.cell? ⟨gb, i * 5 + 2 + 1, none⟩ = some (.int .i64 rn) ∧ wx.cell? ⟨gb, i * 5 + 2 + 2, none⟩ = some (.string rs)) := fun wx h => ⟨(h.cell (p := ⟨ga, _, none⟩) hga).trans a1, (h.cell (p := ⟨ga, _, none⟩) hga).trans a2, (h.cell (p := ⟨ga, _, none⟩) hga).trans a3, (h.cell (p := ⟨ga, _, none⟩) hga).trans a4, (h.cell (p := ⟨gb, _, none⟩) hgb).trans b1, (h.cell (p := ⟨gb, _, none⟩) hgb).trans b2, (h.cell (p := ⟨gb, _, none⟩) hgb).trans b3, (h.cell (p := ⟨gb, _, none⟩) hgb).trans b4⟩
        have y0 := fun m os => cell_at2 hga a0 m os
        have y1 := fun m os => cell_at2 hgb b0 m os
        have hc := fun m os => HV.out (grow (wr.drewN m) os) (Gr.below ⟨m, os, rfl⟩)
        clear a0 a1 a2 a3 a4 b0 b1 b2 b3 b4 HV hga hgb
        go_upto_region 16 with fail
        go_cut [14] (fun s14 wx => s14 = .bool true ∧ Hid (Bw wr wx))
        case first =>
          go_quiet_grown (first | (go_at_call 10; refine Calls.grown_of (hc _ _)))
          have HB2 : Hid (Bw wr (grow (wr.drewN nq) osq)) := Gr.below ⟨nq, osq, rfl⟩
          clear y0 y1 hc
          generalize grow (wr.drewN nq) osq = w2 at *
          go_wp2_with fail
          go_meet
          case rel => exact ⟨rfl, HB2⟩
        case rest =>
        obtain ⟨rfl, HB4⟩ := hcut
        apply_assumption
        obtain ⟨a1, a2, a3, a4, b1, b2, b3, b4⟩ := HMEM.out wc HB4.out
        have a1q : ∀ m, (wc.drewN m).cell? ⟨ga, i * 5 + 1, none⟩ = some (.int .i64 (ln : Nat)) := fun m => a1
        have a2q : ∀ m, (wc.drewN m).cell? ⟨ga, i * 5 + 2, none⟩ = some (.int .i64 rk) := fun m => a2
        have a3q : ∀ m, (wc.drewN m).cell? ⟨ga, i * 5 + 2 + 1, none⟩ = some (.int .i64 rn) := fun m => a3
        have a4q : ∀ m, (wc.drewN m).cell? ⟨ga, i * 5 + 2 + 2, none⟩ = some (.string rs) := fun m => a4
        have b1q : ∀ m, (wc.drewN m).cell? ⟨gb, i * 5 + 1, none⟩ = some (.int .i64 (ln : Nat)) := fun m => b1
        have b2q : ∀ m, (wc.drewN m).cell? ⟨gb, i * 5 + 2, none⟩ = some (.int .i64 rk) := fun m => b2
        have b3q : ∀ m, (wc.drewN m).cell? ⟨gb, i * 5 + 2 + 1, none⟩ = some (.int .i64 rn) := fun m => b3
        have b4q : ∀ m, (wc.drewN m).cell? ⟨gb, i * 5 + 2 + 2, none⟩ = some (.string rs) := fun m => b4
        have hne : ∀ W, (binOp BinOp.neq 36 (V rk rn rs) (V rk rn rs)).run Tryz.prog W = .ok (.bool false) W := fun W => by rw [neqV]; simp
        clear a1 a2 a3 a4 b1 b2 b3 b4 y0 y1 hc HMEM
        go_wp2_with fail
        go_quiet (fail)
        have HB5 : Hid (Bw w3 (wc.drewN nq)) := (HBR.out.tr HB4.out).tr (Bw.drewN _ _)
        clear a1q a2q a3q a4q b1q b2q b3q b4q HB4 HBR
        generalize wc.drewN nq = w6 at *
        go_wp2_with fail
        exact ⟨⟨i + 1, by simp, hlt, HB5⟩, by simp [intOf]; omega⟩
      · have hlt' : ¬ (i : Int) < (gl : Int) := by omega
        go_wp2_with fail
        go_ret
        exact ⟨rfl, HB3.out.tr HBR.out⟩
  · have hne : (E == 0) = false := by simpa using hE0
    have h4 := H4.out w HB0.out
    go_upto_region 9 with fail
    refine h4.mono ?_
    clear h4
    rintro e w2 ⟨⟨er, v, rfl, hgf, hno, -⟩, hb2⟩
    have her : er = E := hgf.one HGF.out
    subst her
    have hv := hno hE0
    subst hv
    have HB2 : Hid (Bw w0 w2) := HB0.out.tr hb2
    have h5 := H5.out w2 er HB2.out
    clear hb2 hgf hno H5
    go_upto_region 10 with fail
    refine h5.mono ?_
    clear h5
    rintro e w3 ⟨rfl, hb3⟩
    have HB3 : Hid (Bw w0 w3) := HB2.out.tr hb3
    clear hb3
    go_wp2_with fail
    go_loopw [13] (fun s13 wr => s13 = .int .i64 0 ∧ wr = w3) (fun _ _ => 0)
    case atStart => exact ⟨rfl, rfl⟩
    case round =>
      obtain ⟨rfl, rfl⟩ := hrel
      go_wp2_with fail
      go_ret
      exact ⟨rfl, HB3.out⟩
set_option maxRecDepth 1000000 in
set_option maxHeartbeats 16000000 in
theorem groups_any (T : Tb) (p : Option Addr) (cp : Nat) (p2 : Option Addr) (n c2 : Nat) (c : Nat → Int) (x : Int) (w : World) (hT : TM w p T) (hI : IM w p2 n c) (hq : T.q ≤ 9223372036854775807) (hn : n ≤ 4398046511104) (hL : ∀ i, i < T.q → T.L i ≤ 9223372036854775807) (h64 : ∀ i, i < T.q → ∀ j, j < T.L i → B64 (T.v i j).n) (hE : ErrTy w) :
    Calls Tryz.prog 3 #[.slice p T.q cp, .slice p2 n c2, .int .i64 x] w fun e w' => e = .returned (.bool true) ∧ Bw w w' := by
  have H1 := rcolumns_any T p cp p2 n c2 c w hT hI hq (by omega) hL
  have H2 : Hid (∀ wx, Bw w wx → Calls Tryz.prog 6 #[.slice p T.q cp, .int .i64 x] wx fun e w' => RB T x e ∧ w' = wx) := fun wx hb => rcolumn_all T p cp x wx (hT.next hb) hq hL
  have H3 : Hid (GF T n c x 0 → ∀ wx, Bw w wx → Calls Tryz.prog 7 #[.slice p T.q cp, .slice p2 n c2, .int .i64 x] wx fun e w' => RGO T n c x.toNat wx e w') := fun hg wx hb => by
    obtain ⟨hS, hn12, hco, hcx⟩ := hg.zero
    obtain ⟨k, rfl⟩ : ∃ k : Nat, x = (k : Int) := ⟨x.toNat, by have := hcx.1; omega⟩
    rw [Int.toNat_natCast]
    exact rgroup_any T p cp p2 n c2 c k wx (hT.next hb) (hI.next hb) hS hn12 hco hcx h64
  have H4 : Hid (∀ wx, Bw w wx → Calls Tryz.prog 8 #[.slice p T.q cp, .slice p2 n c2, .int .i64 x] wx fun e w' => GO T n c x wx e w') := fun wx hb => group_any T p cp p2 n c2 c x wx (hT.next hb) (hI.next hb) hq hn hL h64
  have H5 : Hid (∀ wx e, Bw w wx → Calls Tryz.prog 9 #[errV e, .int .i64 e] wx fun r w' => r = .returned (.bool true) ∧ Bw wx w') := fun wx e hb => (rsame_any e e wx (errTy_next hE hb)).mono fun r w' h => ⟨by rw [h.1]; simp, h.2⟩
  obtain ⟨q, eq⟩ : ∃ q, T.q = q := ⟨_, rfl⟩
  have HEQ : Hid (T.q = q) := eq
  rw [eq] at H1 H2 H3 H4 ⊢
  clear hT hI hq hn hL h64 hE eq
  have mixed := mixed
  have tM := tM
  go_enter Tryz.func3, Tryz.ntmps3
  go_upto_region 2 with fail
  refine H1.mono ?_
  clear H1
  rintro e w1 ⟨⟨x0, rfl, hcf⟩, hb1⟩
  have HCF : Hid (CF T n c x0) := hcf
  have HB1 : Hid (Bw w w1) := hb1
  have h2 := H2.out w1 hb1
  clear hcf hb1 H2
  go_upto_region 3 with fail
  refine h2.mono ?_
  clear h2
  rintro e w2 ⟨⟨b, rfl, hb⟩, rfl⟩
  have HRB : Hid (b = true ↔ colOk T x) := hb
  clear hb
  by_cases h0 : x0 = 0
  · subst h0
    cases b with
    | true =>
      have HGF : Hid (GF T n c x 0) := .inr ⟨HCF.out, .inr ⟨rfl, HRB.out.1 rfl⟩⟩
      go_upto_region 5 with fail
      go_cut [9] (fun s9 wx => s9 = .slice none 0 0 ∧ wx = w2)
      case first =>
        go_wp2_with fail
        go_meet
        case rel => exact ⟨rfl, rfl⟩
      case rest =>
        obtain ⟨rfl, rfl⟩ := hcut
        apply_assumption
        exact gtail6 T p cp q p2 n c2 c x 0 w wc HEQ HB1 HGF H3 H4 H5 _ _ _ _ _ _ _ _ _ _ _ _ _ _ _ _ _ _ _ _ _ _ _ _ _ _ _ _ _ _ _ _ _ _ _ _ _ _ _ _ _ _ _ _ _ _ _ _ _ _ _ _ _ _ _ _ _ _ _ _ _ _ _ _ _ _ _ _ _ _ _ _ _ _ _ _ _ _ _ _ _ _ _ _ _ _ _ _ _ _ _ _
    | false =>
      have HGF : Hid (GF T n c x 1) := .inr ⟨HCF.out, .inl ⟨rfl, fun h => by have := HRB.out.2 h; cases this⟩⟩
      go_upto_region 5 with fail
      go_cut [9] (fun s9 wx => s9 = .slice none 0 0 ∧ wx = w2)
      case first =>
        go_wp2_with fail
        go_meet
        case rel => exact ⟨rfl, rfl⟩
      case rest =>
        obtain ⟨rfl, rfl⟩ := hcut
        apply_assumption
        exact gtail6 T p cp q p2 n c2 c x 1 w wc HEQ HB1 HGF H3 H4 H5 _ _ _ _ _ _ _ _ _ _ _ _ _ _ _ _ _ _ _ _ _ _ _ _ _ _ _ _ _ _ _ _ _ _ _ _ _ _ _ _ _ _ _ _ _ _ _ _ _ _ _ _ _ _ _ _ _ _ _ _ _ _ _ _ _ _ _ _ _ _ _ _ _ _ _ _ _ _ _ _ _ _ _ _ _ _ _ _ _ _ _ _
  · have h0' : (x0 == 0) = false := by simpa using h0
    have HGF : Hid (GF T n c x x0) := .inl ⟨h0, HCF.out⟩
    go_upto_region 5 with fail
    go_cut [9] (fun s9 wx => s9 = .slice none 0 0 ∧ wx = w2)
    case first =>
      go_wp2_with fail
      go_meet
      case rel => exact ⟨rfl, rfl⟩
    case rest =>
      obtain ⟨rfl, rfl⟩ := hcut
      apply_assumption
      exact gtail6 T p cp q p2 n c2 c x x0 w wc HEQ HB1 HGF H3 H4 H5 _ _ _ _ _ _ _ _ _ _ _ _ _ _ _ _ _ _ _ _ _ _ _ _ _ _ _ _ _ _ _ _ _ _ _ _ _ _ _ _ _ _ _ _ _ _ _ _ _ _ _ _ _ _ _ _ _ _ _ _ _ _ _ _ _ _ _ _ _ _ _ _ _ _ _ _ _ _ _ _ _ _ _ _ _ _ _ _ _ _ _ _
end Go.Proofs.YtbiikodnfaeceaaGreatDoor.so
