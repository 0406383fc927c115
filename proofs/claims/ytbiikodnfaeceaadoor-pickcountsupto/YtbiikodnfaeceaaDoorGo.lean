
/- The law PickCounts, from its loop on. Conditions: as each theorem says. -/
import Derived.Test.YtbiikodnfaeceaaDoorGn
import Derived.Deep.CutBlock
import Derived.Shelf.SlSortCmp.QuietGrown
namespace Go.Proofs.YtbiikodnfaeceaaDoor.so
open Go.RowKit Go.Sort Go.Shelf
theorem cell_at {w : World} {g o : Nat} {v : Value} (hg : g < w.heap.size) (h : w.cell? ⟨g, o, none⟩ = some v) (n : Nat) (os : Array Obj) : (grow (w.drewN n) os).cell? ⟨g, o, none⟩ = some v := by
  have hb : Below w.heap.size w (grow (w.drewN n) os) := Gr.below ⟨n, os, rfl⟩
  rw [hb.cell (p := ⟨g, _, none⟩) hg]
  exact h
/-- How many rows the first so many groups have. -/
def cntP (gs : List Gp) (i : Nat) : Nat := (((gs.map Gp.pt).take i).flatten).length
theorem take_snocG {gs : List Gp} {i : Nat} {x : Gp} (h : gs[i]? = some x) : (gs.map Gp.pt).take (i + 1) = (gs.map Gp.pt).take i ++ [x.pt] := by
  have hi : i < gs.length := (List.getElem?_eq_some_iff.1 h).1
  rw [List.take_succ_eq_append_getElem (by simpa using hi)]
  have : gs[i] = x := (List.getElem?_eq_some_iff.1 h).2
  simp [this]
theorem cntP_succ {gs : List Gp} {i : Nat} {x : Gp} (h : gs[i]? = some x) : cntP gs (i + 1) = cntP gs i + x.pt.length := by
  unfold cntP
  rw [take_snocG h]
  simp
theorem cntP_le (gs : List Gp) (i : Nat) : cntP gs i ≤ ((gs.map Gp.pt).flatten).length := by
  unfold cntP
  conv => rhs; rw [← List.take_append_drop i (gs.map Gp.pt)]
  rw [List.flatten_append, List.length_append]
  omega
theorem cntP_all (gs : List Gp) : cntP gs gs.length = ((gs.map Gp.pt).flatten).length := by
  unfold cntP
  rw [List.take_of_length_le (by simp)]
noncomputable def tail9C : Code := ((Tryd.f3.body.bind (findSeq 9)).getD .skip)
set_option maxRecDepth 1000000 in
set_option maxHeartbeats 16000000 in
theorem tail9 (T : Tb) (p : Option Addr) (cp q : Nat) (p2 : Option Addr) (n c2 : Nat) (c : Nat → Int) (k bS : Nat) (pg : Option Addr) (gl cg : Nat) (gs : List Gp) (Z : List Nat) (W w0 wb w : World) (HEQ : Hid (T.q = q)) (HT : Hid (TM wb p T)) (HS : Hid (Snd T)) (HX : Hid (colOk T (k : Int))) (H64 : Hid (∀ i, i < T.q → ∀ j, j < T.L i → B64 (T.v i j).n)) (hn12 : n ≤ 12) (HST : Hid (StN T n c (fun _ => false) Z)) (HPT : Hid (Pt (alT T n c) Z (gs.map Gp.pt))) (HGS : Hid (GS T n c k W (.slice pg gl cg) gs wb)) (HGL : Hid (gs.length = gl)) (HSM : Hid (w.heap[bS]? = some (.cells #[.int .i64 1, .int .i64 0, .string nul] 30 (0, 0)))) (hbS : wb.heap.size ≤ bS) (HBW : Hid (Bw wb w)) (HB0 : Hid (Bw w0 wb))
    (l3 l4 l5 l6 l7 l8 l10 l13 l14 l15 l16 l17 l18 l19 l20 l21 l22 l23 l24 l25 l26 l27 l28 l29 l30 l31 l32 l33 l34 l35 l36 l37 l38 l39 l40 l41 l42 l43 l44 l45 l46 l47 l48 l49 l50 l51 l52 l53 l54 l55 l56 l57 l58 l59 l60 l61 l62 l63 l64 l65 l66 l67 l68 l69 l70 l71 l72 l73 l74 l75 l76 l77 l78 l79 l80 l81 l82 l83 l84 l85 l86 l87 l88 l89 l90 l91 l92 l93 l94 l95 l96 l97 l98 l99 l100 l101 l102 l103 l104 l105 l106 l107 l108 l109 l110 l111 l112 l113 l114 l115 l116 l117 l118 l119 l120 l121 l122 l123 l124 l125 l126 l127 l128 l129 l130 l131 l132 l133 l134 l135 l136 l137 l138 l139 l140 l141 l142 l143 l144 l145 l146 l147 l148 l149 l150 l151 l152 l153 l154 l155 l156 l157 l158 l159 l160 l161 l162 l163 l164 l165 l166 l167 l168 l169 l170 l171 l172 l173 l174 : Value) :
    Code.wp Tryd.prog tail9C (bodyPost Tryd.prog Tryd.f3 fun e w' => e = .returned (.bool true) ∧ Bw w0 w') ⟨#[.slice p q cp, .slice p2 n c2, .int .i64 (k : Int), l3, l4, l5, l6, l7, l8, .slice pg gl cg, l10, .int .i64 0, .pointer (some ⟨bS, 0, none⟩), l13, l14, l15, l16, l17, l18, l19, l20, l21, l22, l23, l24, l25, l26, l27, l28, l29, l30, l31, l32, l33, l34, l35, l36, l37, l38, l39, l40, l41, l42, l43, l44, l45, l46, l47, l48, l49, l50, l51, l52, l53, l54, l55, l56, l57, l58, l59, l60, l61, l62, l63, l64, l65, l66, l67, l68, l69, l70, l71, l72, l73, l74, l75, l76, l77, l78, l79, l80, l81, l82, l83, l84, l85, l86, l87, l88, l89, l90, l91, l92, l93, l94, l95, l96, l97, l98, l99, l100, l101, l102, l103, l104, l105, l106, l107, l108, l109, l110, l111, l112, l113, l114, l115, l116, l117, l118, l119, l120, l121, l122, l123, l124, l125, l126, l127, l128, l129, l130, l131, l132, l133, l134, l135, l136, l137, l138, l139, l140, l141, l142, l143, l144, l145, l146, l147, l148, l149, l150, l151, l152, l153, l154, l155, l156, l157, l158, l159, l160, l161, l162, l163, l164, l165, l166, l167, l168, l169, l170, l171, l172, l173, l174], []⟩ w := by
  dsimp only
  conv => arg 2; whnf
  have mixed := mixed
  have hq60 : q ≤ 60 := by rw [← HEQ.out]; exact HS.out.few
  have HFL : Hid ((gs.map Gp.pt).flatten = Z) := HPT.out.flat
  have hZq : Z.length = q := by rw [← HEQ.out, HST.out.1.length_eq]; simp
  have HCL : Hid (∀ i, cntP gs i ≤ 60) := fun i => by have := cntP_le gs i; rw [HFL.out] at this; omega
  have HPL : Hid (∀ (i : Nat) (x : Gp), gs[i]? = some x → x.pt.length ≤ 60 ∧ 1 ≤ x.pt.length ∧ ∀ j ∈ x.pt, j < T.q) := fun i x hx => by
    have hm : x.pt ∈ gs.map Gp.pt := List.mem_map.2 ⟨x, List.mem_of_getElem? hx, rfl⟩
    have h1 := cntP_succ hx
    have h2 := HCL.out (i + 1)
    refine ⟨by omega, HPT.out.ne _ hm, fun j hj => List.mem_range.1 (HST.out.1.mem_iff.1 (by rw [← HFL.out]; exact List.mem_flatten.2 ⟨_, hm, hj⟩))⟩
  have HK64 : Hid (∀ i, i < T.q → B64 (T.v i k).n) := fun i hi => H64.out i hi k (by
    have := (HS.out.col HX.out hi).2.2.1
    simpa using this)
  have HSO : Hid (∀ i, Ok3 (fS T k ((gs.map Gp.pt).take i))) := fun i => fS_ok (fun pt hpt j hj => HK64.out j (List.mem_range.1 (HST.out.1.mem_iff.1 (by rw [← HFL.out]; exact List.mem_flatten.2 ⟨pt, List.mem_of_mem_take hpt, hj⟩))))
  have hgl60 : gl ≤ 60 := by
    have h1 : ∀ (l : List (List Nat)), (∀ x ∈ l, 1 ≤ x.length) → l.length ≤ l.flatten.length := by
      intro l
      induction l with
      | nil => intro _; simp
      | cons a l ih => intro h; have := ih (fun x hx => h x (by simp [hx])); have := h a (by simp); rw [List.flatten_cons, List.length_append, List.length_cons]; omega
    have := h1 _ HPT.out.ne
    rw [HFL.out, List.length_map, HGL.out] at this
    omega
  let BPX := bodyPost Tryd.prog Tryd.f3 (fun _ _ => True)
  go_upto_block 0 with fail
  go_cut [11] (fun s11 wx => s11 = .int .i64 (q : Int) ∧ Hid (wx.heap[bS]? = some (.cells #[.int .i64 (fS T k (gs.map Gp.pt)).k, .int .i64 (fS T k (gs.map Gp.pt)).n, .string (fS T k (gs.map Gp.pt)).s] 30 (0, 0))) ∧ Hid (Bw wb wx))
  case rest =>
    obtain ⟨rfl, HSM2, HBW2⟩ := hcut
    apply_assumption
    exact tail24 T p cp q k bS Z (gs.map Gp.pt) w0 wc HEQ (HT.out.next HBW2.out) HS HX H64 HST.out.1 HFL HSM2 (HB0.out.tr HBW2.out) _ _ _ _ _ _ _ _ _ _ _ _ _ _ _ _ _ _ _ _ _ _ _ _ _ _ _ _ _ _ _ _ _ _ _ _ _ _ _ _ _ _ _ _ _ _ _ _ _ _ _ _ _ _ _ _ _ _ _ _ _ _ _ _ _ _ _ _ _ _ _ _ _ _ _ _ _ _ _ _ _ _ _ _ _ _ _ _ _ _ _ _ _ _ _ _ _ _ _ _ _ _ _ _ _ _ _ _ _ _ _ _ _ _ _ _ _ _ _ _ _ _ _ _ _ _ _ _ _ _ _ _ _ _ _ _ _ _ _ _ _ _ _ _ _ _ _ _ _ _ _ _ _ _ _ _ _ _ _ _ _ _ _ _ _ _ _ _ _ _ _
  case first =>
    go_wp2_with fail
    go_loopw [11, 13] (fun s11 s13 wr => ∃ i : Nat, s13 = .int .i64 i ∧ i ≤ gl ∧ s11 = .int .i64 (cntP gs i : Nat) ∧ Hid (wr.heap[bS]? = some (.cells #[.int .i64 (fS T k ((gs.map Gp.pt).take i)).k, .int .i64 (fS T k ((gs.map Gp.pt).take i)).n, .string (fS T k ((gs.map Gp.pt).take i)).s] 30 (0, 0))) ∧ Hid (Bw wb wr)) (fun _ s13 _ => gl - (intOf s13).toNat)
    case atStart => exact ⟨0, rfl, Nat.zero_le _, rfl, HSM, HBW⟩
    case round =>
      obtain ⟨i, rfl, hi, rfl, HSM1, HBW1⟩ := hrel
      clear HSM HBW
      by_cases hlt : i < gl
      · obtain ⟨x, hx⟩ : ∃ x, gs[i]? = some x := ⟨_, List.getElem?_eq_getElem (by rw [HGL.out]; exact hlt)⟩
        have HXX : Hid (gs[i]? = some x) := hx
        obtain ⟨gb, cc', e, hgb, hcl⟩ := (HGS.out.next HBW1.out).gm (by rw [HGL.out]; omega)
        obtain ⟨rfl, -, rfl⟩ : pg = some ⟨gb, 0, none⟩ ∧ gl = gs.length ∧ cg = cc' := by injection e with e1 e2 e3; exact ⟨e1, e2, e3⟩
        have y0 : wr.cell? ⟨gb, i * 5, none⟩ = some (.slice x.p n x.cap) := by have := hcl i x hx 0 (by omega); simpa [g5] using this
        have y1 : wr.cell? ⟨gb, i * 5 + 1, none⟩ = some (.int .i64 (x.pt.length : Nat)) := by have := hcl i x hx 1 (by omega); simpa [g5] using this
        have y2 : wr.cell? ⟨gb, i * 5 + 2, none⟩ = some (.int .i64 (gsum T k x.pt).k) := by have := hcl i x hx 2 (by omega); simpa [g5] using this
        have y3 : wr.cell? ⟨gb, i * 5 + 2 + 1, none⟩ = some (.int .i64 (gsum T k x.pt).n) := by have := hcl i x hx 3 (by omega); simpa [g5] using this
        have y4 : wr.cell? ⟨gb, i * 5 + 2 + 2, none⟩ = some (.string (gsum T k x.pt).s) := by have := hcl i x hx 4 (by omega); simpa [g5] using this
        obtain ⟨hp60, hp1, hpm⟩ := HPL.out i x hx
        have hc60 := HCL.out i
        have HTW : Hid (∀ wx, Calls Tryd.prog 6 #[.int .i64 8, V (fS T k ((gs.map Gp.pt).take i)).k (fS T k ((gs.map Gp.pt).take i)).n (fS T k ((gs.map Gp.pt).take i)).s, V (gsum T k x.pt).k (gsum T k x.pt).n (gsum T k x.pt).s] wx fun e w' => e = .returned (V (fS T k ((gs.map Gp.pt).take (i + 1))).k (fS T k ((gs.map Gp.pt).take (i + 1))).n (fS T k ((gs.map Gp.pt).take (i + 1))).s) ∧ Below wx.heap.size wx w') := fun wx => by
          have o1 := HSO.out i
          have o2 : Ok3 (gsum T k x.pt) := gsum_ok (fun j hj => HK64.out j (hpm j hj))
          rw [take_snocG hx, fS_snoc]
          exact ptwo8 _ _ _ _ _ _ wx o1.1 o2.1 o1.2 o2.2
        have HCN : Hid (cntP gs (i + 1) = cntP gs i + x.pt.length) := cntP_succ hx
        clear hcl e hpm hx
        obtain ⟨sv, hsv⟩ : ∃ s, fS T k ((gs.map Gp.pt).take i) = s := ⟨_, rfl⟩
        obtain ⟨tv, htv⟩ : ∃ s, fS T k ((gs.map Gp.pt).take (i + 1)) = s := ⟨_, rfl⟩
        obtain ⟨rv, hrv⟩ : ∃ s, gsum T k x.pt = s := ⟨_, rfl⟩
        have HTV : Hid (fS T k ((gs.map Gp.pt).take (i + 1)) = tv) := htv
        rw [hsv] at HTW HSM1
        rw [htv] at HTW
        rw [hrv] at HTW y2 y3 y4
        clear hsv htv hrv
        obtain ⟨sk, sn, ss⟩ := sv
        obtain ⟨tk, tn', ts⟩ := tv
        obtain ⟨rk, rn, rs⟩ := rv
        dsimp only at HTW HSM1 y2 y3 y4
        have HYY : Hid (Bw wb wr) := HBW1
        obtain ⟨xl, hxl⟩ : ∃ l, x.pt.length = l := ⟨_, rfl⟩
        obtain ⟨cn, hcn⟩ : ∃ l, cntP gs i = l := ⟨_, rfl⟩
        rw [hxl] at y1 hp60 hp1 HCN
        rw [hcn] at hc60 HCN ⊢
        clear hxl hcn
        have hlt' : (i : Int) < (gl : Int) := by omega
        have hi0 : (0 : Int) ≤ (i : Int) := by omega
        have hc1 : ¬ (xl : Int) < 1 := by omega
        have hc2 : decide ((xl : Int) < 1) = false := by simp; omega
        go_upto_region 15 with fail
        go_cut [] (fun wx => Hid (wx.heap[bS]? = some (.cells #[.int .i64 tk, .int .i64 tn', .string ts] 30 (0, 0))) ∧ Hid (Bw wb wx))
        case first =>
          obtain ⟨⟨c0, c1, c2'⟩, f0, f1, f2⟩ := cells3 HSM1.out
          have hbl := lt_of_blk HSM1.out
          go_region_with (first | (go_at_call 6; refine (HTW.out _).mono ?_; rintro e w3 ⟨rfl, hb3⟩; have hT3 : w3.heap[bS]? = some (.cells #[.int .i64 sk, .int .i64 sn, .string ss] 30 (0, 0)) := (hb3.block _ hbl).trans HSM1.out; have hB3 : Bw wb w3 := bnext HBW1.out.drew hb3 HBW1.out.drew.size; obtain ⟨⟨d0, d1, d2⟩, e0, e1, e2⟩ := cells3 hT3))
          all_goals
            go_wp2_with fail
            go_meet
            case rel =>
              obtain ⟨w4, hw4, hq4, hk4, -, -⟩ := oset3 hT3 (.int .i64 tk) (.int .i64 tn') (.string ts)
              rw [hw4]
              exact ⟨hq4, hB3.trans (hk4 _ hbS)⟩
        case rest =>
          obtain ⟨HSM2, HBW2⟩ := hcut
          apply_assumption
          clear y0 y1 y2 y3 y4 hgb HTW HSM1 HBW1 HYY
          by_cases hiz : i = 0
          · subst hiz
            go_wp2_with fail
            exact ⟨⟨1, rfl, by omega, by rw [HCN.out]; simp, by show _ = _; rw [HTV.out]; exact HSM2.out, HBW2⟩, by simp [intOf]; omega⟩
          · obtain ⟨i', rfl⟩ : ∃ i', i = i' + 1 := ⟨i - 1, by omega⟩
            obtain ⟨x', hx'⟩ : ∃ x', gs[i']? = some x' := ⟨_, List.getElem?_eq_getElem (by rw [HGL.out]; omega)⟩
            have hrise := HPT.out.rise HST.out.2 i' (by rw [List.length_map, HGL.out]; exact hlt)
            have e1 : (gs.map Gp.pt).getD i' [] = x'.pt := by rw [List.getD_eq_getElem?_getD, List.getElem?_map, hx']; rfl
            have e2 : (gs.map Gp.pt).getD (i' + 1) [] = x.pt := by rw [List.getD_eq_getElem?_getD, List.getElem?_map, HXX.out]; rfl
            rw [e1, e2] at hrise
            have hCR := rise_lt hrise.1 hrise.2
            clear e1 e2 hrise
            have hkA := (HGS.out.keys x' (List.mem_of_getElem? hx')).1
            have hkB := (HGS.out.keys x (List.mem_of_getElem? HXX.out)).1
            have HKA : Hid (VM wb x'.p n (fun j => T.v (x'.pt.headD 0) (c j).toNat)) := hkA
            have HKB : Hid (VM wb x.p n (fun j => T.v (x.pt.headD 0) (c j).toNat)) := hkB
            obtain ⟨gb', cc2, e, hgb', hcl⟩ := HGS.out.gm (by rw [HGL.out]; omega)
            obtain rfl : gb' = gb := by injection e with e1 e2 e3; injection e1 with e1; injection e1 with e1 _; exact e1.symm
            have k0 : wb.cell? ⟨gb', (i' + 1) * 5, none⟩ = some (.slice x.p n x.cap) := by have := hcl (i' + 1) x HXX.out 0 (by omega); simpa [g5] using this
            have k1 : wb.cell? ⟨gb', i' * 5, none⟩ = some (.slice x'.p n x'.cap) := by have := hcl i' x' hx' 0 (by omega); simpa [g5] using this
            have HKC : Hid (∀ wx, Bw wb wx → wx.cell? ⟨gb', (i' + 1) * 5, none⟩ = some (.slice x.p n x.cap) ∧ wx.cell? ⟨gb', i' * 5, none⟩ = some (.slice x'.p n x'.cap) ∧ gb' < wx.heap.size) := fun wx hb => ⟨(hb.cell (p := ⟨gb', _, none⟩) hgb').trans k0, (hb.cell (p := ⟨gb', _, none⟩) hgb').trans k1, Nat.lt_of_lt_of_le hgb' hb.size⟩
            clear e hgb' hcl k0 k1 hkA hkB
            generalize T.v (x'.pt.headD 0) = A at *
            generalize T.v (x.pt.headD 0) = B at *
            obtain ⟨CR, hcr⟩ : ∃ CR, crw A B c (fun _ => false) n 0 = CR := ⟨_, rfl⟩
            have HCR : Hid (crw A B c (fun _ => false) n 0 = CR) := hcr
            rw [hcr] at hCR
            clear hcr hx'
            generalize x.p = px at *
            generalize x.cap = cx at *
            generalize x'.p = px' at *
            generalize x'.cap = cx' at *
            have ea : ((i' : Int) + 1).toNat = i' + 1 := by omega
            have pa : (0 : Int) ≤ (i' : Int) + 1 := by omega
            have ba : (i' : Int) + 1 < (gl : Int) := by omega
            have ra : IntKind.i64.wrap ((i' : Int) + 1) = (i' : Int) + 1 := by rw [IntKind.wrap_i64]; omega
            have pc : (0 : Int) ≤ (i' : Int) := by omega
            have bc : (i' : Int) < (gl : Int) := by omega
            have rc : IntKind.i64.wrap (i' : Int) = (i' : Int) := by rw [IntKind.wrap_i64]; omega
            have hne0 : (((i' : Int) + 1) == 0) = false := by simp; omega
            have hne1 : ¬ (i' : Int) + 1 = 0 := by omega
            go_wp2_with fail
            go_loopw [14, 15] (fun s14 s15 wr2 => ∃ (kk : Nat) (cc : Int), s15 = .int .i64 kk ∧ s14 = .int .i64 cc ∧ kk ≤ n ∧ Hid (wr2.heap[bS]? = some (.cells #[.int .i64 tk, .int .i64 tn', .string ts] 30 (0, 0))) ∧ Hid (Bw wb wr2) ∧ Hid ((cc = 0 ∧ crw A B c (fun _ => false) (n - kk) kk = CR) ∨ (cc ≠ 0 ∧ cc = CR))) (fun _ s15 _ => n - (intOf s15).toNat)
            case atStart => exact ⟨0, 0, rfl, rfl, Nat.zero_le _, HSM2, HBW2, .inl ⟨rfl, HCR.out⟩⟩
            case round =>
              obtain ⟨kk, cc, rfl, rfl, hkk, HSM3, HBW3, HD⟩ := hrel
              clear HSM2 HBW2
              by_cases hgo : kk < n ∧ cc = 0
              · obtain ⟨hkn, rfl⟩ := hgo
                have hkn' : (kk : Int) < (n : Int) := by omega
                have hk0 : (0 : Int) ≤ (kk : Int) := by omega
                obtain ⟨x1, x2, hgx⟩ := HKC.out wr HBW3.out
                have x1q := fun m os => cell_at hgx x1 m os
                have x2q := fun m os => cell_at hgx x2 m os
                rcases HKA.out.next HBW3.out with h | ⟨ga, oa, rfl, hga, ha⟩
                · omega
                rcases HKB.out.next HBW3.out with h | ⟨gc, oc, rfl, hgc, hb⟩
                · omega
                have z1 := fun m os => (vm_at hga ha (i := kk) hkn m os).1
                have z2 := fun m os => (vm_at hga ha (i := kk) hkn m os).2.1
                have z3 := fun m os => (vm_at hga ha (i := kk) hkn m os).2.2
                have v1 := fun m os => (vm_at hgc hb (i := kk) hkn m os).1
                have v2 := fun m os => (vm_at hgc hb (i := kk) hkn m os).2.1
                have v3 := fun m os => (vm_at hgc hb (i := kk) hkn m os).2.2
                have hc := fun m os => vcmp_gr (A (c kk).toNat) (B (c kk).toNat) (grow (wr.drewN m) os)
                obtain ⟨Q, hQ⟩ : ∃ Q, (A (c kk).toNat).cmp (B (c kk).toNat) = Q := ⟨_, rfl⟩
                have HQ : Hid ((A (c kk).toNat).cmp (B (c kk).toNat) = Q) := hQ
                obtain ⟨va, hva⟩ : ∃ va, A (c kk).toNat = va := ⟨_, rfl⟩
                obtain ⟨vb, hvb⟩ : ∃ vb, B (c kk).toNat = vb := ⟨_, rfl⟩
                simp only [hQ] at hc
                simp only [hva] at hc z1 z2 z3
                simp only [hvb] at hc v1 v2 v3
                clear hQ hva hvb ha hb hga hgc hgx x1 x2
                obtain ⟨ak, an, ast⟩ := va
                obtain ⟨bk', bn, bst⟩ := vb
                dsimp only at z1 z2 z3 v1 v2 v3 hc
                go_wp2_with fail
                go_quiet_grown (first | (go_at_call 7; refine Calls.grown_of (hc _ _)))
                have HB4 : Hid (Bw wb (grow (wr.drewN nq) osq)) := HBW3.out.tr (Gr.below ⟨nq, osq, rfl⟩)
                have HM4 : Hid ((grow (wr.drewN nq) osq).heap[bS]? = some (.cells #[.int .i64 tk, .int .i64 tn', .string ts] 30 (0, 0))) := bk HSM3.out (Gr.below ⟨nq, osq, rfl⟩)
                clear x1q x2q z1 z2 z3 v1 v2 v3 hc HBW3 HSM3
                generalize grow (wr.drewN nq) osq = w2 at *
                have HN : Hid ((Q = 0 ∧ crw A B c (fun _ => false) (n - (kk + 1)) (kk + 1) = CR) ∨ (Q ≠ 0 ∧ Q = CR)) := by
                  have h1 : crw A B c (fun _ => false) (n - kk) kk = CR := by
                    rcases HD.out with h | h
                    · exact h.2
                    · exact absurd rfl h.1
                  rw [show n - kk = (n - (kk + 1)) + 1 by omega, crw] at h1
                  have e0 : sg false ((A (c kk).toNat).cmp (B (c kk).toNat)) = Q := HQ.out
                  rw [e0] at h1
                  by_cases hz : Q = 0
                  · rw [if_pos hz] at h1; exact .inl ⟨hz, h1⟩
                  · rw [if_neg hz] at h1; exact .inr ⟨hz, h1⟩
                go_wp2_with fail
                exact ⟨⟨kk + 1, Q, by simp, rfl, hkn, HM4, HB4, HN⟩, by simp [intOf]; omega⟩
              · have hCC : cc = CR := by
                  rcases HD.out with h | h
                  · have hkn : kk = n := by
                      rcases Nat.lt_or_ge kk n with h' | h'
                      · exact absurd ⟨h', h.1⟩ hgo
                      · omega
                    rw [h.1, ← h.2, hkn, Nat.sub_self]
                    rfl
                  · exact h.2
                have hneg : cc < 0 := by omega
                have hge : ¬ cc ≥ 0 := by omega
                have hge2 : decide (cc ≥ 0) = false := decide_eq_false hge
                have hcz : (cc == 0) = false := by simp; omega
                clear hCC HD hgo
                by_cases hkn : kk < n
                · have hkn' : (kk : Int) < (n : Int) := by omega
                  go_wp2_with fail
                  exact ⟨⟨i' + 1 + 1, by simp, by omega, by rw [HCN.out]; simp, by show _ = _; rw [HTV.out]; exact HSM3.out, HBW3⟩, by simp [intOf]; omega⟩
                · have hkn' : ¬ (kk : Int) < (n : Int) := by omega
                  go_wp2_with fail
                  exact ⟨⟨i' + 1 + 1, by simp, by omega, by rw [HCN.out]; simp, by show _ = _; rw [HTV.out]; exact HSM3.out, HBW3⟩, by simp [intOf]; omega⟩
      · have hlt' : ¬ (i : Int) < (gl : Int) := by omega
        have hil : i = gl := by omega
        have HE1 : Hid ((cntP gs i : Nat) = q) := by show _ = _; rw [hil, ← HGL.out, cntP_all, HFL.out]; exact hZq
        have HE2 : Hid ((gs.map Gp.pt).take i = gs.map Gp.pt) := by show _ = _; rw [List.take_of_length_le]; rw [List.length_map, HGL.out]; omega
        clear hil
        go_wp2_with fail
        go_meet
        case rel =>
          have h := HSM1.out
          rw [HE2.out] at h
          exact ⟨by rw [HE1.out], h, HBW1⟩
end Go.Proofs.YtbiikodnfaeceaaDoor.so
