
/- The law FormatWide, whole, by what Wide, Column and Number answer. Conditions: as each theorem says. -/
import Derived.Test.YtnelglmbckgbgaaDoorFwe
namespace Go.Proofs.YtnelglmbckgbgaaDoor.fw
open Go.RowKit Go.Sort
/-- What Column answers. -/
def coB (c : Int) : Bool := decide (1 ≤ c) && decide (c ≤ 1000000)
def coE (c : Int) : Int := if coB c = true then 0 else 1
def coT (c : Int) : ByteArray := if coB c = true then txt (letL c.toNat) else ⟨#[]⟩
/-- What Wide answers. -/
def wiB (wide side : Int) : Bool := decide (0 ≤ wide) && decide (wide ≤ 200) && decide (0 ≤ side) && decide (side ≤ 2)
def wiE (wide side : Int) : Int := if wiB wide side = true then 0 else 1
def wiT (s : ByteArray) (wide side : Int) : ByteArray := if wiB wide side = true then txt (wideL s.toList wide.toNat side) else ⟨#[]⟩
noncomputable def wtail15C : Code := ((Tryd.f3.body.bind (findSeq 15)).getD .skip)
set_option maxRecDepth 1000000 in
set_option maxHeartbeats 8000000 in
theorem wtail15 (s t : ByteArray) (col e : Int) (w0 w : World) (hs : s.size ≤ 140737488351232) (HB : Hid (Bw w0 w)) (HN : Hid (∀ wx, Bw w0 wx → Calls Tryd.prog 10 #[.string s] wx fun r w' => r = .returned (.tuple #[.int .i64 (nmN s.toList), errV (nmE s.toList)]) ∧ Bw wx w')) (HE : Hid (∀ wx e, Bw w0 wx → Calls Tryd.prog 7 #[errV e, .int .i64 e] wx fun r w' => r = .returned (.bool true) ∧ Bw wx w')) (HC : Hid (∀ wx, Bw w0 wx → Calls Tryd.prog 9 #[.int .i64 col] wx fun r w' => r = .returned (.tuple #[.string t, errV e]) ∧ Bw wx w'))
    (l1 l2 l4 l5 l6 l7 l8 l11 l12 l13 l14 l15 l16 l17 l18 l19 l20 l21 l22 l23 l24 l25 l26 l27 l28 l29 l30 l31 l32 l33 l34 l35 l36 l37 l38 l39 l40 l41 l42 l43 l44 l45 l46 l47 l48 l49 l50 l51 l52 l53 l54 l55 l56 l57 l58 l59 l60 l61 l62 l63 l64 l65 l66 l67 l68 l69 l70 l71 l72 l73 l74 l75 l76 l77 l78 l79 l80 l81 l82 l83 l84 l85 l86 l87 l88 l89 l90 l91 l92 l93 l94 l95 l96 l97 l98 l99 l100 l101 l102 l103 l104 l105 l106 l107 l108 l109 l110 l111 l112 l113 l114 l115 l116 l117 l118 l119 l120 l121 l122 l123 l124 l125 l126 l127 l128 : Value) :
    Code.wp Tryd.prog wtail15C (bodyPost Tryd.prog Tryd.f3 fun e w' => e = .returned (.bool true) ∧ Bw w0 w') ⟨#[.string s, l1, l2, .int .i64 col, l4, l5, l6, l7, l8, .int .i64 e, .string t, l11, l12, l13, l14, l15, l16, l17, l18, l19, l20, l21, l22, l23, l24, l25, l26, l27, l28, l29, l30, l31, l32, l33, l34, l35, l36, l37, l38, l39, l40, l41, l42, l43, l44, l45, l46, l47, l48, l49, l50, l51, l52, l53, l54, l55, l56, l57, l58, l59, l60, l61, l62, l63, l64, l65, l66, l67, l68, l69, l70, l71, l72, l73, l74, l75, l76, l77, l78, l79, l80, l81, l82, l83, l84, l85, l86, l87, l88, l89, l90, l91, l92, l93, l94, l95, l96, l97, l98, l99, l100, l101, l102, l103, l104, l105, l106, l107, l108, l109, l110, l111, l112, l113, l114, l115, l116, l117, l118, l119, l120, l121, l122, l123, l124, l125, l126, l127, l128], []⟩ w := by
  dsimp only
  conv => arg 2; whnf
  let BPX := bodyPost Tryd.prog Tryd.f3 (fun _ _ => True)
  have hn := HC.out w HB.out
  clear HC
  obtain ⟨ev, hev⟩ : ∃ ev, errV e = ev := ⟨_, rfl⟩
  have he0 := HE.out
  have HEV : Hid (errV e = ev) := hev
  rw [hev] at hn
  clear hev he0
  go_upto_region 16 with fail
  refine hn.mono ?_
  clear hn
  rintro r w1 ⟨rfl, hb1⟩
  have HB1 : Hid (Bw w0 w1) := HB.out.tr hb1
  have he := HE.out w1 e HB1.out
  rw [HEV.out] at he
  clear hb1 HB
  go_upto_region 16 with fail
  go_upto_region 17 with fail
  refine he.mono ?_
  clear he
  rintro r w2 ⟨rfl, hb2⟩
  have HB2 : Hid (Bw w0 w2) := HB1.out.tr hb2
  clear hb2 HB1
  go_upto_region 17 with fail
  go_cut [75] (fun sx wx => sx = .bool false ∧ wx = w2)
  case first =>
    go_wp2_with fail
    go_meet
    case rel => exact ⟨by simp, rfl⟩
  case rest =>
  obtain ⟨rfl, rfl⟩ := hcut
  apply_assumption
  refine wp_cond_false (by simp [Act.eval]) ?_
  refine wp_skip ?_
  apply_assumption
  exact wtail19 s w0 wc hs HB2 HN HE _ _ _ _ _ _ _ _ _ _ _ _ _ _ _ _ _ _ _ _ _ _ _ _ _ _ _ _ _ _ _ _ _ _ _ _ _ _ _ _ _ _ _ _ _ _ _ _ _ _ _ _ _ _ _ _ _ _ _ _ _ _ _ _ _ _ _ _ _ _ _ _ _ _ _ _ _ _ _ _ _ _ _ _ _ _ _ _ _ _ _ _ _ _ _ _ _ _ _ _ _ _ _ _ _ _ _ _ _ _ _ _ _ _ _ _ _ _ _ _ _ _ _ _ _ _ _ _
noncomputable def wtail10C : Code := ((Tryd.f3.body.bind (findSeq 10)).getD .skip)
set_option maxRecDepth 1000000 in
set_option maxHeartbeats 8000000 in
theorem wtail10 (s : ByteArray) (col : Int) (w0 w : World) (hs : s.size ≤ 140737488351232) (HB : Hid (Bw w0 w)) (HN : Hid (∀ wx, Bw w0 wx → Calls Tryd.prog 10 #[.string s] wx fun e w' => e = .returned (.tuple #[.int .i64 (nmN s.toList), errV (nmE s.toList)]) ∧ Bw wx w')) (HE : Hid (∀ wx e, Bw w0 wx → Calls Tryd.prog 7 #[errV e, .int .i64 e] wx fun r w' => r = .returned (.bool true) ∧ Bw wx w')) (HC : Hid (∀ wx, Bw w0 wx → Calls Tryd.prog 9 #[.int .i64 col] wx fun r w' => r = .returned (.tuple #[.string (coT col), errV (coE col)]) ∧ Bw wx w'))
    (l1 l2 l4 l5 l6 l7 l8 l9 l10 l11 l12 l13 l14 l15 l16 l17 l18 l19 l20 l21 l22 l23 l24 l25 l26 l27 l28 l29 l30 l31 l32 l33 l34 l35 l36 l37 l38 l39 l40 l41 l42 l43 l44 l45 l46 l47 l48 l49 l50 l51 l52 l53 l54 l55 l56 l57 l58 l59 l60 l61 l62 l63 l64 l65 l66 l67 l68 l69 l70 l71 l72 l73 l74 l75 l76 l77 l78 l79 l80 l81 l82 l83 l84 l85 l86 l87 l88 l89 l90 l91 l92 l93 l94 l95 l96 l97 l98 l99 l100 l101 l102 l103 l104 l105 l106 l107 l108 l109 l110 l111 l112 l113 l114 l115 l116 l117 l118 l119 l120 l121 l122 l123 l124 l125 l126 l127 l128 : Value) :
    Code.wp Tryd.prog wtail10C (bodyPost Tryd.prog Tryd.f3 fun e w' => e = .returned (.bool true) ∧ Bw w0 w') ⟨#[.string s, l1, l2, .int .i64 col, l4, l5, l6, l7, l8, l9, l10, l11, l12, l13, l14, l15, l16, l17, l18, l19, l20, l21, l22, l23, l24, l25, l26, l27, l28, l29, l30, l31, l32, l33, l34, l35, l36, l37, l38, l39, l40, l41, l42, l43, l44, l45, l46, l47, l48, l49, l50, l51, l52, l53, l54, l55, l56, l57, l58, l59, l60, l61, l62, l63, l64, l65, l66, l67, l68, l69, l70, l71, l72, l73, l74, l75, l76, l77, l78, l79, l80, l81, l82, l83, l84, l85, l86, l87, l88, l89, l90, l91, l92, l93, l94, l95, l96, l97, l98, l99, l100, l101, l102, l103, l104, l105, l106, l107, l108, l109, l110, l111, l112, l113, l114, l115, l116, l117, l118, l119, l120, l121, l122, l123, l124, l125, l126, l127, l128], []⟩ w := by
  dsimp only
  conv => arg 2; whnf
  let BPX := bodyPost Tryd.prog Tryd.f3 (fun _ _ => True)
  go_upto_region 12 with fail
  go_cut [58] (fun s58 wx => ∃ b, s58 = .bool b ∧ wx = w ∧ Hid (coB col = b))
  case first =>
    by_cases h1 : 1 ≤ col
    · have h1' : col ≥ 1 := h1
      by_cases h2 : col ≤ 1000000
      · have e1 : Hid (coB col = true) := by show _ = _; unfold coB; rw [decide_eq_true h1, decide_eq_true h2]; rfl
        go_wp2_with fail
        go_meet
        case rel => exact ⟨true, by simp, rfl, e1⟩
      · have e1 : Hid (coB col = false) := by show _ = _; unfold coB; rw [decide_eq_true h1, decide_eq_false h2]; rfl
        go_wp2_with fail
        go_meet
        case rel => exact ⟨false, by simp, rfl, e1⟩
    · have e1 : Hid (coB col = false) := by show _ = _; unfold coB; rw [decide_eq_false h1]; rfl
      have h1' : ¬ col ≥ 1 := h1
      go_wp2_with fail
      go_meet
      case rel => exact ⟨false, by simp, rfl, e1⟩
  case rest =>
  obtain ⟨b, rfl, rfl, HB0⟩ := hcut
  apply_assumption
  go_cut [9, 10] (fun s9 s10 wx => ∃ e t, s9 = .int .i64 e ∧ s10 = .string t ∧ Hid (Bw w0 wx) ∧ Hid (coE col = e) ∧ Hid (coT col = t))
  case first =>
    generalize wc = wo at *
    cases b with
    | true =>
      have hb := HB0.out
      unfold coB at hb
      simp at hb
      have e1 : Hid (coE col = 0) := by show _ = _; unfold coE; rw [HB0.out]; rfl
      have e2 : Hid (coT col = txt (letL col.toNat)) := by show _ = _; unfold coT; rw [HB0.out]; rfl
      have hl := rletters_any col.toNat wo (by omega)
      rw [show ((col.toNat : Nat) : Int) = col by omega] at hl
      generalize txt (letL col.toNat) = t at *
      clear hb
      go_wp2_with fail
      refine hl.mono ?_
      clear hl
      rintro r w1 ⟨rfl, hb1⟩
      have HB1 : Hid (Bw w0 w1) := HB.out.tr hb1
      clear hb1
      go_wp2_with fail
      go_meet
      case rel => exact ⟨0, t, rfl, rfl, HB1, e1, e2⟩
    | false =>
      have e1 : Hid (coE col = 1) := by show _ = _; unfold coE; rw [HB0.out]; rfl
      have e2 : Hid (coT col = ⟨#[]⟩) := by show _ = _; unfold coT; rw [HB0.out]; rfl
      go_wp2_with fail
      go_meet
      case rel => exact ⟨1, _, rfl, rfl, HB, e1, e2⟩
  case rest =>
  obtain ⟨e, t, rfl, rfl, HB1, HE1, HT1⟩ := hcut
  rw [HE1.out, HT1.out] at HC
  apply_assumption
  exact wtail15 s t col e w0 _ hs HB1 HN HE HC _ _ _ _ _ _ _ _ _ _ _ _ _ _ _ _ _ _ _ _ _ _ _ _ _ _ _ _ _ _ _ _ _ _ _ _ _ _ _ _ _ _ _ _ _ _ _ _ _ _ _ _ _ _ _ _ _ _ _ _ _ _ _ _ _ _ _ _ _ _ _ _ _ _ _ _ _ _ _ _ _ _ _ _ _ _ _ _ _ _ _ _ _ _ _ _ _ _ _ _ _ _ _ _ _ _ _ _ _ _ _ _ _ _ _ _ _ _ _ _ _ _ _ _ _
noncomputable def wtail6C : Code := ((Tryd.f3.body.bind (findSeq 6)).getD .skip)
set_option maxRecDepth 1000000 in
set_option maxHeartbeats 8000000 in
theorem wtail6 (s t : ByteArray) (wide side col e : Int) (w0 w : World) (hs : s.size ≤ 140737488351232) (HB : Hid (Bw w0 w)) (HN : Hid (∀ wx, Bw w0 wx → Calls Tryd.prog 10 #[.string s] wx fun r w' => r = .returned (.tuple #[.int .i64 (nmN s.toList), errV (nmE s.toList)]) ∧ Bw wx w')) (HE : Hid (∀ wx e, Bw w0 wx → Calls Tryd.prog 7 #[errV e, .int .i64 e] wx fun r w' => r = .returned (.bool true) ∧ Bw wx w')) (HC : Hid (∀ wx, Bw w0 wx → Calls Tryd.prog 9 #[.int .i64 col] wx fun r w' => r = .returned (.tuple #[.string (coT col), errV (coE col)]) ∧ Bw wx w')) (HW : Hid (∀ wx, Bw w0 wx → Calls Tryd.prog 6 #[.string s, .int .i64 wide, .int .i64 side] wx fun r w' => r = .returned (.tuple #[.string t, errV e]) ∧ Bw wx w'))
    (l4 l5 l6 l7 l8 l11 l12 l13 l14 l15 l16 l17 l18 l19 l20 l21 l22 l23 l24 l25 l26 l27 l28 l29 l30 l31 l32 l33 l34 l35 l36 l37 l38 l39 l40 l41 l42 l43 l44 l45 l46 l47 l48 l49 l50 l51 l52 l53 l54 l55 l56 l57 l58 l59 l60 l61 l62 l63 l64 l65 l66 l67 l68 l69 l70 l71 l72 l73 l74 l75 l76 l77 l78 l79 l80 l81 l82 l83 l84 l85 l86 l87 l88 l89 l90 l91 l92 l93 l94 l95 l96 l97 l98 l99 l100 l101 l102 l103 l104 l105 l106 l107 l108 l109 l110 l111 l112 l113 l114 l115 l116 l117 l118 l119 l120 l121 l122 l123 l124 l125 l126 l127 l128 : Value) :
    Code.wp Tryd.prog wtail6C (bodyPost Tryd.prog Tryd.f3 fun e w' => e = .returned (.bool true) ∧ Bw w0 w') ⟨#[.string s, .int .i64 wide, .int .i64 side, .int .i64 col, l4, l5, l6, l7, l8, .int .i64 e, .string t, l11, l12, l13, l14, l15, l16, l17, l18, l19, l20, l21, l22, l23, l24, l25, l26, l27, l28, l29, l30, l31, l32, l33, l34, l35, l36, l37, l38, l39, l40, l41, l42, l43, l44, l45, l46, l47, l48, l49, l50, l51, l52, l53, l54, l55, l56, l57, l58, l59, l60, l61, l62, l63, l64, l65, l66, l67, l68, l69, l70, l71, l72, l73, l74, l75, l76, l77, l78, l79, l80, l81, l82, l83, l84, l85, l86, l87, l88, l89, l90, l91, l92, l93, l94, l95, l96, l97, l98, l99, l100, l101, l102, l103, l104, l105, l106, l107, l108, l109, l110, l111, l112, l113, l114, l115, l116, l117, l118, l119, l120, l121, l122, l123, l124, l125, l126, l127, l128], []⟩ w := by
  dsimp only
  conv => arg 2; whnf
  let BPX := bodyPost Tryd.prog Tryd.f3 (fun _ _ => True)
  have hn := HW.out w HB.out
  clear HW
  obtain ⟨ev, hev⟩ : ∃ ev, errV e = ev := ⟨_, rfl⟩
  have he0 := HE.out
  have HEV : Hid (errV e = ev) := hev
  rw [hev] at hn
  clear hev he0
  go_upto_region 7 with fail
  refine hn.mono ?_
  clear hn
  rintro r w1 ⟨rfl, hb1⟩
  have HB1 : Hid (Bw w0 w1) := HB.out.tr hb1
  have he := HE.out w1 e HB1.out
  rw [HEV.out] at he
  clear hb1 HB
  go_upto_region 7 with fail
  go_upto_region 8 with fail
  refine he.mono ?_
  clear he
  rintro r w2 ⟨rfl, hb2⟩
  have HB2 : Hid (Bw w0 w2) := HB1.out.tr hb2
  clear hb2 HB1
  go_upto_region 8 with fail
  go_cut [52] (fun sx wx => sx = .bool false ∧ wx = w2)
  case first =>
    go_wp2_with fail
    go_meet
    case rel => exact ⟨by simp, rfl⟩
  case rest =>
  obtain ⟨rfl, rfl⟩ := hcut
  apply_assumption
  refine wp_cond_false (by simp [Act.eval]) ?_
  refine wp_skip ?_
  apply_assumption
  exact wtail10 s col w0 wc hs HB2 HN HE HC _ _ _ _ _ _ _ _ _ _ _ _ _ _ _ _ _ _ _ _ _ _ _ _ _ _ _ _ _ _ _ _ _ _ _ _ _ _ _ _ _ _ _ _ _ _ _ _ _ _ _ _ _ _ _ _ _ _ _ _ _ _ _ _ _ _ _ _ _ _ _ _ _ _ _ _ _ _ _ _ _ _ _ _ _ _ _ _ _ _ _ _ _ _ _ _ _ _ _ _ _ _ _ _ _ _ _ _ _ _ _ _ _ _ _ _ _ _ _ _ _ _ _ _ _ _ _
set_option maxRecDepth 1000000 in
set_option maxHeartbeats 8000000 in
/-- FormatWide, by what Wide, Column and Number answer. -/
theorem formatWide_any (s : ByteArray) (wide side col : Int) (w0 : World) (hs : s.size ≤ 140737488351232) (HN : Hid (∀ wx, Bw w0 wx → Calls Tryd.prog 10 #[.string s] wx fun e w' => e = .returned (.tuple #[.int .i64 (nmN s.toList), errV (nmE s.toList)]) ∧ Bw wx w')) (HE : Hid (∀ wx e, Bw w0 wx → Calls Tryd.prog 7 #[errV e, .int .i64 e] wx fun r w' => r = .returned (.bool true) ∧ Bw wx w')) (HC : Hid (∀ wx, Bw w0 wx → Calls Tryd.prog 9 #[.int .i64 col] wx fun r w' => r = .returned (.tuple #[.string (coT col), errV (coE col)]) ∧ Bw wx w')) (HW : Hid (∀ wx, Bw w0 wx → Calls Tryd.prog 6 #[.string s, .int .i64 wide, .int .i64 side] wx fun r w' => r = .returned (.tuple #[.string (wiT s wide side), errV (wiE wide side)]) ∧ Bw wx w')) :
    Calls Tryd.prog 3 #[.string s, .int .i64 wide, .int .i64 side, .int .i64 col] w0 fun e w' => e = .returned (.bool true) ∧ Bw w0 w' := by
  go_enter Tryd.func3, Tryd.ntmps3
  let BPX := bodyPost Tryd.prog Tryd.f3 (fun _ _ => True)
  go_upto_region 3 with fail
  go_cut [31] (fun s31 wx => ∃ b, s31 = .bool b ∧ wx = w0 ∧ Hid (wiB wide side = b))
  case first =>
    by_cases h1 : 0 ≤ wide
    · have h1' : wide ≥ 0 := h1
      by_cases h2 : wide ≤ 200
      · by_cases h3 : 0 ≤ side
        · have h3' : side ≥ 0 := h3
          by_cases h4 : side ≤ 2
          · skip
            have e1 : Hid (wiB wide side = true) := by show _ = _; unfold wiB; rw [decide_eq_true h1, decide_eq_true h2, decide_eq_true h3, decide_eq_true h4]; simp
            go_wp2_with fail
            go_meet
            case rel => exact ⟨true, by simp, rfl, e1⟩
          · skip
            have e1 : Hid (wiB wide side = false) := by show _ = _; unfold wiB; rw [decide_eq_true h1, decide_eq_true h2, decide_eq_true h3, decide_eq_false h4]; simp
            go_wp2_with fail
            go_meet
            case rel => exact ⟨false, by simp, rfl, e1⟩
        · have h3' : ¬ side ≥ 0 := h3
          have e1 : Hid (wiB wide side = false) := by show _ = _; unfold wiB; rw [decide_eq_true h1, decide_eq_true h2, decide_eq_false h3]; simp
          go_wp2_with fail
          go_meet
          case rel => exact ⟨false, by simp, rfl, e1⟩
      · skip
        have e1 : Hid (wiB wide side = false) := by show _ = _; unfold wiB; rw [decide_eq_true h1, decide_eq_false h2]; simp
        go_wp2_with fail
        go_meet
        case rel => exact ⟨false, by simp, rfl, e1⟩
    · have h1' : ¬ wide ≥ 0 := h1
      have e1 : Hid (wiB wide side = false) := by show _ = _; unfold wiB; rw [decide_eq_false h1]; simp
      go_wp2_with fail
      go_meet
      case rel => exact ⟨false, by simp, rfl, e1⟩
  case rest =>
  obtain ⟨b, rfl, rfl, HB0⟩ := hcut
  apply_assumption
  go_cut [9, 10] (fun s9 s10 wx => ∃ e t, s9 = .int .i64 e ∧ s10 = .string t ∧ Hid (Bw wc wx) ∧ Hid (wiE wide side = e) ∧ Hid (wiT s wide side = t))
  case first =>
    generalize wc = wo at *
    cases b with
    | true =>
      have hb := HB0.out
      unfold wiB at hb
      simp at hb
      have e1 : Hid (wiE wide side = 0) := by show _ = _; unfold wiE; rw [HB0.out]; rfl
      have e2 : Hid (wiT s wide side = txt (wideL s.toList wide.toNat side)) := by show _ = _; unfold wiT; rw [HB0.out]; rfl
      have hl := rwide_any s wide.toNat side wo (by omega) hs
      rw [show ((wide.toNat : Nat) : Int) = wide by omega] at hl
      generalize txt (wideL s.toList wide.toNat side) = t at *
      clear hb
      go_wp2_with fail
      refine hl.mono ?_
      clear hl
      rintro r w1 ⟨rfl, hb1⟩
      have HB1 : Hid (Bw wo w1) := hb1
      clear hb1
      go_wp2_with fail
      go_meet
      case rel => exact ⟨0, t, rfl, rfl, HB1, e1, e2⟩
    | false =>
      have e1 : Hid (wiE wide side = 1) := by show _ = _; unfold wiE; rw [HB0.out]; rfl
      have e2 : Hid (wiT s wide side = ⟨#[]⟩) := by show _ = _; unfold wiT; rw [HB0.out]; rfl
      have HBR : Hid (Bw wo wo) := Below.refl _ _
      go_wp2_with fail
      go_meet
      case rel => exact ⟨1, _, rfl, rfl, HBR, e1, e2⟩
  case rest =>
  obtain ⟨e, t, rfl, rfl, HB1, HE1, HT1⟩ := hcut
  rw [HE1.out, HT1.out] at HW
  apply_assumption
  exact wtail6 s t wide side col e _ _ hs HB1 HN HE HC HW _ _ _ _ _ _ _ _ _ _ _ _ _ _ _ _ _ _ _ _ _ _ _ _ _ _ _ _ _ _ _ _ _ _ _ _ _ _ _ _ _ _ _ _ _ _ _ _ _ _ _ _ _ _ _ _ _ _ _ _ _ _ _ _ _ _ _ _ _ _ _ _ _ _ _ _ _ _ _ _ _ _ _ _ _ _ _ _ _ _ _ _ _ _ _ _ _ _ _ _ _ _ _ _ _ _ _ _ _ _ _ _ _ _ _ _ _ _ _ _ _ _ _
end Go.Proofs.YtnelglmbckgbgaaDoor.fw
