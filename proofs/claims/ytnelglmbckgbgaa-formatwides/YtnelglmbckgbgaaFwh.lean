
/- The law FormatWides, by what Wide, Column and Number answer. Conditions: as each theorem says. -/
import Derived.Test.YtnelglmbckgbgaaFwg
namespace Go.Proofs.Ytnelglmbckgbgaa.fw
open Go.RowKit Go.Sort
theorem errV_zero : errV 0 = .nilIface := rfl
theorem errV_one : errV 1 = .iface 30 (.int .i64 1) := rfl
theorem txt_list (l : List UInt8) : (txt l).toList = l := by
  rw [ByteArray.toList_eq]
  simp [txt]
theorem bless : ∀ x y : List UInt8, Op.bytesLess x y = true ↔ x < y
  | x, [] => by cases x <;> simp [Op.bytesLess]
  | [], _ :: _ => by simp [Op.bytesLess]
  | a :: x, b :: y => by
    rw [Op.bytesLess, List.cons_lt_cons_iff, ← bless x y]
    simp
theorem co_no {c : Int} (h : coB c = false) : coE c = 1 ∧ coT c = ⟨#[]⟩ := by unfold coE coT; rw [h]; exact ⟨rfl, rfl⟩
theorem co_yes {c : Int} (h : coB c = true) : ∃ n : Nat, c = (n : Int) ∧ 0 < n ∧ n ≤ 1000000 ∧ coE c = 0 ∧ coT c = txt (letL n) := by
  have h2 := h
  unfold coB at h2
  simp at h2
  refine ⟨c.toNat, by omega, by omega, by omega, ?_, ?_⟩
  · unfold coE; rw [h]; rfl
  · unfold coT; rw [h]; rfl
noncomputable def xtail13C : Code := ((Try.f3.body.bind (findSeq 13)).getD .skip)
set_option maxRecDepth 1000000 in
set_option maxHeartbeats 8000000 in
theorem xtail13 (a b : Int) (w0 w : World) (HB : Hid (Bw w0 w)) (HN : Hid (∀ (t : ByteArray) wx, t.size ≤ 140737488351232 → Bw w0 wx → Calls Try.prog 6 #[.string t] wx fun r w' => r = .returned (.tuple #[.int .i64 (nmN t.toList), errV (nmE t.toList)]) ∧ Bw wx w')) (HC : Hid (∀ c wx, Bw w0 wx → Calls Try.prog 4 #[.int .i64 c] wx fun r w' => r = .returned (.tuple #[.string (coT c), errV (coE c)]) ∧ Bw wx w'))
    (l0 l1 l2 l5 l6 l7 l8 l9 l10 l11 l12 l13 l14 l15 l16 l17 l18 l19 l20 l21 l22 l23 l24 l25 l26 l27 l28 l29 l30 l31 l32 l33 l34 l35 l36 l37 l38 l39 l40 l41 l42 l43 l44 l45 l46 l47 l48 l49 l50 l51 l52 l53 l54 l55 l56 l57 l58 l59 l60 l61 l62 l63 l64 l65 l66 l67 l68 l69 l70 l71 l72 l73 l74 l75 l76 l77 l78 l79 l80 l81 l82 l83 l84 l85 l86 l87 l88 l89 l90 l91 l92 l93 l94 l95 l96 l97 l98 l99 l100 l101 l102 l103 l104 l105 l106 l107 l108 l109 l110 l111 l112 l113 l114 l115 l116 l117 l118 l119 l120 l121 l122 l123 l124 l125 l126 l127 l128 l129 l130 l131 : Value) :
    Code.wp Try.prog xtail13C (bodyPost Try.prog Try.f3 fun e w' => e = .returned (.bool true) ∧ Bw w0 w') ⟨#[l0, l1, l2, .int .i64 a, .int .i64 b, l5, l6, l7, l8, l9, l10, l11, l12, l13, l14, l15, l16, l17, l18, l19, l20, l21, l22, l23, l24, l25, l26, l27, l28, l29, l30, l31, l32, l33, l34, l35, l36, l37, l38, l39, l40, l41, l42, l43, l44, l45, l46, l47, l48, l49, l50, l51, l52, l53, l54, l55, l56, l57, l58, l59, l60, l61, l62, l63, l64, l65, l66, l67, l68, l69, l70, l71, l72, l73, l74, l75, l76, l77, l78, l79, l80, l81, l82, l83, l84, l85, l86, l87, l88, l89, l90, l91, l92, l93, l94, l95, l96, l97, l98, l99, l100, l101, l102, l103, l104, l105, l106, l107, l108, l109, l110, l111, l112, l113, l114, l115, l116, l117, l118, l119, l120, l121, l122, l123, l124, l125, l126, l127, l128, l129, l130, l131], []⟩ w := by
  dsimp only
  conv => arg 2; whnf
  let BPX := bodyPost Try.prog Try.f3 (fun _ _ => True)
  have c1 := HC.out a w HB.out
  cases ha : coB a with
  | false =>
    obtain ⟨e1, e2⟩ := co_no ha
    rw [e1, e2, errV_one] at c1
    clear e1 e2 ha HN
    go_upto_region 14 with fail
    refine c1.mono ?_
    clear c1
    rintro r w1 ⟨rfl, hb1⟩
    have HB1 : Hid (Bw w0 w1) := HB.out.tr hb1
    have c2 := HC.out b w1 HB1.out
    clear hb1 HB HC
    generalize coT b = y at *
    generalize errV (coE b) = ev at *
    go_upto_region 14 with fail
    go_upto_region 15 with fail
    refine c2.mono ?_
    clear c2
    rintro r w2 ⟨rfl, hb2⟩
    have HB2 : Hid (Bw w0 w2) := HB1.out.tr hb2
    clear hb2 HB1
    go_wp2_with fail
    go_ret
    exact ⟨rfl, HB2.out⟩
  | true =>
    obtain ⟨n, rfl, hn0, hn1, e1, e2⟩ := co_yes ha
    rw [e1, e2, errV_zero] at c1
    clear e1 e2 ha
    obtain ⟨x, hx⟩ : ∃ x, txt (letL n) = x := ⟨_, rfl⟩
    have HX : Hid (txt (letL n) = x) := hx
    rw [hx] at c1
    clear hx
    go_upto_region 14 with fail
    refine c1.mono ?_
    clear c1
    rintro r w1 ⟨rfl, hb1⟩
    have HB1 : Hid (Bw w0 w1) := HB.out.tr hb1
    have c2 := HC.out b w1 HB1.out
    clear hb1 HB HC
    cases hb : coB b with
    | false =>
      obtain ⟨e1, e2⟩ := co_no hb
      rw [e1, e2, errV_one] at c2
      clear e1 e2 hb HN
      go_upto_region 14 with fail
      go_upto_region 15 with fail
      refine c2.mono ?_
      clear c2
      rintro r w2 ⟨rfl, hb2⟩
      have HB2 : Hid (Bw w0 w2) := HB1.out.tr hb2
      clear hb2 HB1
      go_wp2_with fail
      go_ret
      exact ⟨rfl, HB2.out⟩
    | true =>
      obtain ⟨m, rfl, hm0, hm1, e1, e2⟩ := co_yes hb
      rw [e1, e2, errV_zero] at c2
      clear e1 e2 hb
      obtain ⟨y, hy⟩ : ∃ y, txt (letL m) = y := ⟨_, rfl⟩
      have HY : Hid (txt (letL m) = y) := hy
      rw [hy] at c2
      clear hy
      go_upto_region 14 with fail
      go_upto_region 15 with fail
      refine c2.mono ?_
      clear c2
      rintro r w2 ⟨rfl, hb2⟩
      have HB2 : Hid (Bw w0 w2) := HB1.out.tr hb2
      clear hb2 HB1
      have hxs : x.size ≤ 5 := by rw [← HX.out, txt_size]; exact letL_cap 5 n (Nat.le_trans hn1 (by decide))
      have c3 := HN.out x w2 (by omega) HB2.out
      have e3 : nmE x.toList = 0 ∧ nmN x.toList = (n : Int) := by rw [← HX.out, txt_list]; exact nm_letL hn0 hn1
      rw [e3.1, e3.2, errV_zero] at c3
      have HO : Hid ((x.size < y.size ∨ x.size = y.size ∧ Op.bytesLess x.toList y.toList = true) ↔ n < m) := by
        have := letL_order n m
        rw [← HX.out, ← HY.out, txt_list, txt_list, bless]
        exact this
      clear e3 HN HX HY hxs
      go_upto_region 17 with fail
      go_upto_region 18 with fail
      refine c3.mono ?_
      clear c3
      rintro r w3 ⟨rfl, hb3⟩
      have HB3 : Hid (Bw w0 w3) := HB2.out.tr hb3
      clear hb3 HB2
      by_cases h1 : x.size < y.size
      · have h1' : (x.size : Int) < (y.size : Int) := by omega
        have h2 : (n : Int) < (m : Int) := by have := HO.out.1 (.inl h1); omega
        go_wp2_with fail
        go_ret
        exact ⟨by simp, HB3.out⟩
      · have h1' : ¬ (x.size : Int) < (y.size : Int) := by omega
        by_cases h3 : x.size = y.size
        · have h3' : (x.size : Int) = (y.size : Int) := by omega
          by_cases h4 : Op.bytesLess x.toList y.toList = true
          · have h2 : (n : Int) < (m : Int) := by have := HO.out.1 (.inr ⟨h3, h4⟩); omega
            go_wp2_with fail
            go_ret
            exact ⟨by simp, HB3.out⟩
          · have h4' : Op.bytesLess x.toList y.toList = false := by simpa using h4
            have h2 : ¬ (n : Int) < (m : Int) := by
              intro h
              rcases HO.out.2 (by omega) with h | ⟨-, h⟩
              · exact h1 h
              · exact h4 h
            go_wp2_with fail
            go_ret
            exact ⟨by simp; omega, HB3.out⟩
        · have h3' : ¬ (x.size : Int) = (y.size : Int) := by omega
          have h2 : ¬ (n : Int) < (m : Int) := by
            intro h
            rcases HO.out.2 (by omega) with h | ⟨h, -⟩
            · exact h1 h
            · exact h3 h
          go_wp2_with fail
          go_ret
          exact ⟨by simp; omega, HB3.out⟩
end Go.Proofs.Ytnelglmbckgbgaa.fw
