
/- The document's Code, whole, walked. Conditions: as each theorem says. -/
import Derived.Test.YtnelglmbckgbgaaGreatDoorFzc
namespace Go.Proofs.YtnelglmbckgbgaaGreatDoor.fw
open Go.RowKit Go.Sort
def headB : Code → Option Nat
  | .block n _ => some n
  | .seq a _ => headB a
  | _ => none
/-- All from a block on. -/
def findBlk (n : Nat) : Code → Option Code
  | .seq a b => if headB a = some n then some (.seq a b) else match findBlk n a with
    | some c => some c
    | none => findBlk n b
  | .cond _ a b => match findBlk n a with
    | some c => some c
    | none => findBlk n b
  | .loop c => findBlk n c
  | .block _ c => findBlk n c
  | .scope c => findBlk n c
  | _ => none
/-- What is left of a code behind its first text and its mark. -/
def o17 (A1 : List UInt8) (g : Bool) (r : List UInt8) : Option LK := if (czL r).1 = 0 ∨ (cbL (cpL (czL r).2).2).2 ≠ [] then none else some ⟨A1, g, (czL r).1, (cpL (czL r).2).1, (cbL (cpL (czL r).2).2).1⟩
noncomputable def ctail17C : Code := ((Tryz.f5.body.bind (findBlk 2)).getD .skip)
set_option maxRecDepth 1000000 in
set_option maxHeartbeats 8000000 in
theorem ctail17 (w0 w : World) (S : ByteArray) (i : Nat) (O : Option LK) (A1 : List UInt8) (g : Bool) (HO : Hid (o17 A1 g (S.toList.drop i) = O)) (HB : Hid (FB w0 (txt A1) ⟨#[]⟩ g 0 0 w)) (hS : S.size ≤ 40) (hi : i ≤ S.size)
    (l1 l3 l6 l7 l8 l9 l10 l11 l12 l13 l14 l15 l16 l17 l18 l19 l20 l21 l22 l23 l24 l25 l26 l27 l28 l29 l30 l31 l32 l33 l34 l35 l36 l37 l38 l39 l40 l41 l42 l43 l44 l45 l46 l47 l48 l49 l50 l51 l52 l53 l54 l55 l56 l57 l58 l59 l60 l61 l62 l63 l64 l65 l66 l67 l68 l69 l70 l71 l72 l73 l74 l75 l76 l77 l78 l79 l80 l81 l82 l83 l84 l85 l86 l87 l88 l89 l90 l91 l92 l93 l94 l95 l96 l97 l98 l99 l100 l101 l102 l103 l104 l105 l106 l107 l108 l109 l110 l111 l112 l113 l114 l115 l116 l117 l118 l119 l120 l121 l122 l123 l124 l125 l126 l127 l128 l129 l130 l131 l132 l133 l134 l135 l136 l137 l138 l139 l140 l141 l142 l143 l144 l145 l146 l147 l148 l149 l150 l151 l152 l153 l154 l155 l156 l157 l158 l159 l160 l161 l162 l163 l164 l165 : Value) :
    Code.wp Tryz.prog ctail17C (bodyPost Tryz.prog Tryz.f5 fun e w' => RCo O e ∧ Bw w0 w') ⟨#[.string S, l1, .pointer (some ⟨w0.heap.size, 0, none⟩), l3, .pointer (some ⟨w0.heap.size + 1, 0, none⟩), .int .i64 (i : Int), l6, l7, l8, l9, l10, l11, l12, l13, l14, l15, l16, l17, l18, l19, l20, l21, l22, l23, l24, l25, l26, l27, l28, l29, l30, l31, l32, l33, l34, l35, l36, l37, l38, l39, l40, l41, l42, l43, l44, l45, l46, l47, l48, l49, l50, l51, l52, l53, l54, l55, l56, l57, l58, l59, l60, l61, l62, l63, l64, l65, l66, l67, l68, l69, l70, l71, l72, l73, l74, l75, l76, l77, l78, l79, l80, l81, l82, l83, l84, l85, l86, l87, l88, l89, l90, l91, l92, l93, l94, l95, l96, l97, l98, l99, l100, l101, l102, l103, l104, l105, l106, l107, l108, l109, l110, l111, l112, l113, l114, l115, l116, l117, l118, l119, l120, l121, l122, l123, l124, l125, l126, l127, l128, l129, l130, l131, l132, l133, l134, l135, l136, l137, l138, l139, l140, l141, l142, l143, l144, l145, l146, l147, l148, l149, l150, l151, l152, l153, l154, l155, l156, l157, l158, l159, l160, l161, l162, l163, l164, l165], []⟩ w := by
  dsimp only
  conv => arg 2; whnf
  let BPX := bodyPost Tryz.prog Tryz.f5 (fun _ _ => True)
  have HSL : Hid (S.toList.length = S.size) := size_list S
  obtain ⟨rt, hrt⟩ : ∃ rt, S.toList.drop i = rt := ⟨_, rfl⟩
  have hrtl : rt.length = S.size - i := by rw [← hrt, List.length_drop, HSL.out]
  have HRT : Hid (S.toList.drop i = rt) := hrt
  rw [hrt] at HO
  clear hrt
  go_upto_block 2 with fail
  go_cut [5] (fun s5 wx => ∃ j : Nat, s5 = .int .i64 ((i + j : Nat) : Int) ∧ i + j ≤ S.size ∧ Hid (FB w0 (txt A1) ⟨#[]⟩ g (j : Int) 0 wx) ∧ Hid (czL rt = (j, rt.drop j)))
  case first =>
    go_wp2_with fail
    go_loopw [5] (fun s5 wr => ∃ j : Nat, s5 = .int .i64 ((i + j : Nat) : Int) ∧ i + j ≤ S.size ∧ Hid (FB w0 (txt A1) ⟨#[]⟩ g (j : Int) 0 wr) ∧ Hid (∀ q, q < j → rt[q]? = some 48)) (fun s5 _ => S.size - (intOf s5).toNat)
    case atStart => exact ⟨0, by simp, by omega, HB, fun q hq => by omega⟩
    case round =>
      obtain ⟨j, rfl, hj, HF, HJ⟩ := hrel
      obtain ⟨m, hm⟩ : ∃ m, i + j = m := ⟨_, rfl⟩
      have HM : Hid (i + j = m) := hm
      rw [hm] at hj ⊢
      clear hm
      have hat : rt[j]? = S.toList[m]? := by rw [← HRT.out, List.getElem?_drop, HM.out]
      by_cases hml : m < S.size
      · have hml' : (m : Int) < (S.size : Int) := by omega
        have hm0 : (0 : Int) ≤ (m : Int) := by omega
        rw [at_list hml] at hat
        by_cases hq4 : S[m] = 48
        · have hx4 : ((S[m].toNat : Int) == 48) = true := by rw [hq4]; rfl
          have HJ2 : Hid (∀ q, q < j + 1 → rt[q]? = some 48) := fun q hq => by
            rcases Nat.lt_or_ge q j with h | h
            · exact HJ.out q h
            · have : q = j := by omega
              subst this
              rw [hat, hq4]
          obtain ⟨-, -, -, c3, -⟩ := HF.out.cells
          have fg := fun o => (HF.out.free o).1
          have hj40 : j ≤ 40 := by have := HM.out; omega
          have HF2 : Hid (FB w0 (txt A1) ⟨#[]⟩ g ((j + 1 : Nat) : Int) 0 (wr.setCell ⟨w0.heap.size + 1, 3, none⟩ (.int .i64 ((j : Int) + 1)))) := by
            show FB _ _ _ _ _ _ _
            rw [show ((j + 1 : Nat) : Int) = (j : Int) + 1 by omega]
            exact HF.out.set 3 _ rfl
          clear hat hq4 HF HJ
          go_wp2_with fail
          exact ⟨⟨j + 1, by have := HM.out; congr 1; omega, by have := HM.out; omega, HF2, HJ2⟩, by simp [intOf]; omega⟩
        · have hx4 : ((S[m].toNat : Int) == 48) = false := byte_ne (y := 48) (by decide) hq4
          have HCZ : Hid (czL rt = (j, rt.drop j)) := cz_at (by have := HM.out; omega) HJ.out (by rw [hat]; intro e; exact hq4 (Option.some.inj e))
          clear hat hq4
          go_wp2_with fail
          go_meet
          case rel => exact ⟨j, by rw [HM.out], by rw [HM.out]; exact hj, HF, HCZ⟩
      · have hml' : ¬ (m : Int) < (S.size : Int) := by omega
        have HCZ : Hid (czL rt = (j, rt.drop j)) := cz_at (by have := HM.out; omega) HJ.out (by rw [hat, List.getElem?_eq_none (by rw [HSL.out]; omega)]; simp)
        clear hat
        go_wp2_with fail
        go_meet
        case rel => exact ⟨j, by rw [HM.out], by rw [HM.out]; exact hj, HF, HCZ⟩
  case rest =>
  obtain ⟨j, rfl, hj, HF, HCZ⟩ := hcut
  apply_assumption
  obtain ⟨c0, c1, c2, c3, c4⟩ := HF.out.cells
  obtain ⟨r0, r1, r2, r3, r4⟩ := HF.out.rcells
  have ff := fun o => (HF.out.free o).2
  by_cases hj0 : j = 0
  · subst hj0
    have hO : O = none := by
      rw [← HO.out]
      unfold o17
      rw [if_pos (.inl (by rw [HCZ.out]))]
    subst hO
    clear HO HCZ
    generalize i + 0 = m at *
    go_wp2_with fail
    exact bodyPost_ret (v := .tuple #[.agg #[.string (txt A1), .string ⟨#[]⟩, .bool g, .int .i64 0, .int .i64 0], .bool false]) (by simp [results, Tryz.results5, go_sem, r0, r1, r2, r3, r4]) rfl ⟨⟨_, _, _, _, _, rfl⟩, (((((HF.out.below).set _ _ _ (Nat.le_refl _)).set _ _ _ (Nat.le_refl _)).set _ _ _ (Nat.le_refl _)).set _ _ _ (Nat.le_refl _)).set _ _ _ (Nat.le_refl _)⟩
  · have hj0' : ((j : Int) == 0) = false := by simp; exact hj0
    have HO2 : Hid ((if (cbL (cpL (S.toList.drop (i + j))).2).2 ≠ [] then none else some (⟨A1, g, j, (cpL (S.toList.drop (i + j))).1, (cbL (cpL (S.toList.drop (i + j))).2).1⟩ : LK)) = O) := by
      show _ = _
      have e : rt.drop j = S.toList.drop (i + j) := by rw [← HRT.out, List.drop_drop]
      rw [← HO.out]
      unfold o17
      rw [HCZ.out, e]
      by_cases hx : (cbL (cpL (S.toList.drop (i + j))).2).2 ≠ []
      · rw [if_pos hx, if_pos (.inr hx)]
      · rw [if_neg hx, if_neg (by rintro (h | h); exact hj0 h; exact hx h)]
    obtain ⟨m, hm⟩ : ∃ m, i + j = m := ⟨_, rfl⟩
    rw [hm] at hj HO2 ⊢
    clear hm HO HCZ
    go_upto_region 20 with fail
    go_cut [84] (fun s84 wx => s84 = .bool false ∧ wx = wc)
    case first =>
      go_wp2_with fail
      go_meet
      case rel => exact ⟨by simp, rfl⟩
    case rest =>
    obtain ⟨rfl, rfl⟩ := hcut
    apply_assumption
    refine wp_cond_false (by simp [Act.eval]) ?_
    refine wp_skip ?_
    apply_assumption
    exact ctail22 w0 _ S m O A1 g j HO2 HF hS hj _ _ _ _ _ _ _ _ _ _ _ _ _ _ _ _ _ _ _ _ _ _ _ _ _ _ _ _ _ _ _ _ _ _ _ _ _ _ _ _ _ _ _ _ _ _ _ _ _ _ _ _ _ _ _ _ _ _ _ _ _ _ _ _ _ _ _ _ _ _ _ _ _ _ _ _ _ _ _ _ _ _ _ _ _ _ _ _ _ _ _ _ _ _ _ _ _ _ _ _ _ _ _ _ _ _ _ _ _ _ _ _ _ _ _ _ _ _ _ _ _ _ _ _ _ _ _ _ _ _ _ _ _ _ _ _ _ _ _ _ _ _ _ _ _ _ _ _ _ _ _ _ _ _ _ _ _ _ _ _ _ _
noncomputable def ctail14C : Code := ((Tryz.f5.body.bind (findSeq 14)).getD .skip)
set_option maxRecDepth 1000000 in
set_option maxHeartbeats 8000000 in
theorem ctail14 (w0 w : World) (S : ByteArray) (i : Nat) (O : Option LK) (A1 : List UInt8) (HO : Hid (o17 A1 (ccL (S.toList.drop i)).1 (ccL (S.toList.drop i)).2 = O)) (HB : Hid (FB w0 (txt A1) ⟨#[]⟩ false 0 0 w)) (hS : S.size ≤ 40) (hi : i ≤ S.size)
    (l1 l3 l6 l7 l8 l9 l10 l11 l12 l13 l14 l15 l16 l17 l18 l19 l20 l21 l22 l23 l24 l25 l26 l27 l28 l29 l30 l31 l32 l33 l34 l35 l36 l37 l38 l39 l40 l41 l42 l43 l44 l45 l46 l47 l48 l49 l50 l51 l52 l53 l54 l55 l56 l57 l58 l59 l60 l61 l62 l63 l64 l65 l66 l67 l68 l69 l70 l71 l72 l73 l74 l75 l76 l77 l78 l79 l80 l81 l82 l83 l84 l85 l86 l87 l88 l89 l90 l91 l92 l93 l94 l95 l96 l97 l98 l99 l100 l101 l102 l103 l104 l105 l106 l107 l108 l109 l110 l111 l112 l113 l114 l115 l116 l117 l118 l119 l120 l121 l122 l123 l124 l125 l126 l127 l128 l129 l130 l131 l132 l133 l134 l135 l136 l137 l138 l139 l140 l141 l142 l143 l144 l145 l146 l147 l148 l149 l150 l151 l152 l153 l154 l155 l156 l157 l158 l159 l160 l161 l162 l163 l164 l165 : Value) :
    Code.wp Tryz.prog ctail14C (bodyPost Tryz.prog Tryz.f5 fun e w' => RCo O e ∧ Bw w0 w') ⟨#[.string S, l1, .pointer (some ⟨w0.heap.size, 0, none⟩), l3, .pointer (some ⟨w0.heap.size + 1, 0, none⟩), .int .i64 (i : Int), l6, l7, l8, l9, l10, l11, l12, l13, l14, l15, l16, l17, l18, l19, l20, l21, l22, l23, l24, l25, l26, l27, l28, l29, l30, l31, l32, l33, l34, l35, l36, l37, l38, l39, l40, l41, l42, l43, l44, l45, l46, l47, l48, l49, l50, l51, l52, l53, l54, l55, l56, l57, l58, l59, l60, l61, l62, l63, l64, l65, l66, l67, l68, l69, l70, l71, l72, l73, l74, l75, l76, l77, l78, l79, l80, l81, l82, l83, l84, l85, l86, l87, l88, l89, l90, l91, l92, l93, l94, l95, l96, l97, l98, l99, l100, l101, l102, l103, l104, l105, l106, l107, l108, l109, l110, l111, l112, l113, l114, l115, l116, l117, l118, l119, l120, l121, l122, l123, l124, l125, l126, l127, l128, l129, l130, l131, l132, l133, l134, l135, l136, l137, l138, l139, l140, l141, l142, l143, l144, l145, l146, l147, l148, l149, l150, l151, l152, l153, l154, l155, l156, l157, l158, l159, l160, l161, l162, l163, l164, l165], []⟩ w := by
  dsimp only
  conv => arg 2; whnf
  let BPX := bodyPost Tryz.prog Tryz.f5 (fun _ _ => True)
  have HSL : Hid (S.toList.length = S.size) := size_list S
  obtain ⟨r, hr⟩ : ∃ r, S.toList.drop i = r := ⟨_, rfl⟩
  have hrl : r.length = S.size - i := by rw [← hr, List.length_drop, HSL.out]
  have HR : Hid (S.toList.drop i = r) := hr
  rw [hr] at HO
  clear hr
  obtain ⟨B, hB⟩ : ∃ B, Lib.hasPrefix r [35, 44] = B := ⟨_, rfl⟩
  have HBB : Hid (Lib.hasPrefix r [35, 44] = B) := hB
  clear hB
  have HPX : Hid (∀ (h : i + 1 < S.size), ((S.extract i (i + 2)).toList == [35, 44]) = B) := fun h => by
    have e := ext_take S i 2
    rw [e, ByteArray.toList_eq, txt_data, HR.out, ← HBB.out]
    obtain ⟨a, b, r', rfl⟩ : ∃ a b r', r = a :: b :: r' := by
      match r, hrl with
      | [], h1 => simp at h1; omega
      | [a], h1 => simp at h1; omega
      | a :: b :: r', _ => exact ⟨a, b, r', rfl⟩
    simp only [List.take_succ_cons, List.take_zero, Lib.hasPrefix, List.isPrefixOf, Bool.and_true]
    rw [Bool.eq_iff_iff]
    simp only [beq_iff_eq, Bool.and_eq_true, List.cons.injEq, and_true]
    exact ⟨fun h => ⟨h.1.symm, h.2.symm⟩, fun h => ⟨h.1.symm, h.2.symm⟩⟩
  have HNP : Hid (¬ i + 1 < S.size → B = false) := fun h => by
    rw [← HBB.out]
    match r, hrl with
    | [], h1 => rfl
    | [a], h1 => simp [Lib.hasPrefix, List.isPrefixOf]
    | a :: b :: r', h1 => simp at h1; omega
  go_upto_region 14 with fail
  go_cut [62] (fun s62 wx => s62 = .bool B ∧ wx = w)
  case first =>
    by_cases hlt : i + 1 < S.size
    · have hlt' : (i : Int) + 1 < (S.size : Int) := by omega
      have hpx := HPX.out hlt
      have hlo : (0 : Int) ≤ (i : Int) := by omega
      have hh2 : (i : Int) + 2 ≤ (S.size : Int) := by omega
      have hh3 : (i : Int) ≤ (i : Int) + 2 := by omega
      have hh4 : i ≤ i + 2 := by omega
      have hh5 : i + 2 ≤ S.size := by omega
      clear HPX HNP
      cases B with
      | true =>
        go_wp2_with fail
        go_meet
        case rel => exact ⟨by simp, rfl⟩
      | false =>
        go_wp2_with fail
        go_meet
        case rel => exact ⟨by simp, rfl⟩
    · have hlt' : ¬ (i : Int) + 1 < (S.size : Int) := by omega
      have hb0 := HNP.out hlt
      subst hb0
      clear HPX HNP
      go_wp2_with fail
      go_meet
      case rel => exact ⟨by simp, rfl⟩
  case rest =>
  obtain ⟨rfl, rfl⟩ := hcut
  apply_assumption
  go_cut [5] (fun s5 wx => ∃ (i' : Nat) (g : Bool), s5 = .int .i64 (i' : Int) ∧ i' ≤ S.size ∧ Hid (FB w0 (txt A1) ⟨#[]⟩ g 0 0 wx) ∧ Hid (o17 A1 g (S.toList.drop i') = O))
  case first =>
    cases B with
    | false =>
      have hcc : ccL r = (false, r) := by unfold ccL; rw [HBB.out]; rfl
      have HO2 : Hid (o17 A1 false (S.toList.drop i) = O) := by show _ = _; rw [← HO.out, hcc, HR.out]
      clear hcc HPX HNP
      go_wp2_with fail
      go_meet
      case rel => exact ⟨i, false, rfl, hi, HB, HO2⟩
    | true =>
      have hcc : ccL r = (true, r.drop 2) := by unfold ccL; rw [if_pos HBB.out]
      have hl2 : i + 1 < S.size := by
        rcases Nat.lt_or_ge (i + 1) S.size with h | h
        · exact h
        · have := HNP.out (by omega)
          cases this
      have HO2 : Hid (o17 A1 true (S.toList.drop (i + 2)) = O) := by show _ = _; rw [← HO.out, hcc, ← HR.out, List.drop_drop]
      obtain ⟨-, -, c2, -, -⟩ := HB.out.cells
      have fg := fun o => (HB.out.free o).1
      have HF2 : Hid (FB w0 (txt A1) ⟨#[]⟩ true 0 0 (wc.setCell ⟨w0.heap.size + 1, 2, none⟩ (.bool true))) := HB.out.set 2 _ rfl
      clear hcc HPX HNP
      go_wp2_with fail
      go_meet
      case rel => exact ⟨i + 2, true, by congr 1, by omega, HF2, HO2⟩
  case rest =>
  obtain ⟨i', g, rfl, hi', HF, HO2⟩ := hcut
  apply_assumption
  exact ctail17 w0 _ S i' O A1 g HO2 HF hS hi' _ _ _ _ _ _ _ _ _ _ _ _ _ _ _ _ _ _ _ _ _ _ _ _ _ _ _ _ _ _ _ _ _ _ _ _ _ _ _ _ _ _ _ _ _ _ _ _ _ _ _ _ _ _ _ _ _ _ _ _ _ _ _ _ _ _ _ _ _ _ _ _ _ _ _ _ _ _ _ _ _ _ _ _ _ _ _ _ _ _ _ _ _ _ _ _ _ _ _ _ _ _ _ _ _ _ _ _ _ _ _ _ _ _ _ _ _ _ _ _ _ _ _ _ _ _ _ _ _ _ _ _ _ _ _ _ _ _ _ _ _ _ _ _ _ _ _ _ _ _ _ _ _ _ _ _ _ _ _ _ _ _
end Go.Proofs.YtnelglmbckgbgaaGreatDoor.fw
