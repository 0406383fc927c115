
/- The document's Code from its point on, walked. Conditions: as each theorem says. -/
import Derived.Test.YtnelglmbckgbgaaGreatDoorFzb
namespace Go.Proofs.YtnelglmbckgbgaaGreatDoor.fw
open Go.RowKit Go.Sort
noncomputable def ctail22C : Code := ((Tryz.f5.body.bind (findSeq 22)).getD .skip)
set_option maxRecDepth 1000000 in
set_option maxHeartbeats 8000000 in
theorem ctail22 (w0 w : World) (S : ByteArray) (i : Nat) (O : Option LK) (A1 : List UInt8) (g : Bool) (l : Nat) (HO : Hid ((if (cbL (cpL (S.toList.drop i)).2).2 ≠ [] then none else some (⟨A1, g, l, (cpL (S.toList.drop i)).1, (cbL (cpL (S.toList.drop i)).2).1⟩ : LK)) = O)) (HB : Hid (FB w0 (txt A1) ⟨#[]⟩ g (l : Int) 0 w)) (hS : S.size ≤ 40) (hi : i ≤ S.size)
    (l1 l3 l6 l7 l8 l9 l10 l11 l12 l13 l14 l15 l16 l17 l18 l19 l20 l21 l22 l23 l24 l25 l26 l27 l28 l29 l30 l31 l32 l33 l34 l35 l36 l37 l38 l39 l40 l41 l42 l43 l44 l45 l46 l47 l48 l49 l50 l51 l52 l53 l54 l55 l56 l57 l58 l59 l60 l61 l62 l63 l64 l65 l66 l67 l68 l69 l70 l71 l72 l73 l74 l75 l76 l77 l78 l79 l80 l81 l82 l83 l84 l85 l86 l87 l88 l89 l90 l91 l92 l93 l94 l95 l96 l97 l98 l99 l100 l101 l102 l103 l104 l105 l106 l107 l108 l109 l110 l111 l112 l113 l114 l115 l116 l117 l118 l119 l120 l121 l122 l123 l124 l125 l126 l127 l128 l129 l130 l131 l132 l133 l134 l135 l136 l137 l138 l139 l140 l141 l142 l143 l144 l145 l146 l147 l148 l149 l150 l151 l152 l153 l154 l155 l156 l157 l158 l159 l160 l161 l162 l163 l164 l165 : Value) :
    Code.wp Tryz.prog ctail22C (bodyPost Tryz.prog Tryz.f5 fun e w' => RCo O e ∧ Bw w0 w') ⟨#[.string S, l1, .pointer (some ⟨w0.heap.size, 0, none⟩), l3, .pointer (some ⟨w0.heap.size + 1, 0, none⟩), .int .i64 (i : Int), l6, l7, l8, l9, l10, l11, l12, l13, l14, l15, l16, l17, l18, l19, l20, l21, l22, l23, l24, l25, l26, l27, l28, l29, l30, l31, l32, l33, l34, l35, l36, l37, l38, l39, l40, l41, l42, l43, l44, l45, l46, l47, l48, l49, l50, l51, l52, l53, l54, l55, l56, l57, l58, l59, l60, l61, l62, l63, l64, l65, l66, l67, l68, l69, l70, l71, l72, l73, l74, l75, l76, l77, l78, l79, l80, l81, l82, l83, l84, l85, l86, l87, l88, l89, l90, l91, l92, l93, l94, l95, l96, l97, l98, l99, l100, l101, l102, l103, l104, l105, l106, l107, l108, l109, l110, l111, l112, l113, l114, l115, l116, l117, l118, l119, l120, l121, l122, l123, l124, l125, l126, l127, l128, l129, l130, l131, l132, l133, l134, l135, l136, l137, l138, l139, l140, l141, l142, l143, l144, l145, l146, l147, l148, l149, l150, l151, l152, l153, l154, l155, l156, l157, l158, l159, l160, l161, l162, l163, l164, l165], []⟩ w := by
  dsimp only
  conv => arg 2; whnf
  let BPX := bodyPost Tryz.prog Tryz.f5 (fun _ _ => True)
  have HSL : Hid (S.toList.length = S.size) := size_list S
  obtain ⟨r, hr⟩ : ∃ r, S.toList.drop i = r := ⟨_, rfl⟩
  have hrl : r.length = S.size - i := by rw [← hr, List.length_drop, HSL.out]
  rw [hr] at HO
  obtain ⟨B, hB⟩ : ∃ B, decide (r.head? = some 46) = B := ⟨_, rfl⟩
  have HBB : Hid (decide (r.head? = some 46) = B) := hB
  clear hB
  go_upto_region 22 with fail
  go_cut [95] (fun s95 wx => s95 = .bool B ∧ wx = w)
  case first =>
    by_cases hlt : i < S.size
    · have hlt'' : (i : Int) < (S.size : Int) := by omega
      have hlo : (0 : Int) ≤ (i : Int) := by omega
      have hhd : r.head? = some S[i] := by rw [← hr]; exact head_at hlt
      by_cases h46 : S[i] = 46
      · have hx : ((S[i].toNat : Int) == 46) = true := by rw [h46]; rfl
        have hBt : B = true := by rw [← HBB.out, hhd, h46]; rfl
        clear hhd h46 hr
        go_wp2_with fail
        go_meet
        case rel => exact ⟨by rw [hBt], rfl⟩
      · have hx : ((S[i].toNat : Int) == 46) = false := byte_ne (y := 46) (by decide) h46
        have hBt : B = false := by rw [← HBB.out, hhd]; simpa using h46
        clear hhd h46 hr
        go_wp2_with fail
        go_meet
        case rel => exact ⟨by rw [hBt], rfl⟩
    · have hlt'' : ¬ (i : Int) < (S.size : Int) := by omega
      have hr0 : r = [] := List.eq_nil_of_length_eq_zero (by omega)
      have hBt : B = false := by rw [← HBB.out, hr0]; rfl
      clear hr0 hr
      go_wp2_with fail
      go_meet
      case rel => exact ⟨by rw [hBt], rfl⟩
  case rest =>
  obtain ⟨rfl, rfl⟩ := hcut
  apply_assumption
  go_cut [5] (fun s5 wx => ∃ (i' p : Nat), s5 = .int .i64 (i' : Int) ∧ i' ≤ S.size ∧ Hid (FB w0 (txt A1) ⟨#[]⟩ g (l : Int) (p : Int) wx) ∧ Hid ((if (cbL (S.toList.drop i')).2 ≠ [] then none else some (⟨A1, g, l, p, (cbL (S.toList.drop i')).1⟩ : LK)) = O))
  case first =>
    cases B with
    | false =>
      have hne : ¬ r.head? = some 46 := by simpa using HBB.out
      have hcp : cpL r = (0, r) := by unfold cpL; rw [if_neg hne]
      have HO2 : Hid ((if (cbL (S.toList.drop i)).2 ≠ [] then none else some (⟨A1, g, l, 0, (cbL (S.toList.drop i)).1⟩ : LK)) = O) := by
        show _ = _
        rw [← HO.out, hcp, hr]
      clear hne hcp hr
      go_wp2_with fail
      go_meet
      case rel => exact ⟨i, 0, rfl, hi, HB, HO2⟩
    | true =>
      have hhd : r.head? = some 46 := by simpa using HBB.out
      have hlt : i < S.size := by
        rcases Nat.lt_or_ge i S.size with h | h
        · exact h
        · have hr0 : r = [] := List.eq_nil_of_length_eq_zero (by omega)
          rw [hr0] at hhd
          cases hhd
      obtain ⟨rt, hrt⟩ : ∃ rt, r.tail = rt := ⟨_, rfl⟩
      have hrtl : rt.length = S.size - i - 1 := by rw [← hrt, List.length_tail]; omega
      have HRT : Hid (S.toList.drop (i + 1) = rt) := by show _ = _; rw [← hrt, ← hr, ← List.drop_one, List.drop_drop]
      have hcp : cpL r = (if 1 ≤ (czL rt).1 ∧ (czL rt).1 ≤ 6 then czL rt else (0, r)) := by unfold cpL; rw [if_pos hhd, hrt]
      have HCB : Hid (cbL r = ([], r)) := by
        show _ = _
        unfold cbL cqL
        rw [if_neg (by rw [hhd]; decide), if_neg (by rw [hhd]; decide)]
      have HNE : Hid (r ≠ []) := by intro e; rw [e] at hhd; cases hhd
      have HCP : Hid (cpL r = (if 1 ≤ (czL rt).1 ∧ (czL rt).1 ≤ 6 then czL rt else (0, r))) := hcp
      clear hrt hcp hr hhd
      go_upto_block 4 with fail
      go_cut [5] (fun s5 wx => ∃ j : Nat, s5 = .int .i64 ((i + 1 + j : Nat) : Int) ∧ i + 1 + j ≤ S.size ∧ Hid (FB w0 (txt A1) ⟨#[]⟩ g (l : Int) (j : Int) wx) ∧ Hid (czL rt = (j, rt.drop j)))
      case first =>
        go_wp2_with fail
        go_loopw [5] (fun s5 wr => ∃ j : Nat, s5 = .int .i64 ((i + 1 + j : Nat) : Int) ∧ i + 1 + j ≤ S.size ∧ Hid (FB w0 (txt A1) ⟨#[]⟩ g (l : Int) (j : Int) wr) ∧ Hid (∀ q, q < j → rt[q]? = some 48)) (fun s5 _ => S.size - (intOf s5).toNat)
        case atStart => exact ⟨0, by simp, by omega, HB, fun q hq => by omega⟩
        case round =>
          obtain ⟨j, rfl, hj, HF, HJ⟩ := hrel
          obtain ⟨m, hm⟩ : ∃ m, i + 1 + j = m := ⟨_, rfl⟩
          have HM : Hid (i + 1 + j = m) := hm
          rw [hm] at hj ⊢
          clear hm
          have hat : rt[j]? = S.toList[m]? := by rw [← HRT.out, List.getElem?_drop, HM.out]
          by_cases hml : m < S.size
          · have hml' : (m : Int) < (S.size : Int) := by omega
            have hm0 : (0 : Int) ≤ (m : Int) := by omega
            rw [at_list hml] at hat
            by_cases hq4 : S[m] = 48
            · have hx4 : ((S[m].toNat : Int) == 48) = true := by rw [hq4]; rfl
              have HJ2 : Hid (∀ q, q < j + 1 → rt[q]? = some 48) := fun q hq => by
                rcases Nat.lt_or_ge q j with h | h
                · exact HJ.out q h
                · have : q = j := by omega
                  subst this
                  rw [hat, hq4]
              obtain ⟨-, -, -, -, c4⟩ := HF.out.cells
              have fg := fun o => (HF.out.free o).1
              have hj40 : j ≤ 40 := by have := HM.out; omega
              have HF2 : Hid (FB w0 (txt A1) ⟨#[]⟩ g (l : Int) ((j + 1 : Nat) : Int) (wr.setCell ⟨w0.heap.size + 1, 4, none⟩ (.int .i64 ((j : Int) + 1)))) := by
                show FB _ _ _ _ _ _ _
                rw [show ((j + 1 : Nat) : Int) = (j : Int) + 1 by omega]
                exact HF.out.set 4 _ rfl
              clear hat hq4 HF HJ
              go_wp2_with fail
              exact ⟨⟨j + 1, by have := HM.out; congr 1; omega, by have := HM.out; omega, HF2, HJ2⟩, by simp [intOf]; omega⟩
            · have hx4 : ((S[m].toNat : Int) == 48) = false := byte_ne (y := 48) (by decide) hq4
              have HCZ : Hid (czL rt = (j, rt.drop j)) := cz_at (by have := HM.out; omega) HJ.out (by rw [hat]; intro e; exact hq4 (Option.some.inj e))
              clear hat hq4
              go_wp2_with fail
              go_meet
              case rel => exact ⟨j, by rw [HM.out], by rw [HM.out]; exact hj, HF, HCZ⟩
          · have hml' : ¬ (m : Int) < (S.size : Int) := by omega
            have HCZ : Hid (czL rt = (j, rt.drop j)) := cz_at (by have := HM.out; omega) HJ.out (by rw [hat, List.getElem?_eq_none (by rw [HSL.out]; omega)]; simp)
            clear hat
            go_wp2_with fail
            go_meet
            case rel => exact ⟨j, by rw [HM.out], by rw [HM.out]; exact hj, HF, HCZ⟩
      case rest =>
      obtain ⟨j, rfl, hj, HF, HCZ⟩ := hcut
      apply_assumption
      obtain ⟨-, -, -, -, c4⟩ := HF.out.cells
      by_cases hj1 : 1 ≤ j
      · by_cases hj6 : j ≤ 6
        · have hj1' : ¬ (j : Int) < 1 := by omega
          have hj6' : ¬ (j : Int) > 6 := by omega
          have HO2 : Hid ((if (cbL (S.toList.drop (i + 1 + j))).2 ≠ [] then none else some (⟨A1, g, l, j, (cbL (S.toList.drop (i + 1 + j))).1⟩ : LK)) = O) := by
            show _ = _
            have e : cpL r = (j, S.toList.drop (i + 1 + j)) := by rw [HCP.out, HCZ.out, if_pos ⟨hj1, hj6⟩, ← HRT.out, List.drop_drop]
            rw [← HO.out, e]
          obtain ⟨m, hm⟩ : ∃ m, i + 1 + j = m := ⟨_, rfl⟩
          rw [hm] at hj HO2 ⊢
          clear hm
          go_wp2_with fail
          go_meet
          case rel => exact ⟨m, j, rfl, hj, HF, HO2⟩
        · have hj1' : ¬ (j : Int) < 1 := by omega
          have hj6' : (j : Int) > 6 := by omega
          have hO : O = none := by
            have e : cpL r = (0, r) := by rw [HCP.out, HCZ.out, if_neg (fun x => hj6 x.2)]
            rw [← HO.out, e]
            simp only [HCB.out]
            rw [if_pos HNE.out]
          obtain ⟨c0, c1, c2, c3, -⟩ := HF.out.cells
          obtain ⟨r0, r1, r2, r3, r4⟩ := HF.out.rcells
          have ff := fun o => (HF.out.free o).2
          subst hO
          clear HO HCZ HCB HNE
          generalize i + 1 + j = m at *
          go_wp2_with fail
          exact bodyPost_ret (v := .tuple #[.agg #[.string (txt A1), .string ⟨#[]⟩, .bool g, .int .i64 (l : Int), .int .i64 (j : Int)], .bool false]) (by simp [results, Tryz.results5, go_sem, r0, r1, r2, r3, r4]) rfl ⟨⟨_, _, _, _, _, rfl⟩, (((((HF.out.below).set _ _ _ (Nat.le_refl _)).set _ _ _ (Nat.le_refl _)).set _ _ _ (Nat.le_refl _)).set _ _ _ (Nat.le_refl _)).set _ _ _ (Nat.le_refl _)⟩
      · have hj1' : (j : Int) < 1 := by omega
        have hO : O = none := by
          have e : cpL r = (0, r) := by rw [HCP.out, HCZ.out, if_neg (fun x => hj1 x.1)]
          rw [← HO.out, e]
          simp only [HCB.out]
          rw [if_pos HNE.out]
        obtain ⟨c0, c1, c2, c3, -⟩ := HF.out.cells
        obtain ⟨r0, r1, r2, r3, r4⟩ := HF.out.rcells
        have ff := fun o => (HF.out.free o).2
        subst hO
        clear HO HCZ HCB HNE
        generalize i + 1 + j = m at *
        go_wp2_with fail
        exact bodyPost_ret (v := .tuple #[.agg #[.string (txt A1), .string ⟨#[]⟩, .bool g, .int .i64 (l : Int), .int .i64 (j : Int)], .bool false]) (by simp [results, Tryz.results5, go_sem, r0, r1, r2, r3, r4]) rfl ⟨⟨_, _, _, _, _, rfl⟩, (((((HF.out.below).set _ _ _ (Nat.le_refl _)).set _ _ _ (Nat.le_refl _)).set _ _ _ (Nat.le_refl _)).set _ _ _ (Nat.le_refl _)).set _ _ _ (Nat.le_refl _)⟩
  case rest =>
  obtain ⟨i', p, rfl, hi', HF, HO2⟩ := hcut
  apply_assumption
  exact ctail29 w0 _ S i' O A1 g l p HO2 HF hS hi' _ _ _ _ _ _ _ _ _ _ _ _ _ _ _ _ _ _ _ _ _ _ _ _ _ _ _ _ _ _ _ _ _ _ _ _ _ _ _ _ _ _ _ _ _ _ _ _ _ _ _ _ _ _ _ _ _ _ _ _ _ _ _ _ _ _ _ _ _ _ _ _ _ _ _ _ _ _ _ _ _ _ _ _ _ _ _ _ _ _ _ _ _ _ _ _ _ _ _ _ _ _ _ _ _ _ _ _ _ _ _ _ _ _ _ _ _ _ _ _ _ _ _ _ _ _ _ _ _ _ _ _ _ _ _ _ _ _ _ _ _ _ _ _ _ _ _ _ _ _ _ _ _ _ _ _ _ _ _ _ _ _
end Go.Proofs.YtnelglmbckgbgaaGreatDoor.fw
