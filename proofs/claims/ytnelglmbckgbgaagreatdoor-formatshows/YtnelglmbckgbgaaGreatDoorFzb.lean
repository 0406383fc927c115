
/- The document's Code from its last part on, walked. Conditions: as each theorem says. -/
import Derived.Test.YtnelglmbckgbgaaGreatDoorFza
namespace Go.Proofs.YtnelglmbckgbgaaGreatDoor.fw
open Go.RowKit Go.Sort
theorem byte_ne {b : UInt8} {y : Nat} (hy : y < 256) (h : b ≠ UInt8.ofNat y) : ((b.toNat : Int) == (y : Int)) = false := by
  simp only [beq_eq_false_iff_ne]
  intro e
  apply h
  apply UInt8.toNat_inj.1
  rw [UInt8.toNat_ofNat', Nat.mod_eq_of_lt hy]
  omega
theorem head_at {S : ByteArray} {i : Nat} (h : i < S.size) : (S.toList.drop i).head? = some S[i] := by
  rw [List.head?_drop, at_list h]
noncomputable def ctail29C : Code := ((Tryz.f5.body.bind (findSeq 29)).getD .skip)
set_option maxRecDepth 1000000 in
set_option maxHeartbeats 8000000 in
theorem ctail29 (w0 w : World) (S : ByteArray) (i : Nat) (O : Option LK) (A1 : List UInt8) (g : Bool) (l p : Nat) (HO : Hid ((if (cbL (S.toList.drop i)).2 ≠ [] then none else some (⟨A1, g, l, p, (cbL (S.toList.drop i)).1⟩ : LK)) = O)) (HB : Hid (FB w0 (txt A1) ⟨#[]⟩ g (l : Int) (p : Int) w)) (hS : S.size ≤ 40) (hi : i ≤ S.size)
    (l1 l3 l6 l7 l8 l9 l10 l11 l12 l13 l14 l15 l16 l17 l18 l19 l20 l21 l22 l23 l24 l25 l26 l27 l28 l29 l30 l31 l32 l33 l34 l35 l36 l37 l38 l39 l40 l41 l42 l43 l44 l45 l46 l47 l48 l49 l50 l51 l52 l53 l54 l55 l56 l57 l58 l59 l60 l61 l62 l63 l64 l65 l66 l67 l68 l69 l70 l71 l72 l73 l74 l75 l76 l77 l78 l79 l80 l81 l82 l83 l84 l85 l86 l87 l88 l89 l90 l91 l92 l93 l94 l95 l96 l97 l98 l99 l100 l101 l102 l103 l104 l105 l106 l107 l108 l109 l110 l111 l112 l113 l114 l115 l116 l117 l118 l119 l120 l121 l122 l123 l124 l125 l126 l127 l128 l129 l130 l131 l132 l133 l134 l135 l136 l137 l138 l139 l140 l141 l142 l143 l144 l145 l146 l147 l148 l149 l150 l151 l152 l153 l154 l155 l156 l157 l158 l159 l160 l161 l162 l163 l164 l165 : Value) :
    Code.wp Tryz.prog ctail29C (bodyPost Tryz.prog Tryz.f5 fun e w' => RCo O e ∧ Bw w0 w') ⟨#[.string S, l1, .pointer (some ⟨w0.heap.size, 0, none⟩), l3, .pointer (some ⟨w0.heap.size + 1, 0, none⟩), .int .i64 (i : Int), l6, l7, l8, l9, l10, l11, l12, l13, l14, l15, l16, l17, l18, l19, l20, l21, l22, l23, l24, l25, l26, l27, l28, l29, l30, l31, l32, l33, l34, l35, l36, l37, l38, l39, l40, l41, l42, l43, l44, l45, l46, l47, l48, l49, l50, l51, l52, l53, l54, l55, l56, l57, l58, l59, l60, l61, l62, l63, l64, l65, l66, l67, l68, l69, l70, l71, l72, l73, l74, l75, l76, l77, l78, l79, l80, l81, l82, l83, l84, l85, l86, l87, l88, l89, l90, l91, l92, l93, l94, l95, l96, l97, l98, l99, l100, l101, l102, l103, l104, l105, l106, l107, l108, l109, l110, l111, l112, l113, l114, l115, l116, l117, l118, l119, l120, l121, l122, l123, l124, l125, l126, l127, l128, l129, l130, l131, l132, l133, l134, l135, l136, l137, l138, l139, l140, l141, l142, l143, l144, l145, l146, l147, l148, l149, l150, l151, l152, l153, l154, l155, l156, l157, l158, l159, l160, l161, l162, l163, l164, l165], []⟩ w := by
  dsimp only
  conv => arg 2; whnf
  let BPX := bodyPost Tryz.prog Tryz.f5 (fun _ _ => True)
  have HSL : Hid (S.toList.length = S.size) := size_list S
  obtain ⟨c0, c1, c2, c3, c4⟩ := HB.out.cells
  obtain ⟨r0, r1, r2, r3, r4⟩ := HB.out.rcells
  have ff := fun o => (HB.out.free o).2
  have fg := fun o => (HB.out.free o).1
  obtain ⟨r, hr⟩ : ∃ r, S.toList.drop i = r := ⟨_, rfl⟩
  have hrl : r.length = S.size - i := by rw [← hr, List.length_drop, HSL.out]
  rw [hr] at HO
  by_cases hend : i = S.size
  · have hr0 : r = [] := List.eq_nil_of_length_eq_zero (by omega)
    have hO : O = some ⟨A1, g, l, p, []⟩ := by rw [← HO.out, hr0]; rfl
    have he2 : ((i : Int) == (S.size : Int)) = true := by simp; omega
    subst hO
    clear hr hr0 hrl HO
    go_wp2_with fail
    exact bodyPost_ret (v := .tuple #[.agg #[.string (txt A1), .string ⟨#[]⟩, .bool g, .int .i64 (l : Int), .int .i64 (p : Int)], .bool true]) (by simp [results, Tryz.results5, go_sem, r0, r1, r2, r3, r4]) rfl ⟨rfl, (((((HB.out.below).set _ _ _ (Nat.le_refl _)).set _ _ _ (Nat.le_refl _)).set _ _ _ (Nat.le_refl _)).set _ _ _ (Nat.le_refl _)).set _ _ _ (Nat.le_refl _)⟩
  · have he2 : ((i : Int) == (S.size : Int)) = false := by simp; omega
    have hlt : i < S.size := by omega
    have hlt' : (i : Int) ≤ (S.size : Int) := by omega
    have hlt'' : (i : Int) < (S.size : Int) := by omega
    have hlo : (0 : Int) ≤ (i : Int) := by omega
    have hhd : r.head? = some S[i] := by rw [← hr]; exact head_at hlt
    have hrc := head_cons hhd
    have hxl : (S.extract i S.size).toList = r := by
      have e := ext_take S i (S.size - i)
      rw [show i + (S.size - i) = S.size by omega] at e
      rw [e, ByteArray.toList_eq, txt_data, hr, List.take_of_length_le (by omega)]
    by_cases hpc : r = [37]
    · have hO : O = some ⟨A1, g, l, p, [37]⟩ := by rw [← HO.out, hpc]; rfl
      have hq : ((S.extract i S.size).toList == [37]) = true := by rw [hxl, hpc]; rfl
      have HB2 : Hid (FB w0 (txt A1) ⟨#[37]⟩ g (l : Int) (p : Int) (w.setCell ⟨w0.heap.size + 1, 1, none⟩ (.string ⟨#[37]⟩))) := HB.out.set 1 _ rfl
      subst hO
      clear hr hrl HO hrc hhd hxl hpc
      go_upto_region 33 with fail
      generalize (w.setCell ⟨w0.heap.size + 1, 1, none⟩ (.string ⟨#[37]⟩)) = w2 at *
      clear HB c0 c1 c2 c3 c4 r0 r1 r2 r3 r4 ff fg
      obtain ⟨c0, c1, c2, c3, c4⟩ := HB2.out.cells
      obtain ⟨r0, r1, r2, r3, r4⟩ := HB2.out.rcells
      have ff := fun o => (HB2.out.free o).2
      have fg := fun o => (HB2.out.free o).1
      go_wp2_with fail
      exact bodyPost_ret (v := .tuple #[.agg #[.string (txt A1), .string ⟨#[37]⟩, .bool g, .int .i64 (l : Int), .int .i64 (p : Int)], .bool true]) (by simp [results, Tryz.results5, go_sem, r0, r1, r2, r3, r4]) rfl ⟨rfl, (((((HB2.out.below).set _ _ _ (Nat.le_refl _)).set _ _ _ (Nat.le_refl _)).set _ _ _ (Nat.le_refl _)).set _ _ _ (Nat.le_refl _)).set _ _ _ (Nat.le_refl _)⟩
    · have hq : ((S.extract i S.size).toList == [37]) = false := by rw [hxl]; simpa using hpc
      by_cases h34 : S[i] = 34
      · have hx : ((S[i].toNat : Int) == 34) = true := by rw [h34]; rfl
        have hcb : cbL r = cqL r := by unfold cbL; rw [if_neg (by rw [hhd, h34]; decide)]
        have hcq : cqL r = (splitQ r.tail).getD ([], r) := by unfold cqL; rw [if_pos (by rw [hhd, h34])]
        have hne : r ≠ [] := by intro e; rw [e] at hhd; cases hhd
        rw [hcb, hcq] at HO
        obtain ⟨rt, hrt⟩ : ∃ rt, r.tail = rt := ⟨_, rfl⟩
        have hrtl : rt.length = S.size - i - 1 := by rw [← hrt, List.length_tail]; omega
        have HRA : Hid (∀ j, rt[j]? = S.toList[i + 1 + j]?) := fun j => by
          rw [← hrt, ← hr, ← List.drop_one, List.drop_drop, List.getElem?_drop]
        rw [hrt] at HO
        clear hrt hcb hcq hxl hpc
        go_upto_block 6 with fail
        go_cut [5] (fun s5 wx => ∃ j : Nat, s5 = .int .i64 ((i + 1 + j : Nat) : Int) ∧ wx = w ∧ i + 1 + j ≤ S.size ∧ Hid ((i + 1 + j = S.size ∧ splitQ rt = none) ∨ (i + 1 + j < S.size ∧ splitQ rt = some (rt.take j, rt.drop (j + 1)))))
        case first =>
          go_wp2_with fail
          go_loopw [5] (fun s5 wr => ∃ j : Nat, s5 = .int .i64 ((i + 1 + j : Nat) : Int) ∧ i + 1 + j ≤ S.size ∧ wr = w ∧ Hid (∀ q, q < j → rt[q]? ≠ some 34)) (fun s5 _ => S.size - (intOf s5).toNat)
          case atStart => exact ⟨0, by simp, by omega, rfl, fun q hq => by omega⟩
          case round =>
            obtain ⟨j, rfl, hj, rfl, HJ⟩ := hrel
            obtain ⟨m, hm⟩ : ∃ m, i + 1 + j = m := ⟨_, rfl⟩
            have HM : Hid (i + 1 + j = m) := hm
            rw [hm] at hj ⊢
            clear hm
            by_cases hml : m < S.size
            · have hml' : (m : Int) < (S.size : Int) := by omega
              have hm0 : (0 : Int) ≤ (m : Int) := by omega
              have hat : rt[j]? = some S[m] := by rw [HRA.out, HM.out]; exact at_list hml
              by_cases hq4 : S[m] = 34
              · have hx4 : ((S[m].toNat : Int) == 34) = true := by rw [hq4]; rfl
                have hsp := sq_some HJ.out (by rw [hat, hq4])
                have HSP : Hid ((m = S.size ∧ splitQ rt = none) ∨ (m < S.size ∧ splitQ rt = some (rt.take j, rt.drop (j + 1)))) := .inr ⟨hml, hsp⟩
                clear hsp hat hq4
                go_wp2_with fail
                go_meet
                case rel => exact ⟨j, by rw [HM.out], rfl, by rw [HM.out]; exact hj, by rw [HM.out]; exact HSP⟩
              · have hx4 : ((S[m].toNat : Int) == 34) = false := byte_ne (y := 34) (by decide) hq4
                have HJ2 : Hid (∀ q, q < j + 1 → rt[q]? ≠ some 34) := fun q hq => by
                  rcases Nat.lt_or_ge q j with h | h
                  · exact HJ.out q h
                  · have : q = j := by omega
                    subst this
                    rw [hat]
                    intro e
                    exact hq4 (Option.some.inj e)
                clear hat hq4
                go_wp2_with fail
                exact ⟨⟨j + 1, by have := HM.out; congr 1; omega, by have := HM.out; omega, trivial, HJ2⟩, by simp [intOf]; omega⟩
            · have hml' : ¬ (m : Int) < (S.size : Int) := by omega
              have hsp : splitQ rt = none := sq_none (fun q hq => HJ.out q (by have := HM.out; omega))
              have HSP : Hid ((m = S.size ∧ splitQ rt = none) ∨ (m < S.size ∧ splitQ rt = some (rt.take j, rt.drop (j + 1)))) := .inl ⟨by omega, hsp⟩
              clear hsp
              go_wp2_with fail
              go_meet
              case rel => exact ⟨j, by rw [HM.out], rfl, by rw [HM.out]; exact hj, by rw [HM.out]; exact HSP⟩
        case rest =>
        obtain ⟨j, rfl, rfl, hj, HSP⟩ := hcut
        apply_assumption
        obtain ⟨m, hm⟩ : ∃ m, i + 1 + j = m := ⟨_, rfl⟩
        have HM : Hid (i + 1 + j = m) := hm
        rw [hm] at hj HSP ⊢
        clear hm
        by_cases hm1 : m + 1 = S.size
        · obtain ⟨hml, hsp⟩ : m < S.size ∧ splitQ rt = some (rt.take j, rt.drop (j + 1)) := by
            rcases HSP.out with ⟨h, -⟩ | h
            · omega
            · exact h
          have hd0 : rt.drop (j + 1) = [] := by rw [List.drop_eq_nil_iff]; have := HM.out; omega
          have hO : O = some ⟨A1, g, l, p, rt.take j⟩ := by
            rw [← HO.out, hsp]
            simp only [Option.getD_some, hd0]
            rw [if_neg (by simp)]
          have hex : S.extract (i + 1) m = txt (rt.take j) := by
            rw [← HM.out, ext_take]
            congr 2
            apply List.ext_getElem?
            intro q
            rw [List.getElem?_drop, HRA.out]
          have hm2 : (m : Int) = (S.size : Int) - 1 := by omega
          have hm3 : ((m : Int) == (S.size : Int) - 1) = true := by simp; omega
          have hml2 : (m : Int) ≤ (S.size : Int) := by omega
          have hil : ((i + 1 : Nat) : Int) ≤ (m : Int) := by have := HM.out; omega
          have hil2 : (i : Int) + 1 ≤ (m : Int) := by have := HM.out; omega
          have hil0 : (0 : Int) ≤ (i : Int) + 1 := by omega
          have hil3 : i + 1 ≤ m := by have := HM.out; omega
          have HB2 : Hid (FB w0 (txt A1) (txt (rt.take j)) g (l : Int) (p : Int) (wc.setCell ⟨w0.heap.size + 1, 1, none⟩ (.string (txt (rt.take j))))) := HB.out.set 1 _ rfl
          have HRL : Hid (RCo O (.returned (.tuple #[.agg #[.string (txt A1), .string (txt (rt.take j)), .bool g, .int .i64 (l : Int), .int .i64 (p : Int)], .bool true]))) := by rw [hO]; exact rfl
          clear hO hd0 hsp hml HSP HO hr hrl hrc hhd HRA hm2
          generalize txt (rt.take j) = TB at *
          go_upto_region 43 with fail
          generalize (wc.setCell ⟨w0.heap.size + 1, 1, none⟩ (.string TB)) = w2 at *
          clear HB c0 c1 c2 c3 c4 r0 r1 r2 r3 r4 ff fg
          obtain ⟨c0, c1, c2, c3, c4⟩ := HB2.out.cells
          obtain ⟨r0, r1, r2, r3, r4⟩ := HB2.out.rcells
          have ff := fun o => (HB2.out.free o).2
          have fg := fun o => (HB2.out.free o).1
          go_wp2_with fail
          exact bodyPost_ret (v := .tuple #[.agg #[.string (txt A1), .string TB, .bool g, .int .i64 (l : Int), .int .i64 (p : Int)], .bool true]) (by simp [results, Tryz.results5, go_sem, r0, r1, r2, r3, r4]) rfl ⟨HRL.out, (((((HB2.out.below).set _ _ _ (Nat.le_refl _)).set _ _ _ (Nat.le_refl _)).set _ _ _ (Nat.le_refl _)).set _ _ _ (Nat.le_refl _)).set _ _ _ (Nat.le_refl _)⟩
        · have hO : O = none := by
            rw [← HO.out]
            rcases HSP.out with ⟨-, h⟩ | ⟨h, h2⟩
            · rw [h, Option.getD_none, if_pos hne]
            · rw [h2, Option.getD_some, if_pos]
              intro e
              have := congrArg List.length e
              rw [List.length_drop] at this
              have h3 := HM.out
              simp at this
              omega
          have hm3 : ((m : Int) == (S.size : Int) - 1) = false := by simp; omega
          subst hO
          clear HSP HO hr hrl hrc hhd HRA
          go_wp2_with fail
          exact bodyPost_ret (v := .tuple #[.agg #[.string (txt A1), .string ⟨#[]⟩, .bool g, .int .i64 (l : Int), .int .i64 (p : Int)], .bool false]) (by simp [results, Tryz.results5, go_sem, r0, r1, r2, r3, r4]) rfl ⟨⟨_, _, _, _, _, rfl⟩, (((((HB.out.below).set _ _ _ (Nat.le_refl _)).set _ _ _ (Nat.le_refl _)).set _ _ _ (Nat.le_refl _)).set _ _ _ (Nat.le_refl _)).set _ _ _ (Nat.le_refl _)⟩
      · have hx : ((S[i].toNat : Int) == 34) = false := byte_ne (y := 34) (by decide) h34
        have hcb2 : (cbL r).2 ≠ [] := by
          unfold cbL
          by_cases h37 : S[i] = 37
          · rw [if_pos (by rw [hhd, h37])]
            intro e
            apply hpc
            rw [hrc, h37]
            have e2 : r.tail = [] := e
            rw [e2]
          · rw [if_neg (by rw [hhd]; intro e; exact h37 (Option.some.inj e))]
            unfold cqL
            rw [if_neg (by rw [hhd]; intro e; exact h34 (Option.some.inj e))]
            intro e
            have e2 : r = [] := e
            rw [e2] at hhd
            cases hhd
        have hO : O = none := by rw [← HO.out, if_pos hcb2]
        subst hO
        clear HO hr hrl hrc hhd hxl hpc
        go_wp2_with fail
        exact bodyPost_ret (v := .tuple #[.agg #[.string (txt A1), .string ⟨#[]⟩, .bool g, .int .i64 (l : Int), .int .i64 (p : Int)], .bool false]) (by simp [results, Tryz.results5, go_sem, r0, r1, r2, r3, r4]) rfl ⟨⟨_, _, _, _, _, rfl⟩, (((((HB.out.below).set _ _ _ (Nat.le_refl _)).set _ _ _ (Nat.le_refl _)).set _ _ _ (Nat.le_refl _)).set _ _ _ (Nat.le_refl _)).set _ _ _ (Nat.le_refl _)⟩
end Go.Proofs.YtnelglmbckgbgaaGreatDoor.fw
