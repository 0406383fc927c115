
/- The law FormatWide, from the letters on. Conditions: as each theorem says. -/
import Derived.Test.YtnelglmbckgbgaaDoorFwd
namespace Go.Proofs.YtnelglmbckgbgaaDoor.fw
open Go.RowKit Go.Sort
/-- Where the reading of letters stands. -/
def RL (l : List UInt8) (i : Nat) (n : Nat) (G : Bool) : Prop := (G = true ∧ l.isEmpty = false ∧ l.length ≤ 5 ∧ (l.take i).all ltr = true ∧ n = numL (l.take i) ∧ n + 1 ≤ 27 ^ i) ∨ (G = false ∧ gdL l = false)
theorem at_list {s : ByteArray} {i : Nat} (h : i < s.size) : s.toList[i]? = some s[i] := by
  rw [ByteArray.toList_eq, List.getElem?_eq_getElem (by simpa using h)]
  rfl
theorem rl_yes {l : List UInt8} {i n : Nat} {b : UInt8} (h : RL l i n true) (hb : l[i]? = some b) (hl : ltr b = true) : RL l (i + 1) (n * 26 + (b.toNat - 64)) true := by
  rcases h with ⟨-, h1, h2, h3, h4, h5⟩ | ⟨h, -⟩
  · have hi := (List.getElem?_eq_some_iff.1 hb).1
    have e : l.take (i + 1) = l.take i ++ [b] := by rw [List.take_succ_eq_append_getElem hi, (List.getElem?_eq_some_iff.1 hb).2]
    have h90 : b.toNat ≤ 90 := by unfold ltr at hl; simp at hl; exact hl.2
    refine .inl ⟨rfl, h1, h2, by rw [e, List.all_append, h3]; simp [hl], by rw [e, numL_snoc, h4], ?_⟩
    rw [Nat.pow_succ]
    omega
  · cases h
theorem rl_no {l : List UInt8} {i n : Nat} {b : UInt8} (hb : l[i]? = some b) (hl : ltr b = false) : RL l (i + 1) n false := by
  refine .inr ⟨rfl, ?_⟩
  have : l.all ltr = false := by
    rw [List.all_eq_false]
    exact ⟨b, List.mem_of_getElem? hb, by simp [hl]⟩
  unfold gdL
  rw [this]
  simp
theorem rl_end {l : List UInt8} {i n : Nat} {G : Bool} (h : RL l i n G) (hi : l.length = i ∨ G = false) : (G = true ∧ gdL l = true ∧ n = numL l ∧ n ≤ 100000000) ∨ (G = false ∧ gdL l = false) := by
  rcases h with ⟨h0, h1, h2, h3, h4, h5⟩ | h
  · rcases hi with hi | hi
    · rw [List.take_of_length_le (by omega)] at h3 h4
      refine .inl ⟨h0, ?_, h4, ?_⟩
      · unfold gdL; rw [h1, h3, decide_eq_true h2]; rfl
      · have e1 : (27 : Nat) ^ i ≤ 27 ^ 5 := Nat.pow_le_pow_right (by omega) (by omega)
        have e : (27 : Nat) ^ 5 = 14348907 := by decide
        omega
    · rw [h0] at hi; cases hi
  · exact .inr h
theorem rl_small {l : List UInt8} {i n : Nat} (h : RL l i n true) (hi : i ≤ l.length) : n ≤ 100000000 := by
  rcases h with ⟨-, -, h2, -, -, h5⟩ | ⟨h, -⟩
  · have : (27 : Nat) ^ i ≤ 27 ^ 5 := Nat.pow_le_pow_right (by omega) (by omega)
    have e : (27 : Nat) ^ 5 = 14348907 := by decide
    omega
  · cases h
noncomputable def wtail19C : Code := ((Tryd.f3.body.bind (findSeq 19)).getD .skip)
set_option maxRecDepth 1000000 in
set_option maxHeartbeats 8000000 in
theorem wtail19 (s : ByteArray) (w0 w : World) (hs : s.size ≤ 140737488351232) (HB : Hid (Bw w0 w)) (HN : Hid (∀ wx, Bw w0 wx → Calls Tryd.prog 10 #[.string s] wx fun e w' => e = .returned (.tuple #[.int .i64 (nmN s.toList), errV (nmE s.toList)]) ∧ Bw wx w')) (HE : Hid (∀ wx e, Bw w0 wx → Calls Tryd.prog 7 #[errV e, .int .i64 e] wx fun r w' => r = .returned (.bool true) ∧ Bw wx w'))
    (l1 l2 l3 l4 l5 l6 l7 l8 l9 l10 l11 l12 l13 l14 l15 l16 l17 l18 l19 l20 l21 l22 l23 l24 l25 l26 l27 l28 l29 l30 l31 l32 l33 l34 l35 l36 l37 l38 l39 l40 l41 l42 l43 l44 l45 l46 l47 l48 l49 l50 l51 l52 l53 l54 l55 l56 l57 l58 l59 l60 l61 l62 l63 l64 l65 l66 l67 l68 l69 l70 l71 l72 l73 l74 l75 l76 l77 l78 l79 l80 l81 l82 l83 l84 l85 l86 l87 l88 l89 l90 l91 l92 l93 l94 l95 l96 l97 l98 l99 l100 l101 l102 l103 l104 l105 l106 l107 l108 l109 l110 l111 l112 l113 l114 l115 l116 l117 l118 l119 l120 l121 l122 l123 l124 l125 l126 l127 l128 : Value) :
    Code.wp Tryd.prog wtail19C (bodyPost Tryd.prog Tryd.f3 fun e w' => e = .returned (.bool true) ∧ Bw w0 w') ⟨#[.string s, l1, l2, l3, l4, l5, l6, l7, l8, l9, l10, l11, l12, l13, l14, l15, l16, l17, l18, l19, l20, l21, l22, l23, l24, l25, l26, l27, l28, l29, l30, l31, l32, l33, l34, l35, l36, l37, l38, l39, l40, l41, l42, l43, l44, l45, l46, l47, l48, l49, l50, l51, l52, l53, l54, l55, l56, l57, l58, l59, l60, l61, l62, l63, l64, l65, l66, l67, l68, l69, l70, l71, l72, l73, l74, l75, l76, l77, l78, l79, l80, l81, l82, l83, l84, l85, l86, l87, l88, l89, l90, l91, l92, l93, l94, l95, l96, l97, l98, l99, l100, l101, l102, l103, l104, l105, l106, l107, l108, l109, l110, l111, l112, l113, l114, l115, l116, l117, l118, l119, l120, l121, l122, l123, l124, l125, l126, l127, l128], []⟩ w := by
  dsimp only
  conv => arg 2; whnf
  let BPX := bodyPost Tryd.prog Tryd.f3 (fun _ _ => True)
  have HSL : Hid (s.toList.length = s.size) := size_list s
  go_upto_region 21 with fail
  go_cut [15] (fun s15 wx => ∃ G : Bool, s15 = .bool G ∧ wx = w ∧ Hid (RL s.toList 0 0 G))
  case first =>
    by_cases he : s.toList.isEmpty = true
    · have HG : Hid (RL s.toList 0 0 false) := .inr ⟨rfl, by unfold gdL; rw [he]; rfl⟩
      go_wp2_with fail
      go_meet
      case rel => exact ⟨false, by simp, rfl, HG⟩
    · have he' : s.toList.isEmpty = false := by simpa using he
      by_cases h5 : s.size ≤ 5
      · have h5' : (s.size : Int) ≤ 5 := by omega
        have HG : Hid (RL s.toList 0 0 true) := .inl ⟨rfl, he', by rw [HSL.out]; exact h5, rfl, rfl, by omega⟩
        go_wp2_with fail
        go_meet
        case rel => exact ⟨true, by simp, rfl, HG⟩
      · have h5' : ¬ (s.size : Int) ≤ 5 := by omega
        have HG : Hid (RL s.toList 0 0 false) := .inr ⟨rfl, by unfold gdL; rw [he', decide_eq_false (by rw [HSL.out]; exact h5)]; rfl⟩
        go_wp2_with fail
        go_meet
        case rel => exact ⟨false, by simp, rfl, HG⟩
  case rest =>
  obtain ⟨G0, rfl, rfl, HG0⟩ := hcut
  apply_assumption
  go_upto_block 0 with fail
  go_cut [14, 15] (fun s14 s15 wx => ∃ (n : Nat) (G : Bool), s14 = .int .i64 (n : Int) ∧ s15 = .bool G ∧ wx = wc ∧ Hid ((G = true ∧ gdL s.toList = true ∧ n = numL s.toList ∧ n ≤ 100000000) ∨ (G = false ∧ gdL s.toList = false)))
  case first =>
    generalize wc = wo at *
    go_wp2_with fail
    go_loopw [14, 15, 16] (fun s14 s15 s16 wr => ∃ (i n : Nat) (G : Bool), s16 = .int .i64 (i : Int) ∧ s14 = .int .i64 (n : Int) ∧ s15 = .bool G ∧ i ≤ s.size ∧ wr = wo ∧ Hid (RL s.toList i n G)) (fun _ _ s16 _ => s.size - (intOf s16).toNat)
    case atStart => exact ⟨0, 0, G0, rfl, rfl, rfl, Nat.zero_le _, rfl, HG0⟩
    case round =>
      obtain ⟨i, n, G, rfl, rfl, rfl, hi, rfl, HRL⟩ := hrel
      by_cases hlt : i < s.size
      · have hlt' : (i : Int) < (s.size : Int) := by omega
        have hi0 : (0 : Int) ≤ (i : Int) := by omega
        cases G with
        | true =>
          have hat := at_list hlt
          have hsm := rl_small HRL.out (by rw [HSL.out]; omega)
          by_cases hl : ltr s[i] = true
          · have HNX : Hid (RL s.toList (i + 1) (n * 26 + (s[i].toNat - 64)) true) := rl_yes HRL.out hat hl
            have hl2 : 65 ≤ s[i].toNat ∧ s[i].toNat ≤ 90 := by unfold ltr at hl; simp at hl; exact hl
            have h1 : ¬ (s[i].toNat : Int) < 65 := by omega
            have h2 : ¬ (s[i].toNat : Int) > 90 := by omega
            have hw : wrap64 (wrap64 (wrap64 ((n : Int) * 26) + (s[i].toNat : Int)) - 64) = ((n * 26 + (s[i].toNat - 64) : Nat) : Int) := by
              unfold wrap64; omega
            clear hat HRL
            go_wp2_with fail
            exact ⟨⟨i + 1, n * 26 + (s[i].toNat - 64), true, rfl, by congr 1; omega, rfl, hlt, trivial, HNX⟩, by simp [intOf]; omega⟩
          · have HNX : Hid (RL s.toList (i + 1) n false) := rl_no hat (by simpa using hl)
            have hl2 : s[i].toNat < 65 ∨ 90 < s[i].toNat := by unfold ltr at hl; simp at hl; omega
            clear hat HRL
            rcases hl2 with hl2 | hl2
            · have h1 : (s[i].toNat : Int) < 65 := by omega
              go_wp2_with fail
              exact ⟨⟨i + 1, n, false, rfl, rfl, rfl, hlt, trivial, HNX⟩, by simp [intOf]; omega⟩
            · have h1 : ¬ (s[i].toNat : Int) < 65 := by omega
              have h2 : (s[i].toNat : Int) > 90 := by omega
              go_wp2_with fail
              exact ⟨⟨i + 1, n, false, rfl, rfl, rfl, hlt, trivial, HNX⟩, by simp [intOf]; omega⟩
        | false =>
          go_wp2_with fail
          go_meet
          case rel => exact ⟨n, false, rfl, rfl, rfl, rl_end HRL.out (.inr rfl)⟩
      · have hlt' : ¬ (i : Int) < (s.size : Int) := by omega
        go_wp2_with fail
        go_meet
        case rel => exact ⟨n, G, rfl, rfl, rfl, rl_end HRL.out (.inl (by rw [HSL.out]; omega))⟩
  case rest =>
  obtain ⟨n, G, rfl, rfl, rfl, HF⟩ := hcut
  apply_assumption
  have hn := HN.out wc HB.out
  rcases HF.out with ⟨rfl, hg, hnum, hsm⟩ | ⟨rfl, hg⟩
  · by_cases hm : n ≤ 1000000
    · have hm' : (n : Int) ≤ 1000000 := by omega
      have e1 : nmE s.toList = 0 := by unfold nmE nmB; rw [hg, ← hnum, decide_eq_true hm]; rfl
      have e2 : nmN s.toList = (n : Int) := by unfold nmN nmB; rw [hg, ← hnum, decide_eq_true hm]; rfl
      rw [e1, e2] at hn
      clear e1 e2 HF hg hnum HG0
      go_upto_region 32 with fail
      refine hn.mono ?_
      clear hn HN
      rintro r w1 ⟨rfl, hb1⟩
      have HB1 : Hid (Bw w0 w1) := HB.out.tr hb1
      have he := HE.out w1 0 HB1.out
      clear hb1 HB HE
      generalize errV 0 = ev at *
      go_upto_region 32 with fail
      go_upto_region 33 with fail
      refine he.mono ?_
      clear he
      rintro r w2 ⟨rfl, hb2⟩
      have HB2 : Hid (Bw w0 w2) := HB1.out.tr hb2
      clear hb2 HB1
      go_wp2_with fail
      go_ret
      exact ⟨rfl, HB2.out⟩
    · have hm' : ¬ (n : Int) ≤ 1000000 := by omega
      have e1 : nmE s.toList = 2 := by unfold nmE nmB; rw [hg, ← hnum, decide_eq_false hm]; rfl
      have e2 : nmN s.toList = 0 := by unfold nmN nmB; rw [hg, ← hnum, decide_eq_false hm]; rfl
      rw [e1, e2] at hn
      clear e1 e2 HF hg hnum HG0
      go_upto_region 32 with fail
      refine hn.mono ?_
      clear hn HN
      rintro r w1 ⟨rfl, hb1⟩
      have HB1 : Hid (Bw w0 w1) := HB.out.tr hb1
      have he := HE.out w1 2 HB1.out
      clear hb1 HB HE
      generalize errV 2 = ev at *
      go_upto_region 32 with fail
      go_upto_region 33 with fail
      refine he.mono ?_
      clear he
      rintro r w2 ⟨rfl, hb2⟩
      have HB2 : Hid (Bw w0 w2) := HB1.out.tr hb2
      clear hb2 HB1
      go_wp2_with fail
      go_ret
      exact ⟨rfl, HB2.out⟩
  · have e1 : nmE s.toList = 2 := by unfold nmE nmB; rw [hg]; rfl
    have e2 : nmN s.toList = 0 := by unfold nmN nmB; rw [hg]; rfl
    rw [e1, e2] at hn
    clear e1 e2 HF hg HG0
    go_upto_region 32 with fail
    refine hn.mono ?_
    clear hn HN
    rintro r w1 ⟨rfl, hb1⟩
    have HB1 : Hid (Bw w0 w1) := HB.out.tr hb1
    have he := HE.out w1 2 HB1.out
    clear hb1 HB HE
    generalize errV 2 = ev at *
    go_upto_region 32 with fail
    go_upto_region 33 with fail
    refine he.mono ?_
    clear he
    rintro r w2 ⟨rfl, hb2⟩
    have HB2 : Hid (Bw w0 w2) := HB1.out.tr hb2
    clear hb2 HB1
    go_wp2_with fail
    go_ret
    exact ⟨rfl, HB2.out⟩
end Go.Proofs.YtnelglmbckgbgaaDoor.fw
