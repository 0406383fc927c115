
/- The law SortStands, from its two last calls on. Conditions: as each theorem says. -/
import Derived.Test.YtehamdkjdbaceaaUf
import Derived.Test.YtehamdkjdbaceaaSi
namespace Go.Proofs.Ytehamdkjdbaceaa.so
open Go.RowKit Go.Sort Go.Shelf
/-- A list in a strict order is told by what is in it. -/
theorem pw_eq {α : Type} {R : α → α → Prop} (ass : ∀ a b, R a b → R b a → False) : ∀ {l1 l2 : List α}, l1.Perm l2 → l1.Pairwise R → l2.Pairwise R → l1 = l2
  | [], l2, h, _, _ => by rw [List.nil_perm.1 h]
  | a :: t1, [], h, _, _ => by simp at h
  | a :: t1, b :: t2, h, h1, h2 => by
    have e : a = b := by
      rcases List.mem_cons.1 (h.mem_iff.1 (List.mem_cons_self)) with e | e
      · exact e
      · rcases List.mem_cons.1 (h.mem_iff.2 (List.mem_cons_self)) with e' | e'
        · exact e'.symm
        · exact (ass _ _ ((List.pairwise_cons.1 h1).1 b e') ((List.pairwise_cons.1 h2).1 a e)).elim
    subst e
    rw [pw_eq ass h.cons_inv (List.pairwise_cons.1 h1).2 (List.pairwise_cons.1 h2).2]
theorem tn_as {T : Tb} {n : Nat} {c : Nat → Int} {d : Nat → Bool} (x y : Nat) (h1 : Tn T n c d x y) (h2 : Tn T n c d y x) : False := by
  unfold Tn at *
  have := crw_neg (T.v x) (T.v y) c d n 0
  omega
theorem StN.one {T : Tb} {n : Nat} {c : Nat → Int} {d : Nat → Bool} {Z Z' : List Nat} (h : StN T n c d Z) (h' : StN T n c d Z') : Z = Z' := pw_eq (fun x y => tn_as x y) (h.1.trans h'.1.symm) h.2 h'.2
theorem StN.none {T : Tb} {c : Nat → Int} {d : Nat → Bool} {Z : List Nat} (h : StN T 0 c d Z) : Z = List.range T.q :=
  h.one ⟨List.Perm.refl _, List.pairwise_lt_range.imp (fun hab => .inr ⟨rfl, hab⟩)⟩
theorem nthN_range {q i : Nat} (h : i < q) : nthN (List.range q) i = (i : Int) := by
  unfold nthN
  rw [List.getD_eq_getElem?_getD, List.getElem?_map, List.getElem?_range h]
  rfl
noncomputable def tail28C : Code := ((Try.f3.body.bind (findSeq 28)).getD .skip)
set_option maxRecDepth 1000000 in
set_option maxHeartbeats 16000000 in
theorem tail28 (p : Option Addr) (cp q cn : Nat) (pn : Option Addr) (w0 w : World) (hq60 : q ≤ 60) (HI : Hid (IM w pn q (fun i => (i : Int)))) (HB0 : Hid (Bw w0 w))
    (l1 l2 l3 l4 l5 l6 l7 l8 l9 l10 l11 l12 l17 l18 l19 l20 l21 l22 l23 l24 l25 l26 l27 l28 l29 l30 l31 l32 l33 l34 l35 l36 l37 l38 l39 l40 l41 l42 l43 l44 l45 l46 l47 l48 l49 l50 l51 l52 l53 l54 l55 l56 l57 l58 l59 l60 l61 l62 l63 l64 l65 l66 l67 l68 l69 l70 l71 l72 l73 l74 l75 l76 l77 l78 l79 l80 l81 l82 l83 l84 l85 l86 l87 l88 l89 l90 l91 l92 l93 l94 l95 l96 l97 l98 l99 l100 l101 l102 l103 l104 l105 l106 l107 l108 l109 l110 l111 l112 l113 l114 l115 l116 l117 l118 l119 l120 l121 l122 l123 l124 l125 l126 l127 l128 l129 l130 l131 l132 l133 l134 l135 l136 l137 l138 l139 l140 l141 l142 l143 l144 l145 l146 l147 l148 l149 l150 l151 l152 l153 l154 l155 l156 l157 l158 l159 l160 l161 l162 l163 l164 l165 l166 l167 l168 l169 l170 l171 l172 l173 l174 l175 l176 l177 l178 l179 l180 l181 l182 l183 l184 l185 l186 l187 l188 l189 l190 l191 l192 l193 l194 l195 l196 l197 l198 l199 : Value) :
    Code.wp Try.prog tail28C (bodyPost Try.prog Try.f3 fun e w' => e = .returned (.bool true) ∧ Bw w0 w') ⟨#[.slice p q cp, l1, l2, l3, l4, l5, l6, l7, l8, l9, l10, l11, l12, .bool true, .nilIface, .slice pn q cn, .nilIface, l17, l18, l19, l20, l21, l22, l23, l24, l25, l26, l27, l28, l29, l30, l31, l32, l33, l34, l35, l36, l37, l38, l39, l40, l41, l42, l43, l44, l45, l46, l47, l48, l49, l50, l51, l52, l53, l54, l55, l56, l57, l58, l59, l60, l61, l62, l63, l64, l65, l66, l67, l68, l69, l70, l71, l72, l73, l74, l75, l76, l77, l78, l79, l80, l81, l82, l83, l84, l85, l86, l87, l88, l89, l90, l91, l92, l93, l94, l95, l96, l97, l98, l99, l100, l101, l102, l103, l104, l105, l106, l107, l108, l109, l110, l111, l112, l113, l114, l115, l116, l117, l118, l119, l120, l121, l122, l123, l124, l125, l126, l127, l128, l129, l130, l131, l132, l133, l134, l135, l136, l137, l138, l139, l140, l141, l142, l143, l144, l145, l146, l147, l148, l149, l150, l151, l152, l153, l154, l155, l156, l157, l158, l159, l160, l161, l162, l163, l164, l165, l166, l167, l168, l169, l170, l171, l172, l173, l174, l175, l176, l177, l178, l179, l180, l181, l182, l183, l184, l185, l186, l187, l188, l189, l190, l191, l192, l193, l194, l195, l196, l197, l198, l199], []⟩ w := by
  dsimp only
  conv => arg 2; whnf
  go_wp2_with fail
  go_loopw [17] (fun s17 wr => ∃ i : Nat, s17 = .int .i64 i ∧ i ≤ q ∧ w = wr) (fun s17 _ => q - (intOf s17).toNat)
  case atStart => exact ⟨0, rfl, Nat.zero_le _, rfl⟩
  case round =>
    obtain ⟨i, rfl, hi, rfl⟩ := hrel
    by_cases hlt : i < q
    · have hlt' : (i : Int) < (q : Int) := by omega
      have hi0 : (0 : Int) ≤ (i : Int) := by omega
      rcases HI.out with h | ⟨g, o, rfl, hg, h3⟩
      · omega
      have y0 := h3 i hlt
      clear h3 hg
      go_wp2_with fail
      exact ⟨⟨i + 1, by simp, hlt, trivial⟩, by simp [intOf]; omega⟩
    · have hlt' : ¬ (i : Int) < (q : Int) := by omega
      go_wp2_with fail
      go_ret
      exact ⟨rfl, HB0.out⟩
noncomputable def tail26C : Code := ((Try.f3.body.bind (findSeq 26)).getD .skip)
set_option maxRecDepth 1000000 in
set_option maxHeartbeats 16000000 in
theorem tail26 (T : Tb) (p : Option Addr) (cp : Nat) (p3 : Option Addr) (n c3 : Nat) (c : Nat → Int) (d : Nat → Bool) (q cv : Nat) (pv : Option Addr) (Z : List Nat) (w0 w : World) (HEQ : Hid (T.q = q)) (HT : Hid (TM w p T)) (HK : Hid (KM w p3 n c d)) (HCF : Hid (CF T n c 0)) (HL : Hid (∀ i, i < T.q → T.L i ≤ 9223372036854775807)) (HZ : Hid (StN T n c d Z)) (HIV : Hid (IM w pv q (nthN Z))) (HB0 : Hid (Bw w0 w))
    (l2 l3 l4 l5 l6 l8 l9 l10 l11 l12 l13 l14 l15 l16 l17 l18 l19 l20 l21 l22 l23 l24 l25 l26 l27 l28 l29 l30 l31 l32 l33 l34 l35 l36 l37 l38 l39 l40 l41 l42 l43 l44 l45 l46 l47 l48 l49 l50 l51 l52 l53 l54 l55 l56 l57 l58 l59 l60 l61 l62 l63 l64 l65 l66 l67 l68 l69 l70 l71 l72 l73 l74 l75 l76 l77 l78 l79 l80 l81 l82 l83 l84 l85 l86 l87 l88 l89 l90 l91 l92 l93 l94 l95 l96 l97 l98 l99 l100 l101 l102 l103 l104 l105 l106 l107 l108 l109 l110 l111 l112 l113 l114 l115 l116 l117 l118 l119 l120 l121 l122 l123 l124 l125 l126 l127 l128 l129 l130 l131 l132 l133 l134 l135 l136 l137 l138 l139 l140 l141 l142 l143 l144 l145 l146 l147 l148 l149 l150 l151 l152 l153 l154 l155 l156 l157 l158 l159 l160 l161 l162 l163 l164 l165 l166 l167 l168 l169 l170 l171 l172 l173 l174 l175 l176 l177 l178 l179 l180 l181 l182 l183 l184 l185 l186 l187 l188 l189 l190 l191 l192 l193 l194 l195 l196 l197 l198 l199 : Value) :
    Code.wp Try.prog tail26C (bodyPost Try.prog Try.f3 fun e w' => e = .returned (.bool true) ∧ Bw w0 w') ⟨#[.slice p q cp, .slice p3 n c3, l2, l3, l4, l5, l6, .slice pv q cv, l8, l9, l10, l11, l12, l13, l14, l15, l16, l17, l18, l19, l20, l21, l22, l23, l24, l25, l26, l27, l28, l29, l30, l31, l32, l33, l34, l35, l36, l37, l38, l39, l40, l41, l42, l43, l44, l45, l46, l47, l48, l49, l50, l51, l52, l53, l54, l55, l56, l57, l58, l59, l60, l61, l62, l63, l64, l65, l66, l67, l68, l69, l70, l71, l72, l73, l74, l75, l76, l77, l78, l79, l80, l81, l82, l83, l84, l85, l86, l87, l88, l89, l90, l91, l92, l93, l94, l95, l96, l97, l98, l99, l100, l101, l102, l103, l104, l105, l106, l107, l108, l109, l110, l111, l112, l113, l114, l115, l116, l117, l118, l119, l120, l121, l122, l123, l124, l125, l126, l127, l128, l129, l130, l131, l132, l133, l134, l135, l136, l137, l138, l139, l140, l141, l142, l143, l144, l145, l146, l147, l148, l149, l150, l151, l152, l153, l154, l155, l156, l157, l158, l159, l160, l161, l162, l163, l164, l165, l166, l167, l168, l169, l170, l171, l172, l173, l174, l175, l176, l177, l178, l179, l180, l181, l182, l183, l184, l185, l186, l187, l188, l189, l190, l191, l192, l193, l194, l195, l196, l197, l198, l199], []⟩ w := by
  dsimp only
  conv => arg 2; whnf
  have hq60 : q ≤ 60 := by rw [← HEQ.out]; exact HCF.out.zero.1.few
  have hn12 : n ≤ 12 := HCF.out.zero.2.1
  have HS1 := sorted_any T p cp p3 n c3 c d pv q cv (nthN Z) w HT.out HK.out HIV.out (by rw [HEQ.out]; omega) (by omega) (by omega) HL.out
  have HS2 : Hid (∀ wx, Bw w wx → Calls Try.prog 5 #[.slice p q cp, .slice none 0 0] wx fun e w' => SO T 0 (fun _ => 0) (fun _ => false) wx e w') := fun wx hb => by
    have := sort_any T p cp none 0 0 (fun _ => 0) (fun _ => false) wx (HT.out.next hb) (.inl rfl) (by rw [HEQ.out]; omega) (by omega) HL.out
    rwa [HEQ.out] at this
  rw [HEQ.out] at HS1
  let BPX := bodyPost Try.prog Try.f3 (fun _ _ => True)
  go_upto_region 26 with fail
  go_cut [13, 14] (fun s13 s14 wx => s13 = .bool true ∧ s14 = .nilIface ∧ Hid (Bw w wx))
  case first =>
    go_wp2_with fail
    refine HS1.mono ?_
    clear HS1
    rintro e w1 ⟨⟨x, b, rfl, hx, -, hb⟩, hbw⟩
    have hx0 := hx.one HCF.out
    subst hx0
    obtain ⟨Z2, hZ2, hb2⟩ := hb rfl
    have eZ := hZ2.one HZ.out
    subst eZ
    have hbt : b = true := by rw [hb2]; exact sameL_true.2 ⟨by rw [stn_len hZ2, HEQ.out], fun _ _ => rfl⟩
    subst hbt
    have HBW : Hid (Bw w w1) := hbw
    rw [errV_0]
    clear hx hb hZ2 hb2 hbw
    go_wp2_with fail
    go_meet
    case rel => exact ⟨rfl, rfl, HBW⟩
  case rest =>
  obtain ⟨rfl, rfl, HB1⟩ := hcut
  apply_assumption
  clear HS1
  have HS3 := HS2.out wc HB1.out
  go_upto_region 27 with fail
  go_cut [15, 16] (fun s15 s16 wx => s16 = .nilIface ∧ ∃ pn cn, s15 = .slice pn q cn ∧ Hid (IM wx pn q (fun i => (i : Int))) ∧ Hid (Bw w wx))
  case first =>
    go_wp2_with fail
    refine HS3.mono ?_
    clear HS3
    rintro e w1 ⟨⟨x, v, rfl, hx, -, hv⟩, hbw⟩
    have hx0 : x = 0 := hx.one (.inr ⟨.inr (.inr (.inr (.inr ⟨rfl, HCF.out.zero.1⟩))), .inr (.inr ⟨rfl, by omega, fun i hi => absurd hi (Nat.not_lt_zero _)⟩)⟩)
    subst hx0
    obtain ⟨W, Z2, -, hZ2, hIV⟩ := hv rfl
    have e2 := hZ2.none
    subst e2
    obtain ⟨pn, cn, rfl, him⟩ := hIV.im
    have hl : (natI (List.range T.q)).length = q := by simp [HEQ.out]
    rw [hl] at him ⊢
    have HIN : Hid (IM w1 pn q (fun i => (i : Int))) := him.congr (fun i hi => nthN_range (by rw [HEQ.out]; exact hi))
    have HBW : Hid (Bw w w1) := HB1.out.tr hbw
    rw [errV_0]
    clear hx hv hZ2 hIV him hl hbw
    go_wp2_with fail
    go_meet
    case rel => exact ⟨rfl, pn, cn, rfl, HIN, HBW⟩
  case rest =>
  obtain ⟨rfl, pn, cn, rfl, HIN, HB2⟩ := hcut
  apply_assumption
  exact tail28 p cp q cn pn w0 wc hq60 HIN (HB0.out.tr HB2.out) _ _ _ _ _ _ _ _ _ _ _ _ _ _ _ _ _ _ _ _ _ _ _ _ _ _ _ _ _ _ _ _ _ _ _ _ _ _ _ _ _ _ _ _ _ _ _ _ _ _ _ _ _ _ _ _ _ _ _ _ _ _ _ _ _ _ _ _ _ _ _ _ _ _ _ _ _ _ _ _ _ _ _ _ _ _ _ _ _ _ _ _ _ _ _ _ _ _ _ _ _ _ _ _ _ _ _ _ _ _ _ _ _ _ _ _ _ _ _ _ _ _ _ _ _ _ _ _ _ _ _ _ _ _ _ _ _ _ _ _ _ _ _ _ _ _ _ _ _ _ _ _ _ _ _ _ _ _ _ _ _ _ _ _ _ _ _ _ _ _ _ _ _ _ _ _ _ _ _ _ _ _ _ _ _ _ _ _ _ _ _ _ _ _ _
end Go.Proofs.Ytehamdkjdbaceaa.so
