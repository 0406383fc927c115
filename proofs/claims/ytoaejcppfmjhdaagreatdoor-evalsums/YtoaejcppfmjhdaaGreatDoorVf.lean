/- The law EvalSums, walked: its loop. Conditions: what lies in its blocks. -/
import Derived.Test.YtoaejcppfmjhdaaGreatDoorVe
import Derived.Test.YtoaejcppfmjhdaaGreatDoorEy
import Derived.Test.YtoaejcppfmjhdaaGreatDoorVg
namespace Go.Proofs.YtoaejcppfmjhdaaGreatDoor.su
open Go.RowKit
open ev (VV LS cells3v findTail)
open fm (NV N12)
open ov
noncomputable def tail14C : Code := ((Tryz.f4.body.bind (findTail 14)).getD .skip)
noncomputable def tail27C : Code := ((Tryz.f4.body.bind (findTail 27)).getD .skip)
set_option maxRecDepth 1000000 in
set_option maxHeartbeats 8000000 in
theorem tail27 (B : Nat) (w0 w : World) (hB : Below B w0 w) (pl : Option Addr) (n cl bw ba bb bc bn : Nat) (l0 l1 l2 l3 l4 l5 l6 l7 l8 l15 l16 l17 l18 l19 l20 l21 l22 l23 l24 l25 l26 l27 l28 l29 l30 l31 l32 l33 l34 l35 l36 l37 l38 l39 l40 l41 l42 l43 l44 l45 l46 l47 l48 l49 l50 l51 l52 l53 l54 l55 l56 l57 l58 l59 l60 l61 l62 l63 l64 l65 l66 l67 l68 l69 l70 l71 l72 l73 l74 l75 l76 l77 l78 l79 l80 l81 l82 l83 l84 l85 l86 l87 l88 l89 l90 l91 l92 l93 l94 l95 l96 l97 l98 l99 l100 l101 l102 l103 l104 l105 l106 l107 l108 l109 l110 l111 l112 l113 l114 l115 l116 l117 l118 l119 l120 l121 l122 l123 l124 l125 l126 l127 l128 l129 l130 l131 l132 l133 l134 l135 l136 l137 l138 l139 l140 l141 l142 l143 l144 l145 l146 l147 l148 l149 l150 l151 l152 l153 l154 l155 l156 l157 l158 l159 l160 l161 l162 l163 l164 l165 l166 l167 l168 l169 l170 l171 l172 l173 l174 l175 l176 l177 l178 : Value) : Code.wp Tryz.prog tail27C (bodyPost Tryz.prog Tryz.f4 fun e w' => e = .returned (.bool true) ∧ Below B w0 w') ⟨#[l0, l1, l2, l3, l4, l5, l6, l7, l8, .slice pl n cl, .slice (some ⟨bw, 0, none⟩) 1 1, .slice (some ⟨ba, 0, none⟩) 1 1, .slice (some ⟨bb, 0, none⟩) 1 1, .slice (some ⟨bc, 0, none⟩) 2 2, .slice (some ⟨bn, 0, none⟩) 5 5, l15, l16, l17, l18, l19, l20, l21, l22, l23, l24, l25, l26, l27, l28, l29, l30, l31, l32, l33, l34, l35, l36, l37, l38, l39, l40, l41, l42, l43, l44, l45, l46, l47, l48, l49, l50, l51, l52, l53, l54, l55, l56, l57, l58, l59, l60, l61, l62, l63, l64, l65, l66, l67, l68, l69, l70, l71, l72, l73, l74, l75, l76, l77, l78, l79, l80, l81, l82, l83, l84, l85, l86, l87, l88, l89, l90, l91, l92, l93, l94, l95, l96, l97, l98, l99, l100, l101, l102, l103, l104, l105, l106, l107, l108, l109, l110, l111, l112, l113, l114, l115, l116, l117, l118, l119, l120, l121, l122, l123, l124, l125, l126, l127, l128, l129, l130, l131, l132, l133, l134, l135, l136, l137, l138, l139, l140, l141, l142, l143, l144, l145, l146, l147, l148, l149, l150, l151, l152, l153, l154, l155, l156, l157, l158, l159, l160, l161, l162, l163, l164, l165, l166, l167, l168, l169, l170, l171, l172, l173, l174, l175, l176, l177, l178], []⟩ w := by
  dsimp only
  conv => arg 2; whnf
  go_wp2_with fail
  go_ret
  exact ⟨rfl, hB⟩
set_option maxRecDepth 1000000 in
set_option maxHeartbeats 32000000 in
theorem tail14 (B : Nat) (w0 : World) (Q : Exit → Act → World → Prop) (pl : Option Addr) (n cl bw ba bb bc bn : Nat) (X Pv Qv Sv : Nat → V3) (w : World)
    (hB0 : Below B w0 w) (hBs : B ≤ w.heap.size) (hQ : ∀ a wx, Code.wp Tryz.prog tail27C (bodyPost Tryz.prog Tryz.f4 fun e w' => e = .returned (.bool true) ∧ Below B w0 w') a wx → Q .normal a wx)
    (HNm : Hid (∀ wx (j : Nat), j < 5 → Below w.heap.size w wx → wx.cell? ⟨bn, j, none⟩ = some (.string (nmJ j))))
    (HW1 : Hid (∀ (j : Nat) wx, j < 5 → Below w.heap.size w wx → Calls Tryz.prog 14 #[NV 9 0 (nmJ j) .z .z (.slice (some ⟨bw, 0, none⟩) 1 1), .slice pl n cl] wx fun e w' => e = .returned (.tuple #[VV (X j).k (X j).n (X j).s, .bool true]) ∧ Below wx.heap.size wx w'))
    (HW2 : Hid (∀ (j : Nat) wx, j < 5 → Below w.heap.size w wx → Calls Tryz.prog 14 #[NV 9 0 (nmJ j) .z .z (.slice (some ⟨bc, 0, none⟩) 2 2), .slice pl n cl] wx fun e w' => e = .returned (.tuple #[VV (X j).k (X j).n (X j).s, .bool true]) ∧ Below wx.heap.size wx w'))
    (HW3 : Hid (∀ (j : Nat) wx, j < 5 → Below w.heap.size w wx → Calls Tryz.prog 14 #[NV 9 0 (nmJ j) .z .z (.slice (some ⟨ba, 0, none⟩) 1 1), .slice pl n cl] wx fun e w' => e = .returned (.tuple #[VV (Pv j).k (Pv j).n (Pv j).s, .bool true]) ∧ Below wx.heap.size wx w'))
    (HW4 : Hid (∀ (j : Nat) wx, j < 5 → Below w.heap.size w wx → Calls Tryz.prog 14 #[NV 9 0 (nmJ j) .z .z (.slice (some ⟨bb, 0, none⟩) 1 1), .slice pl n cl] wx fun e w' => e = .returned (.tuple #[VV (Qv j).k (Qv j).n (Qv j).s, .bool true]) ∧ Below wx.heap.size wx w'))
    (H20 : Hid (∀ (j : Nat) wx, j ≤ 2 → Calls Tryz.prog 20 #[.int .i64 8, VV (Pv j).k (Pv j).n (Pv j).s, VV (Qv j).k (Qv j).n (Qv j).s] wx fun e w' => e = .returned (VV (Sv j).k (Sv j).n (Sv j).s) ∧ Below wx.heap.size wx w'))
    (HC : Hid (∀ j : Nat, j ≤ 2 → (Sv j).k = 1 → (X j).k = 1 → Sv j = X j))
    (l0 l1 l2 l3 l4 l5 l6 l7 l8 l15 l16 l17 l18 l19 l20 l21 l22 l23 l24 l25 l26 l27 l28 l29 l30 l31 l32 l33 l34 l35 l36 l37 l38 l39 l40 l41 l42 l43 l44 l45 l46 l47 l48 l49 l50 l51 l52 l53 l54 l55 l56 l57 l58 l59 l60 l61 l62 l63 l64 l65 l66 l67 l68 l69 l70 l71 l72 l73 l74 l75 l76 l77 l78 l79 l80 l81 l82 l83 l84 l85 l86 l87 l88 l89 l90 l91 l92 l93 l94 l95 l96 l97 l98 l99 l100 l101 l102 l103 l104 l105 l106 l107 l108 l109 l110 l111 l112 l113 l114 l115 l116 l117 l118 l119 l120 l121 l122 l123 l124 l125 l126 l127 l128 l129 l130 l131 l132 l133 l134 l135 l136 l137 l138 l139 l140 l141 l142 l143 l144 l145 l146 l147 l148 l149 l150 l151 l152 l153 l154 l155 l156 l157 l158 l159 l160 l161 l162 l163 l164 l165 l166 l167 l168 l169 l170 l171 l172 l173 l174 l175 l176 l177 l178 : Value) :
    Code.wp Tryz.prog tail14C Q ⟨#[l0, l1, l2, l3, l4, l5, l6, l7, l8, .slice pl n cl, .slice (some ⟨bw, 0, none⟩) 1 1, .slice (some ⟨ba, 0, none⟩) 1 1, .slice (some ⟨bb, 0, none⟩) 1 1, .slice (some ⟨bc, 0, none⟩) 2 2, .slice (some ⟨bn, 0, none⟩) 5 5, l15, l16, l17, l18, l19, l20, l21, l22, l23, l24, l25, l26, l27, l28, l29, l30, l31, l32, l33, l34, l35, l36, l37, l38, l39, l40, l41, l42, l43, l44, l45, l46, l47, l48, l49, l50, l51, l52, l53, l54, l55, l56, l57, l58, l59, l60, l61, l62, l63, l64, l65, l66, l67, l68, l69, l70, l71, l72, l73, l74, l75, l76, l77, l78, l79, l80, l81, l82, l83, l84, l85, l86, l87, l88, l89, l90, l91, l92, l93, l94, l95, l96, l97, l98, l99, l100, l101, l102, l103, l104, l105, l106, l107, l108, l109, l110, l111, l112, l113, l114, l115, l116, l117, l118, l119, l120, l121, l122, l123, l124, l125, l126, l127, l128, l129, l130, l131, l132, l133, l134, l135, l136, l137, l138, l139, l140, l141, l142, l143, l144, l145, l146, l147, l148, l149, l150, l151, l152, l153, l154, l155, l156, l157, l158, l159, l160, l161, l162, l163, l164, l165, l166, l167, l168, l169, l170, l171, l172, l173, l174, l175, l176, l177, l178], []⟩ w := by
  dsimp only
  conv => arg 2; whnf
  have HQ : Hid (∀ a wx, Code.wp Tryz.prog tail27C (bodyPost Tryz.prog Tryz.f4 fun e w' => e = .returned (.bool true) ∧ Below B w0 w') a wx → Q .normal a wx) := hQ
  have HBX : Hid (∀ wx, Below w.heap.size w wx → Below B w0 wx) := fun wx hb => hB0.trans (hb.mono hBs)
  clear hQ hB0 hBs
  have hg31 : Tryz.prog.eqGuardType Tryz.prog.depth 31 = false := by kernel_rfl
  have H15 : Hid (∀ nm p q c wx, Calls Tryz.prog 15 #[.string nm, .slice p q c] wx fun e w' => e = .returned (NV 9 0 nm .z .z (.slice p q c)) ∧ Below wx.heap.size wx w') := ev.lcall
  have e31 : ∀ (k n : Int) (s : ByteArray) (W : World), (binOp BinOp.neq 31 (VV k n s) (VV k n s)).run Tryz.prog W = .ok (.bool false) W := ev.neq31
  go_wp2_with fail
  go_loopw [15] (fun s15 wr => ∃ j : Nat, s15 = .int .i64 j ∧ j ≤ 5 ∧ Below w.heap.size w wr) (fun i _ => 5 - (intOf i).toNat)
  case atStart => exact ⟨0, rfl, by omega, Below.refl _ _⟩
  case round =>
    obtain ⟨j, rfl, hj, hbr⟩ := hrel
    by_cases hlt : j < 5
    · have hlt' : (j : Int) < 5 := by omega
      have hj0 : (0 : Int) ≤ (j : Int) := by omega
      have HN : Hid (∀ wx, Below w.heap.size w wx → wx.cell? ⟨bn, j, none⟩ = some (.string (nmJ j))) := fun wx hb => HNm.out wx j hlt hb
      have HV1 : Hid (∀ wx, Below w.heap.size w wx → Calls Tryz.prog 14 #[NV 9 0 (nmJ j) .z .z (.slice (some ⟨bw, 0, none⟩) 1 1), .slice pl n cl] wx fun e w' => e = .returned (.tuple #[VV (X j).k (X j).n (X j).s, .bool true]) ∧ Below wx.heap.size wx w') := fun wx hb => HW1.out j wx hlt hb
      have HV2 : Hid (∀ wx, Below w.heap.size w wx → Calls Tryz.prog 14 #[NV 9 0 (nmJ j) .z .z (.slice (some ⟨bc, 0, none⟩) 2 2), .slice pl n cl] wx fun e w' => e = .returned (.tuple #[VV (X j).k (X j).n (X j).s, .bool true]) ∧ Below wx.heap.size wx w') := fun wx hb => HW2.out j wx hlt hb
      have HV3 : Hid (∀ wx, Below w.heap.size w wx → Calls Tryz.prog 14 #[NV 9 0 (nmJ j) .z .z (.slice (some ⟨ba, 0, none⟩) 1 1), .slice pl n cl] wx fun e w' => e = .returned (.tuple #[VV (Pv j).k (Pv j).n (Pv j).s, .bool true]) ∧ Below wx.heap.size wx w') := fun wx hb => HW3.out j wx hlt hb
      have HV4 : Hid (∀ wx, Below w.heap.size w wx → Calls Tryz.prog 14 #[NV 9 0 (nmJ j) .z .z (.slice (some ⟨bb, 0, none⟩) 1 1), .slice pl n cl] wx fun e w' => e = .returned (.tuple #[VV (Qv j).k (Qv j).n (Qv j).s, .bool true]) ∧ Below wx.heap.size wx w') := fun wx hb => HW4.out j wx hlt hb
      have H2 : Hid (j ≤ 2 → ∀ wx, Calls Tryz.prog 20 #[.int .i64 8, VV (Pv j).k (Pv j).n (Pv j).s, VV (Qv j).k (Qv j).n (Qv j).s] wx fun e w' => e = .returned (VV (Sv j).k (Sv j).n (Sv j).s) ∧ Below wx.heap.size wx w') := fun h wx => H20.out j wx h
      have HCj : Hid (j ≤ 2 → (Sv j).k = 1 → (X j).k = 1 → Sv j = X j) := HC.out j
      clear HNm HW1 HW2 HW3 HW4 H20 HC HQ HBX
      generalize nmJ j = nm at *
      generalize X j = x at *
      generalize Pv j = pp at *
      generalize Qv j = qq at *
      generalize Sv j = sv at *
      obtain ⟨xk, xn, xs⟩ := x
      obtain ⟨pk, pn, ps⟩ := pp
      obtain ⟨qk, qn, qs⟩ := qq
      obtain ⟨sk, sn, ss⟩ := sv
      dsimp only at HV1 HV2 HV3 HV4 H2 HCj
      have HS : Hid (LS w [] wr) := ⟨fun x hx => absurd hx List.not_mem_nil, hbr⟩
      clear hbr
      have nc := HN.out _ HS.out.below
      go_wp2_with fail
      refine (H15.out _ _ _ _ _).mono ?_
      rintro e w1a ⟨rfl, hb⟩
      have HA1 : Hid (LS w [] w1a) := HS.out.next hb
      clear hb HS nc
      go_wp2_with fail
      refine (HV1.out _ HA1.out.below).mono ?_
      rintro e w1b ⟨rfl, hb⟩
      have HS : Hid (LS w ((w1b.heap.size, #[.int .i64 xk, .int .i64 xn, .string xs], 31) :: []) (w1b.alloc (.cells #[.int .i64 xk, .int .i64 xn, .string xs] 31))) := (HA1.out.next hb).alloc _ _
      clear hb HA1
      have nc := HN.out _ HS.out.below
      go_wp2_with fail
      obtain ⟨bx, hbx⟩ : ∃ bx, w1b.heap.size = bx := ⟨_, rfl⟩
      rw [hbx] at HS ⊢
      refine (H15.out _ _ _ _ _).mono ?_
      rintro e w2a ⟨rfl, hb⟩
      have HA2 : Hid (LS w [(bx, #[.int .i64 xk, .int .i64 xn, .string xs], 31)] w2a) := HS.out.next hb
      clear hb HS nc
      go_wp2_with fail
      refine (HV2.out _ HA2.out.below).mono ?_
      rintro e w2b ⟨rfl, hb⟩
      have HS : Hid (LS w ((w2b.heap.size, #[.int .i64 xk, .int .i64 xn, .string xs], 31) :: [(bx, #[.int .i64 xk, .int .i64 xn, .string xs], 31)]) (w2b.alloc (.cells #[.int .i64 xk, .int .i64 xn, .string xs] 31))) := (HA2.out.next hb).alloc _ _
      clear hb HA2
      have nc := HN.out _ HS.out.below
      go_wp2_with fail
      obtain ⟨by2, hby2⟩ : ∃ by2, w2b.heap.size = by2 := ⟨_, rfl⟩
      rw [hby2] at HS ⊢
      refine (H15.out _ _ _ _ _).mono ?_
      rintro e w3a ⟨rfl, hb⟩
      have HA3 : Hid (LS w ((by2, #[.int .i64 xk, .int .i64 xn, .string xs], 31) :: [(bx, #[.int .i64 xk, .int .i64 xn, .string xs], 31)]) w3a) := HS.out.next hb
      clear hb HS nc
      go_wp2_with fail
      refine (HV3.out _ HA3.out.below).mono ?_
      rintro e w3b ⟨rfl, hb⟩
      have HS : Hid (LS w ((w3b.heap.size, #[.int .i64 pk, .int .i64 pn, .string ps], 31) :: ((by2, #[.int .i64 xk, .int .i64 xn, .string xs], 31) :: [(bx, #[.int .i64 xk, .int .i64 xn, .string xs], 31)])) (w3b.alloc (.cells #[.int .i64 pk, .int .i64 pn, .string ps] 31))) := (HA3.out.next hb).alloc _ _
      clear hb HA3
      have nc := HN.out _ HS.out.below
      go_wp2_with fail
      obtain ⟨bp, hbp⟩ : ∃ bp, w3b.heap.size = bp := ⟨_, rfl⟩
      rw [hbp] at HS ⊢
      refine (H15.out _ _ _ _ _).mono ?_
      rintro e w4a ⟨rfl, hb⟩
      have HA4 : Hid (LS w ((bp, #[.int .i64 pk, .int .i64 pn, .string ps], 31) :: (by2, #[.int .i64 xk, .int .i64 xn, .string xs], 31) :: [(bx, #[.int .i64 xk, .int .i64 xn, .string xs], 31)]) w4a) := HS.out.next hb
      clear hb HS nc
      go_wp2_with fail
      refine (HV4.out _ HA4.out.below).mono ?_
      rintro e w4b ⟨rfl, hb⟩
      have HS : Hid (LS w ((w4b.heap.size, #[.int .i64 qk, .int .i64 qn, .string qs], 31) :: ((bp, #[.int .i64 pk, .int .i64 pn, .string ps], 31) :: (by2, #[.int .i64 xk, .int .i64 xn, .string xs], 31) :: [(bx, #[.int .i64 xk, .int .i64 xn, .string xs], 31)])) (w4b.alloc (.cells #[.int .i64 qk, .int .i64 qn, .string qs] 31))) := (HA4.out.next hb).alloc _ _
      clear hb HA4
      obtain ⟨x0, x1, x2⟩ := cells3v (HS.out.blks (bx, #[.int .i64 xk, .int .i64 xn, .string xs], 31) (by simp))
      obtain ⟨y0, y1, y2⟩ := cells3v (HS.out.blks (by2, #[.int .i64 xk, .int .i64 xn, .string xs], 31) (by simp))
      obtain ⟨p0, p1, p2⟩ := cells3v (HS.out.blks (bp, #[.int .i64 pk, .int .i64 pn, .string ps], 31) (by simp))
      obtain ⟨q0, q1, q2⟩ := cells3v (HS.out.blks (w4b.heap.size, #[.int .i64 qk, .int .i64 qn, .string qs], 31) (by simp))
      by_cases h2 : (2 : Int) < (j : Int)
      · go_wp2_with fail
        exact ⟨⟨j + 1, by simp, hlt, HS.out.below⟩, by simp [intOf]; omega⟩
      · have h2' : j ≤ 2 := by omega
        go_wp2_with fail
        refine (H2.out h2' _).mono ?_
        rintro e w5 ⟨rfl, hb⟩
        have HT : Hid (LS w ((w5.heap.size, #[.int .i64 sk, .int .i64 sn, .string ss], 31) :: (w4b.heap.size, #[.int .i64 qk, .int .i64 qn, .string qs], 31) :: (bp, #[.int .i64 pk, .int .i64 pn, .string ps], 31) :: (by2, #[.int .i64 xk, .int .i64 xn, .string xs], 31) :: [(bx, #[.int .i64 xk, .int .i64 xn, .string xs], 31)]) (w5.alloc (.cells #[.int .i64 sk, .int .i64 sn, .string ss] 31))) := (HS.out.next hb).alloc _ _
        clear hb HS x0 x1 x2 y0 y1 y2 p0 p1 p2 q0 q1 q2
        obtain ⟨s0, s1, s2⟩ := cells3v (HT.out.blks (w5.heap.size, #[.int .i64 sk, .int .i64 sn, .string ss], 31) (by simp))
        obtain ⟨x0, x1, x2⟩ := cells3v (HT.out.blks (bx, #[.int .i64 xk, .int .i64 xn, .string xs], 31) (by simp))
        by_cases hs1 : sk = 1
        · by_cases hx1 : xk = 1
          · have he := HCj.out h2' hs1 hx1
            injection he with e1 e2 e3
            subst e1 e2 e3
            subst hs1
            go_wp2_with fail
            exact ⟨⟨j + 1, by simp, hlt, HT.out.below⟩, by simp [intOf]; omega⟩
          · subst hs1
            go_wp2_with fail
            exact ⟨⟨j + 1, by simp, hlt, HT.out.below⟩, by simp [intOf]; omega⟩
        · go_wp2_with fail
          exact ⟨⟨j + 1, by simp, hlt, HT.out.below⟩, by simp [intOf]; omega⟩
    · obtain rfl : j = 5 := by omega
      go_wp2_with fail
      exact HQ.out _ _ (tail27 B w0 _ (HBX.out _ hbr) pl n cl bw ba bb bc bn _ _ _ _ _ _ _ _ _ _ _ _ _ _ _ _ _ _ _ _ _ _ _ _ _ _ _ _ _ _ _ _ _ _ _ _ _ _ _ _ _ _ _ _ _ _ _ _ _ _ _ _ _ _ _ _ _ _ _ _ _ _ _ _ _ _ _ _ _ _ _ _ _ _ _ _ _ _ _ _ _ _ _ _ _ _ _ _ _ _ _ _ _ _ _ _ _ _ _ _ _ _ _ _ _ _ _ _ _ _ _ _ _ _ _ _ _ _ _ _ _ _ _ _ _ _ _ _ _ _ _ _ _ _ _ _ _ _ _ _ _ _ _ _ _ _ _ _ _ _ _ _ _ _ _ _ _ _ _ _ _ _ _ _ _ _ _ _ _ _ _ _ _)
end Go.Proofs.YtoaejcppfmjhdaaGreatDoor.su
/- The law EvalSums, walked. Conditions: the package variables as the program's text lays them; the values lie in memory. -/
namespace Go.Proofs.YtoaejcppfmjhdaaGreatDoor.su
open Go.RowKit
open ev (VV LS cells3v findTail VM In ShL allV values90 column_law colL colS)
open fm (NV N12)
open ov
/-- The law's four lists: the whole, its two ends. -/
abbrev boW (n : Nat) : Bo := ⟨1, n, 0, n⟩
abbrev boA (cu : Nat) : Bo := ⟨1, cu, 0, cu⟩
abbrev boB (n cu : Nat) : Bo := ⟨n, (cu : Int) + 1, cu, n - cu⟩
theorem boW_ok {n cu : Nat} (h1 : 1 ≤ cu) (h2 : cu < n) (h3 : n ≤ 90) : (boW n).Ok n := ⟨by show min (1 : Int) n = 0 + 1; omega, by show max (1 : Int) n = 0 + (n : Int); omega, by show 0 + n ≤ n; omega, h3⟩
theorem boA_ok {n cu : Nat} (h1 : 1 ≤ cu) (h2 : cu < n) (h3 : n ≤ 90) : (boA cu).Ok n := ⟨by show min (1 : Int) cu = 0 + 1; omega, by show max (1 : Int) cu = 0 + (cu : Int); omega, by show 0 + cu ≤ n; omega, h3⟩
theorem boB_ok {n cu : Nat} (_ : 1 ≤ cu) (h2 : cu < n) (h3 : n ≤ 90) : (boB n cu).Ok n := ⟨by show min (n : Int) ((cu : Int) + 1) = (cu : Int) + 1; omega, by show max (n : Int) ((cu : Int) + 1) = (cu : Int) + ((n - cu : Nat) : Int); omega, by show cu + (n - cu) ≤ n; omega, h3⟩
theorem sgs_cut {n cu : Nat} (_ : 1 ≤ cu) (h2 : cu < n) (_ : n ≤ 90) (k m : Nat → Int) (z : Nat → ByteArray) : sgs k m z [boW n] = sgs k m z [boA cu, boB n cu] := by
  unfold sgs
  simp only [List.flatMap_cons, List.flatMap_nil, List.append_nil]
  unfold sg
  show (List.range n).map _ = (List.range cu).map _ ++ (List.range (n - cu)).map _
  apply List.ext_getElem
  · simp; omega
  · intro i q1 q2
    simp at q1
    by_cases hi : i < cu
    · rw [List.getElem_append_left (by simpa using hi)]
      simp
    · rw [List.getElem_append_right (by simp; omega)]
      simp only [List.getElem_map, List.getElem_range, List.length_map, List.length_range, Nat.zero_add]
      rw [show cu + (i - cu) = i by omega]
theorem sgs_two (k m : Nat → Int) (z : Nat → ByteArray) (x y : Bo) : sgs k m z [x, y] = sgs k m z [x] ++ sgs k m z [y] := by simp [sgs]
set_option maxRecDepth 1000000 in
set_option maxHeartbeats 8000000 in
theorem at14 (B : Nat) (w0 : World) (pl : Option Addr) (n cl cu bw ba bb bc bn : Nat) (k m : Nat → Int) (z : Nat → ByteArray) (w : World) (hB0 : Below B w0 w) (hBs : B ≤ w.heap.size) (h1 : 1 ≤ cu) (h2 : cu < n) (h3 : n ≤ 90) (hE : fm.EnvW w)
    (hm : ∀ i, i < n → B64 (m i)) (hv : ∀ i, i < n → vv.isVal (k i) (m i) (z i) = true) (hx : ShL w pl (colS k m z n))
    (hbw : w.heap[bw]? = some (.cells (cB 1 n) 28 (0, 0))) (hba : w.heap[ba]? = some (.cells (cB 1 cu) 28 (0, 0))) (hbb : w.heap[bb]? = some (.cells (cB n ((cu : Int) + 1)) 28 (0, 0))) (hbc : w.heap[bc]? = some (.cells (cB2 1 cu n ((cu : Int) + 1)) 28 (0, 0))) (hbn : w.heap[bn]? = some (.cells cN 9 (0, 0)))
    (l0 l1 l2 l3 l4 l5 l6 l7 l8 l15 l16 l17 l18 l19 l20 l21 l22 l23 l24 l25 l26 l27 l28 l29 l30 l31 l32 l33 l34 l35 l36 l37 l38 l39 l40 l41 l42 l43 l44 l45 l46 l47 l48 l49 l50 l51 l52 l53 l54 l55 l56 l57 l58 l59 l60 l61 l62 l63 l64 l65 l66 l67 l68 l69 l70 l71 l72 l73 l74 l75 l76 l77 l78 l79 l80 l81 l82 l83 l84 l85 l86 l87 l88 l89 l90 l91 l92 l93 l94 l95 l96 l97 l98 l99 l100 l101 l102 l103 l104 l105 l106 l107 l108 l109 l110 l111 l112 l113 l114 l115 l116 l117 l118 l119 l120 l121 l122 l123 l124 l125 l126 l127 l128 l129 l130 l131 l132 l133 l134 l135 l136 l137 l138 l139 l140 l141 l142 l143 l144 l145 l146 l147 l148 l149 l150 l151 l152 l153 l154 l155 l156 l157 l158 l159 l160 l161 l162 l163 l164 l165 l166 l167 l168 l169 l170 l171 l172 l173 l174 l175 l176 l177 l178 : Value) :
    Code.wp Tryz.prog (tail14C.seq tail27C) (bodyPost Tryz.prog Tryz.f4 fun e w' => e = .returned (.bool true) ∧ Below B w0 w') ⟨#[l0, l1, l2, l3, l4, l5, l6, l7, l8, .slice pl n cl, .slice (some ⟨bw, 0, none⟩) 1 1, .slice (some ⟨ba, 0, none⟩) 1 1, .slice (some ⟨bb, 0, none⟩) 1 1, .slice (some ⟨bc, 0, none⟩) 2 2, .slice (some ⟨bn, 0, none⟩) 5 5, l15, l16, l17, l18, l19, l20, l21, l22, l23, l24, l25, l26, l27, l28, l29, l30, l31, l32, l33, l34, l35, l36, l37, l38, l39, l40, l41, l42, l43, l44, l45, l46, l47, l48, l49, l50, l51, l52, l53, l54, l55, l56, l57, l58, l59, l60, l61, l62, l63, l64, l65, l66, l67, l68, l69, l70, l71, l72, l73, l74, l75, l76, l77, l78, l79, l80, l81, l82, l83, l84, l85, l86, l87, l88, l89, l90, l91, l92, l93, l94, l95, l96, l97, l98, l99, l100, l101, l102, l103, l104, l105, l106, l107, l108, l109, l110, l111, l112, l113, l114, l115, l116, l117, l118, l119, l120, l121, l122, l123, l124, l125, l126, l127, l128, l129, l130, l131, l132, l133, l134, l135, l136, l137, l138, l139, l140, l141, l142, l143, l144, l145, l146, l147, l148, l149, l150, l151, l152, l153, l154, l155, l156, l157, l158, l159, l160, l161, l162, l163, l164, l165, l166, l167, l168, l169, l170, l171, l172, l173, l174, l175, l176, l177, l178], []⟩ w := by
  have kp : ∀ {g : Nat} {o : Obj} {wx : World}, w.heap[g]? = some o → Below w.heap.size w wx → wx.heap[g]? = some o := fun h hb => (hb.block _ (fm.lt_blk h)).trans h
  have la : (sgs k m z [boA cu]).length ≤ 1000 := by have := sgs_len2 (k := k) (m := m) (z := z) (bs := [boA cu]) (n := n) (by simp; exact boA_ok h1 h2 h3); simp at this; omega
  have lb : (sgs k m z [boB n cu]).length ≤ 1000 := by have := sgs_len2 (k := k) (m := m) (z := z) (bs := [boB n cu]) (n := n) (by simp; exact boB_ok h1 h2 h3); simp at this; omega
  have xa : Bx (sgs k m z [boA cu]) := sgs_bx (by simp; exact boA_ok h1 h2 h3) hm
  have xb : Bx (sgs k m z [boB n cu]) := sgs_bx (by simp; exact boB_ok h1 h2 h3) hm
  refine wp_seq (tail14 B w0 _ pl n cl bw ba bb bc bn (fun j => resJ j (sgs k m z [boW n])) (fun j => resJ j (sgs k m z [boA cu])) (fun j => resJ j (sgs k m z [boB n cu])) (fun j => t8 (resJ j (sgs k m z [boA cu])) (resJ j (sgs k m z [boB n cu]))) w hB0 hBs (fun a wx h => h) ?_ ?_ ?_ ?_ ?_ ?_ ?_ l0 l1 l2 l3 l4 l5 l6 l7 l8 l15 l16 l17 l18 l19 l20 l21 l22 l23 l24 l25 l26 l27 l28 l29 l30 l31 l32 l33 l34 l35 l36 l37 l38 l39 l40 l41 l42 l43 l44 l45 l46 l47 l48 l49 l50 l51 l52 l53 l54 l55 l56 l57 l58 l59 l60 l61 l62 l63 l64 l65 l66 l67 l68 l69 l70 l71 l72 l73 l74 l75 l76 l77 l78 l79 l80 l81 l82 l83 l84 l85 l86 l87 l88 l89 l90 l91 l92 l93 l94 l95 l96 l97 l98 l99 l100 l101 l102 l103 l104 l105 l106 l107 l108 l109 l110 l111 l112 l113 l114 l115 l116 l117 l118 l119 l120 l121 l122 l123 l124 l125 l126 l127 l128 l129 l130 l131 l132 l133 l134 l135 l136 l137 l138 l139 l140 l141 l142 l143 l144 l145 l146 l147 l148 l149 l150 l151 l152 l153 l154 l155 l156 l157 l158 l159 l160 l161 l162 l163 l164 l165 l166 l167 l168 l169 l170 l171 l172 l173 l174 l175 l176 l177 l178)
  · exact fun wx j hj hb => names_at (kp hbn hb) j hj
  · exact fun j wx hj hb => works_C hj (by simp) (by simp) (by simp; exact boW_ok h1 h2 h3) h3 hm hv wx (hE.next hb) pl cl (hx.next hb) (in_B (x := boW n) (kp hbw hb))
  · exact fun j wx hj hb => by
      have := works_C (k := k) (m := m) (z := z) hj (bs := [boA cu, boB n cu]) (by simp) (by simp) (by simp; exact ⟨boA_ok h1 h2 h3, boB_ok h1 h2 h3⟩) h3 hm hv wx (hE.next hb) pl cl (hx.next hb) (in_B2 (x := boA cu) (y := boB n cu) (kp hbc hb))
      rw [← sgs_cut h1 h2 h3] at this
      exact this
  · exact fun j wx hj hb => works_C hj (by simp) (by simp) (by simp; exact boA_ok h1 h2 h3) h3 hm hv wx (hE.next hb) pl cl (hx.next hb) (in_B (x := boA cu) (kp hba hb))
  · exact fun j wx hj hb => works_C hj (by simp) (by simp) (by simp; exact boB_ok h1 h2 h3) h3 hm hv wx (hE.next hb) pl cl (hx.next hb) (in_B (x := boB n cu) (kp hbb hb))
  · exact fun j wx hj => rtwo8 _ _ _ _ _ _ wx (res_ok hj xa la).1 (res_ok hj xb lb).1 (res_ok hj xa la).2 (res_ok hj xb lb).2
  · exact fun j hj e1 e2 => by
      change (resJ j (sgs k m z [boW n])).k = 1 at e2
      change t8 (resJ j (sgs k m z [boA cu])) (resJ j (sgs k m z [boB n cu])) = resJ j (sgs k m z [boW n])
      rw [sgs_cut h1 h2 h3, sgs_two] at e2 ⊢
      exact cut_two hj xa xb la lb e1 e2
set_option maxRecDepth 1000000 in
set_option maxHeartbeats 32000000 in
theorem sums_any (p : Option Addr) (q c : Nat) (hq : q ≤ 9223372036854775807) (k m : Nat → Int) (z : Nat → ByteArray) (cut : Int) (hm : ∀ i, i < q → B64 (m i)) (w : World) (hE : fm.EnvW w) (hv : VM w p q k m z) : Calls Tryz.prog 4 #[.slice p q c, .int .i64 cut] w fun e w' => e = .returned (.bool true) ∧ Below w.heap.size w w' := by
  have HV : Hid (VM w p q k m z) := hv
  have HM : Hid (∀ i, i < q → B64 (m i)) := hm
  clear hv hm
  have HE : Hid (∀ wx, Below w.heap.size w wx → fm.EnvW wx) := fun wx hb => hE.next hb
  have H15 : Hid (∀ nm p q c wx, Calls Tryz.prog 15 #[.string nm, .slice p q c] wx fun e w' => e = .returned (NV 9 0 nm .z .z (.slice p q c)) ∧ Below wx.heap.size wx w') := ev.lcall
  have H10 : Hid (∀ n wx, Calls Tryz.prog 10 #[.int .i64 n] wx fun e w' => e = .returned (VV 1 n nul) ∧ Below wx.heap.size wx w') := fun n wx => (vv.rnum_any n wx).mono (fun e w' h => h)
  have H16 : Hid (∀ wx, Below w.heap.size w wx → Calls Tryz.prog 16 #[.slice p q c, .int .i64 90] wx fun e w' => e = .returned (.bool (decide (1 ≤ q) && decide (q ≤ 90) && allV k m z q)) ∧ Below wx.heap.size wx w') := fun wx hb => values90 p q c hq k m z wx (HV.out.next hb)
  have HFact : Hid (∀ wx g, Below w.heap.size w wx → NB cF wx g → Calls Tryz.prog 14 #[NV 9 0 nmSum .z .z (.slice (some ⟨g, 0, none⟩) 2 2), .slice none 0 0] wx fun e w' => e = .returned (.tuple #[VV 1 5 nul, .bool true]) ∧ Below wx.heap.size wx w') := fun wx g hb hn => works_F wx (HE.out wx hb) g hn
  have H19 : Hid (∀ c r wx, Calls Tryz.prog 19 #[.int .i64 c, .int .i64 r] wx fun e w' => e = .returned (.agg #[.int .i64 c, .int .i64 r]) ∧ Below wx.heap.size wx w') := ev.lat
  have H18 : Hid (∀ a b c d wx, Calls Tryz.prog 18 #[.agg #[.int .i64 a, .int .i64 b], .agg #[.int .i64 c, .int .i64 d]] wx fun e w' => e = .returned (NV 6 0 nul ⟨a, b, false, false⟩ ⟨c, d, false, false⟩ (.slice none 0 0)) ∧ Below wx.heap.size wx w') := ev.lbox
  have hg31 : Tryz.prog.eqGuardType Tryz.prog.depth 31 = false := by kernel_rfl
  clear hE
  go_enter Tryz.func4, Tryz.ntmps4
  go_wp2_with fail
  have HS0 : Hid (NB cF (w.alloc (.cells cF 28)) w.heap.size ∧ Below w.heap.size w (w.alloc (.cells cF 28))) := ⟨heap_alloc_new _ _, (Below.refl _ _).alloc (Nat.le_refl _) _⟩
  refine (H15.out _ _ _ _ _).mono ?_
  rintro e w1 ⟨rfl, hb1⟩
  have HS1 : Hid (NB cF w1 w.heap.size ∧ Below w.heap.size w w1) := ⟨(hb1.block _ (fm.lt_blk HS0.out.1)).trans HS0.out.1, bnext HS0.out.2 hb1 HS0.out.2.size⟩
  clear hb1 HS0
  go_wp2_with fail
  refine (HFact.out _ _ HS1.out.2 HS1.out.1).mono ?_
  rintro e w2 ⟨rfl, hb2⟩
  have HS2 : Hid (Below w.heap.size w w2) := bnext HS1.out.2 hb2 HS1.out.2.size
  clear hb2 HS1 HFact
  have hf1 : (w2.alloc (.cells #[.int .i64 1, .int .i64 5, .string nul] 31)).heap[w2.heap.size]? = some (.cells #[.int .i64 1, .int .i64 5, .string nul] 31 (0, 0)) := heap_alloc_new _ _
  have HX : Hid (∀ wx, Below (w2.alloc (.cells #[.int .i64 1, .int .i64 5, .string nul] 31)).heap.size (w2.alloc (.cells #[.int .i64 1, .int .i64 5, .string nul] 31)).drew wx → wx.heap[w2.heap.size]? = some (.cells #[.int .i64 1, .int .i64 5, .string nul] 31 (0, 0)) ∧ Below w.heap.size w wx) := fun wx h => ⟨(h.block _ (by simp)).trans hf1, (HS2.out.alloc HS2.out.size (.cells #[.int .i64 1, .int .i64 5, .string nul] 31)).drew.trans (h.mono (by have := HS2.out.size; simp; omega))⟩
  obtain ⟨a0, a1, a2⟩ := cells3v hf1
  clear hf1
  go_wp2_with fail
  go_cut [39] (fun s39 wx => s39 = .bool false ∧ Below w.heap.size w wx)
  case first =>
    go_region_with (go_at_call 10; refine (H10.out _ _).mono ?_; rintro e w3 ⟨rfl, hb3⟩; have hf3 := (HX.out w3 hb3).1; have hb4 := (HX.out w3 hb3).2; obtain ⟨b0, b1, b2⟩ := cells3v hf3; have hq := ev.neq31 1 5 nul w3)
    all_goals
      go_wp2_with fail
      go_meet
      case rel => exact ⟨rfl, hb4⟩
  case rest =>
  clear HX HS2 a0 a1 a2 H10
  obtain ⟨rfl, hsc⟩ := hcut
  have HS3 : Hid (Below w.heap.size w wc) := hsc
  clear hsc
  go_wp2_with fail
  refine (H16.out _ HS3.out).mono ?_
  rintro e w3 ⟨rfl, hb3⟩
  have HS4 : Hid (Below w.heap.size w w3) := bnext HS3.out hb3 HS3.out.size
  clear hb3 HS3 H16
  obtain ⟨A, hA⟩ : ∃ A, (decide (1 ≤ q) && decide (q ≤ 90) && allV k m z q) = A := ⟨_, rfl⟩
  have HA : Hid ((decide (1 ≤ q) && decide (q ≤ 90) && allV k m z q) = A) := hA
  rw [hA]
  clear hA
  cases A with
  | false =>
    go_wp2_with fail
    go_ret
    exact ⟨rfl, HS4.out⟩
  | true =>
  have hh := HA.out
  rw [Bool.and_eq_true, Bool.and_eq_true] at hh
  have hq1 : 1 ≤ q := of_decide_eq_true hh.1.1
  have hq9 : q ≤ 90 := of_decide_eq_true hh.1.2
  have HAV : Hid (∀ i, i < q → vv.isVal (k i) (m i) (z i) = true) := ev.allV_at hh.2
  clear hh HA hq
  by_cases hc1 : cut < 1
  · go_wp2_with fail
    go_ret
    exact ⟨rfl, HS4.out⟩
  by_cases hc2 : (q : Int) ≤ cut
  · go_wp2_with fail
    go_ret
    exact ⟨rfl, HS4.out⟩
  obtain ⟨cu, rfl⟩ : ∃ cu : Nat, cut = (cu : Int) := ⟨cut.toNat, by omega⟩
  have h1 : 1 ≤ cu := by omega
  have h2 : cu < q := by omega
  have h2' : (cu : Int) < 90 := by omega
  have h1' : (1 : Int) ≤ (cu : Int) := by omega
  go_wp2_with fail
  refine (column_law p q c hq9 k m z w3 (HV.out.next HS4.out)).mono ?_
  rintro e w4 ⟨⟨vl, rfl, hown⟩, hb4⟩
  obtain ⟨g2, cap2, rfl, hsl⟩ : ∃ g2 cap2, vl = .slice (some ⟨g2, 0, none⟩) q cap2 ∧ ShL w4 (some ⟨g2, 0, none⟩) (colS k m z q) := by
    rcases hown.2 with ⟨-, h0⟩ | ⟨g, cap, cur, rfl, -⟩
    · omega
    · exact ⟨g, cap, rfl, ev.shl_own (base := w3.heap.size) (n := q) (cap := cap) (by rw [← ev.colL_flat]; exact hown)⟩
  have HSL : Hid (ShL w4 (some ⟨g2, 0, none⟩) (colS k m z q)) := hsl
  have HS5 : Hid (LS w4 [] w4) := ⟨fun x hx => absurd hx List.not_mem_nil, Below.refl _ _⟩
  have HB4 : Hid (Below w.heap.size w w4) := bnext HS4.out hb4 HS4.out.size
  clear hown hb4 hsl HS4 hc1 hc2
  go_wp2_with fail
  refine (H19.out _ _ _).mono ?_
  rintro e xa1 ⟨rfl, hb⟩
  have HY1 : Hid (LS w4 [] xa1) := HS5.out.next hb
  clear hb HS5
  go_wp2_with fail
  refine (H19.out _ _ _).mono ?_
  rintro e xa2 ⟨rfl, hb⟩
  have HY2 : Hid (LS w4 [] xa2) := HY1.out.next hb
  clear hb HY1
  go_wp2_with fail
  refine (H18.out _ _ _ _ _).mono ?_
  rintro e xa3 ⟨rfl, hb⟩
  have HS5 : Hid (LS w4 ((xa3.heap.size, cB 1 q, 28) :: []) (xa3.alloc (.cells (cB 1 q) 28))) := (HY2.out.next hb).alloc _ _
  clear hb HY2
  go_wp2_with fail
  obtain ⟨bw, hbw⟩ : ∃ bw, xa3.heap.size = bw := ⟨_, rfl⟩
  rw [hbw] at HS5 ⊢
  clear hbw
  refine (H19.out _ _ _).mono ?_
  rintro e xb1 ⟨rfl, hb⟩
  have HY1 : Hid (LS w4 [(bw, cB 1 q, 28)] xb1) := HS5.out.next hb
  clear hb HS5
  go_wp2_with fail
  refine (H19.out _ _ _).mono ?_
  rintro e xb2 ⟨rfl, hb⟩
  have HY2 : Hid (LS w4 [(bw, cB 1 q, 28)] xb2) := HY1.out.next hb
  clear hb HY1
  go_wp2_with fail
  refine (H18.out _ _ _ _ _).mono ?_
  rintro e xb3 ⟨rfl, hb⟩
  have HS5 : Hid (LS w4 ((xb3.heap.size, cB 1 cu, 28) :: [(bw, cB 1 q, 28)]) (xb3.alloc (.cells (cB 1 cu) 28))) := (HY2.out.next hb).alloc _ _
  clear hb HY2
  go_wp2_with fail
  obtain ⟨ba, hba⟩ : ∃ ba, xb3.heap.size = ba := ⟨_, rfl⟩
  rw [hba] at HS5 ⊢
  clear hba
  refine (H19.out _ _ _).mono ?_
  rintro e xc1 ⟨rfl, hb⟩
  have HY1 : Hid (LS w4 ((ba, cB 1 cu, 28) :: [(bw, cB 1 q, 28)]) xc1) := HS5.out.next hb
  clear hb HS5
  go_wp2_with fail
  refine (H19.out _ _ _).mono ?_
  rintro e xc2 ⟨rfl, hb⟩
  have HY2 : Hid (LS w4 ((ba, cB 1 cu, 28) :: [(bw, cB 1 q, 28)]) xc2) := HY1.out.next hb
  clear hb HY1
  go_wp2_with fail
  refine (H18.out _ _ _ _ _).mono ?_
  rintro e xc3 ⟨rfl, hb⟩
  have HS5 : Hid (LS w4 ((xc3.heap.size, cB q ((cu : Int) + 1), 28) :: ((ba, cB 1 cu, 28) :: [(bw, cB 1 q, 28)])) (xc3.alloc (.cells (cB q ((cu : Int) + 1)) 28))) := (HY2.out.next hb).alloc _ _
  clear hb HY2
  go_wp2_with fail
  obtain ⟨bb, hbb⟩ : ∃ bb, xc3.heap.size = bb := ⟨_, rfl⟩
  rw [hbb] at HS5 ⊢
  clear hbb
  obtain ⟨⟨y0, y1, y2, y3, y4, y5, y6, y7, y8, y9, y10, y11⟩, -⟩ := fm.cells12 (HS5.out.blks (ba, cB 1 cu, 28) (by simp))
  obtain ⟨⟨z0, z1, z2, z3, z4, z5, z6, z7, z8, z9, z10, z11⟩, -⟩ := fm.cells12 (HS5.out.blks (bb, cB q ((cu : Int) + 1), 28) (by simp))
  generalize xc3.alloc (.cells (cB q ((cu : Int) + 1)) 28) = X3 at *
  go_cut [13] (fun s13 wx => ∃ bc, s13 = .slice (some ⟨bc, 0, none⟩) 2 2 ∧ LS w4 ((bc, cB2 1 cu q ((cu : Int) + 1), 28) :: ((bb, cB q ((cu : Int) + 1), 28) :: (ba, cB 1 cu, 28) :: [(bw, cB 1 q, 28)])) wx)
  case first =>
    go_region
    all_goals
      go_wp2_with fail
      go_meet
      case rel => exact ⟨_, rfl, (show LS w4 ((bb, cB q ((cu : Int) + 1), 28) :: (ba, cB 1 cu, 28) :: [(bw, cB 1 q, 28)]) X3.drew from ⟨HS5.out.blks, HS5.out.below.drew⟩).alloc _ _⟩
  case rest =>
  clear y0 y1 y2 y3 y4 y5 y6 y7 y8 y9 y10 y11 z0 z1 z2 z3 z4 z5 z6 z7 z8 z9 z10 z11 HS5
  obtain ⟨bc, rfl, hs⟩ := hcut
  go_upto_region 13 with fail
  go_cut [14] (fun s14 wx => ∃ bn, s14 = .slice (some ⟨bn, 0, none⟩) 5 5 ∧ LS w4 ((bn, cN, 9) :: (bc, cB2 1 cu q ((cu : Int) + 1), 28) :: ((bb, cB q ((cu : Int) + 1), 28) :: (ba, cB 1 cu, 28) :: [(bw, cB 1 q, 28)])) wx)
  case first =>
    go_wp2_with fail
    go_meet
    case rel => exact ⟨_, rfl, hs.alloc _ _⟩
  case rest =>
  clear hs
  obtain ⟨bn, rfl, hs⟩ := hcut
  apply_assumption
  have hbl := bnext HB4.out hs.below HB4.out.size
  exact at14 _ w (some ⟨g2, 0, none⟩) q cap2 cu bw ba bb bc bn k m z _ hbl hbl.size h1 h2 hq9 (HE.out _ hbl) HM.out HAV.out (HSL.out.next hs.below) (hs.blks (bw, cB 1 q, 28) (by simp)) (hs.blks (ba, cB 1 cu, 28) (by simp)) (hs.blks (bb, cB q ((cu : Int) + 1), 28) (by simp)) (hs.blks (bc, cB2 1 cu q ((cu : Int) + 1), 28) (by simp)) (hs.blks (bn, cN, 9) (by simp)) _ _ _ _ _ _ _ _ _ _ _ _ _ _ _ _ _ _ _ _ _ _ _ _ _ _ _ _ _ _ _ _ _ _ _ _ _ _ _ _ _ _ _ _ _ _ _ _ _ _ _ _ _ _ _ _ _ _ _ _ _ _ _ _ _ _ _ _ _ _ _ _ _ _ _ _ _ _ _ _ _ _ _ _ _ _ _ _ _ _ _ _ _ _ _ _ _ _ _ _ _ _ _ _ _ _ _ _ _ _ _ _ _ _ _ _ _ _ _ _ _ _ _ _ _ _ _ _ _ _ _ _ _ _ _ _ _ _ _ _ _ _ _ _ _ _ _ _ _ _ _ _ _ _ _ _ _ _ _ _ _ _ _ _ _ _ _ _ _ _ _ _ _
end Go.Proofs.YtoaejcppfmjhdaaGreatDoor.su
