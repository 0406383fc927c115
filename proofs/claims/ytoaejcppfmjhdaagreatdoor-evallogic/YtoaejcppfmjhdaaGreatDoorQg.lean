/- The law EvalLogic, walked: NOT of AND, OR of all NOTs. Conditions: what lies in its blocks. -/
import Derived.Test.YtoaejcppfmjhdaaGreatDoorQf
import Derived.Deep.AppendLies
import Derived.Test.YtoaejcppfmjhdaaGreatDoorQb
namespace Go.Proofs.YtoaejcppfmjhdaaGreatDoor.ov
open Go.RowKit
open ev (VV b2I LS cells3v findTail frz)
open fm (NV N12)
noncomputable def tail21C : Code := ((Tryz.f7.body.bind (findTail 21)).getD .skip)
set_option maxRecDepth 1000000 in
set_option maxHeartbeats 32000000 in
theorem tail21 (B : Nat) (w0 : World) (pl pa : Option Addr) (q cl qa ca : Nat) (ak an bk bn rk rn sk sn : Int) (az bz rz sz : ByteArray) (po : Option Addr) (qo co : Nat) (bad : Bool) (pk pn ok on : Int) (pz oz : ByteArray) (w : World) (hB0 : Below B w0 w) (hBs : B ≤ w.heap.size) (ba bb : Nat)
    (HCase : Hid ((sk = 4 ∧ rk = sk ∧ rn = sn ∧ rz = sz) ∨ (sk = 3 ∧ ((sn = 1 ∧ rk = ak ∧ rn = an ∧ rz = az) ∨ (sn = 0 ∧ rk = bk ∧ rn = bn ∧ rz = bz)))))
    (HPQ : Hid ((bad = false ∧ pk = ok ∧ pn = on ∧ pz = oz) ∨ (bad = true ∧ pk = 4 ∧ ok = 4)))
    (HWs : Hid (∀ wx, Below w.heap.size w wx → Calls Tryz.prog 14 #[NV 9 0 nmAnd .z .z (.slice pa qa ca), .slice pl (q + 2) cl] wx fun e w' => e = .returned (.tuple #[VV sk sn sz, .bool true]) ∧ Below wx.heap.size wx w'))
    (HNa : Hid (∀ wx g, Below w.heap.size w wx → NB (fm.N12 9 0 nmAnd .z .z (.slice pa qa ca)) wx g → Calls Tryz.prog 14 #[NV 9 0 nmNot .z .z (.slice (some ⟨g, 0, none⟩) 1 1), .slice pl (q + 2) cl] wx fun e w' => e = .returned (.tuple #[VV pk pn pz, .bool true]) ∧ Below wx.heap.size wx w'))
    (HOr : Hid (∀ wx, Below w.heap.size w wx → Calls Tryz.prog 14 #[NV 9 0 nmOr .z .z (.slice po qo co), .slice pl (q + 2) cl] wx fun e w' => e = .returned (.tuple #[VV ok on oz, .bool true]) ∧ Below wx.heap.size wx w'))
    (HIf : Hid (∀ wx g, Below w.heap.size w wx → NB (b36 pa qa ca) wx g → Calls Tryz.prog 14 #[NV 9 0 nmIf .z .z (.slice (some ⟨g, 0, none⟩) 3 3), .slice pl (q + 2) cl] wx fun e w' => e = .returned (.tuple #[VV rk rn rz, .bool true]) ∧ Below wx.heap.size wx w'))
    (wb : World) (hS : LS w [(ba, #[.int .i64 ak, .int .i64 an, .string az], 31), (bb, #[.int .i64 bk, .int .i64 bn, .string bz], 31)] wb)
    (l0 l1 l2 l3 l6 l7 l8 l9 l10 l11 l16 l17 l18 l19 l20 l21 l22 l23 l24 l25 l26 l27 l28 l29 l30 l31 l32 l33 l34 l35 l36 l37 l38 l39 l40 l41 l42 l43 l44 l45 l46 l47 l48 l49 l50 l51 l52 l53 l54 l55 l56 l57 l58 l59 l60 l61 l62 l63 l64 l65 l66 l67 l68 l69 l70 l71 l72 l73 l74 l75 l76 l77 l78 l79 l80 l81 l82 l83 l84 l85 l86 l87 l88 l89 l90 l91 l92 l93 l94 l95 l96 l97 l98 l99 l100 l101 l102 l103 l104 l105 l106 l107 l108 l109 l110 l111 l112 l113 l114 l115 l116 l117 l118 l119 l120 l121 l122 l123 l124 l125 l126 l127 l128 l129 l130 l131 l132 l133 l134 l135 l136 l137 l138 l139 l140 l141 l142 l143 l144 l145 l146 l147 l148 l149 l150 l151 l152 l153 l154 l155 l156 l157 l158 l159 l160 l161 l162 l163 l164 l165 l166 l167 l168 l169 l170 l171 l172 l173 l174 l175 l176 l177 l178 l179 l180 l181 l182 l183 l184 l185 l186 l187 l188 l189 l190 l191 l192 l193 l194 l195 : Value) :
    Code.wp Tryz.prog tail21C (bodyPost Tryz.prog Tryz.f7 fun e w' => e = .returned (.bool true) ∧ Below B w0 w') ⟨#[l0, l1, l2, l3, .pointer (some ⟨ba, 0, none⟩), .pointer (some ⟨bb, 0, none⟩), l6, l7, l8, l9, l10, l11, .slice pl (q + 2) cl, .slice pa qa ca, .slice po qo co, .bool bad, l16, l17, l18, l19, l20, l21, l22, l23, l24, l25, l26, l27, l28, l29, l30, l31, l32, l33, l34, l35, l36, l37, l38, l39, l40, l41, l42, l43, l44, l45, l46, l47, l48, l49, l50, l51, l52, l53, l54, l55, l56, l57, l58, l59, l60, l61, l62, l63, l64, l65, l66, l67, l68, l69, l70, l71, l72, l73, l74, l75, l76, l77, l78, l79, l80, l81, l82, l83, l84, l85, l86, l87, l88, l89, l90, l91, l92, l93, l94, l95, l96, l97, l98, l99, l100, l101, l102, l103, l104, l105, l106, l107, l108, l109, l110, l111, l112, l113, l114, l115, l116, l117, l118, l119, l120, l121, l122, l123, l124, l125, l126, l127, l128, l129, l130, l131, l132, l133, l134, l135, l136, l137, l138, l139, l140, l141, l142, l143, l144, l145, l146, l147, l148, l149, l150, l151, l152, l153, l154, l155, l156, l157, l158, l159, l160, l161, l162, l163, l164, l165, l166, l167, l168, l169, l170, l171, l172, l173, l174, l175, l176, l177, l178, l179, l180, l181, l182, l183, l184, l185, l186, l187, l188, l189, l190, l191, l192, l193, l194, l195], []⟩ wb := by
  dsimp only
  conv => arg 2; whnf
  have hg31 : Tryz.prog.eqGuardType Tryz.prog.depth 31 = false := by kernel_rfl
  have H15 : Hid (∀ nm p q c wx, Calls Tryz.prog 15 #[.string nm, .slice p q c] wx fun e w' => e = .returned (NV 9 0 nm .z .z (.slice p q c)) ∧ Below wx.heap.size wx w') := ev.lcall
  have HS0 : Hid (LS w [(ba, #[.int .i64 ak, .int .i64 an, .string az], 31), (bb, #[.int .i64 bk, .int .i64 bn, .string bz], 31)] wb) := hS
  clear hS
  go_wp2_with fail
  refine (H15.out _ _ _ _ _).mono ?_
  rintro e w1 ⟨rfl, hb⟩
  have HS1 : Hid (LS w ((w1.heap.size, fm.N12 9 0 nmAnd .z .z (.slice pa qa ca), 28) :: [(ba, #[.int .i64 ak, .int .i64 an, .string az], 31), (bb, #[.int .i64 bk, .int .i64 bn, .string bz], 31)]) (w1.alloc (.cells (fm.N12 9 0 nmAnd .z .z (.slice pa qa ca)) 28))) := (HS0.out.next hb).alloc _ _
  obtain ⟨⟨x0, x1, x2, x3, x4, x5, x6, x7, x8, x9, x10, x11⟩, -⟩ := fm.cells12 (HS1.out.blks (w1.heap.size, fm.N12 9 0 nmAnd .z .z (.slice pa qa ca), 28) (by simp))
  clear hb HS0
  go_wp2_with fail
  have HS2 : Hid (LS w ((w1.heap.size + 1, fm.N12 9 0 nmAnd .z .z (.slice pa qa ca), 28) :: (w1.heap.size, fm.N12 9 0 nmAnd .z .z (.slice pa qa ca), 28) :: [(ba, #[.int .i64 ak, .int .i64 an, .string az], 31), (bb, #[.int .i64 bk, .int .i64 bn, .string bz], 31)]) ((w1.alloc (.cells (fm.N12 9 0 nmAnd .z .z (.slice pa qa ca)) 28)).alloc (.cells (fm.N12 9 0 nmAnd .z .z (.slice pa qa ca)) 28))) := HS1.out.allocAt _ _ (by simp)
  clear x0 x1 x2 x3 x4 x5 x6 x7 x8 x9 x10 x11 HS1
  refine (H15.out _ _ _ _ _).mono ?_
  rintro e w2 ⟨rfl, hb⟩
  have HS3 : Hid (LS w ((w1.heap.size + 1, fm.N12 9 0 nmAnd .z .z (.slice pa qa ca), 28) :: (w1.heap.size, fm.N12 9 0 nmAnd .z .z (.slice pa qa ca), 28) :: [(ba, #[.int .i64 ak, .int .i64 an, .string az], 31), (bb, #[.int .i64 bk, .int .i64 bn, .string bz], 31)]) w2) := HS2.out.next hb
  clear hb HS2
  obtain ⟨bA, hbA⟩ : ∃ bA, w1.heap.size = bA := ⟨_, rfl⟩
  rw [hbA] at HS3 ⊢
  clear hbA
  go_wp2_with fail
  refine (HNa.out _ _ HS3.out.below (HS3.out.blks (bA + 1, fm.N12 9 0 nmAnd .z .z (.slice pa qa ca), 28) (by simp))).mono ?_
  rintro e w3 ⟨rfl, hb⟩
  have HS4 : Hid (LS w ((w3.heap.size, #[.int .i64 pk, .int .i64 pn, .string pz], 31) :: (bA, fm.N12 9 0 nmAnd .z .z (.slice pa qa ca), 28) :: [(ba, #[.int .i64 ak, .int .i64 an, .string az], 31), (bb, #[.int .i64 bk, .int .i64 bn, .string bz], 31)]) (w3.alloc (.cells #[.int .i64 pk, .int .i64 pn, .string pz] 31))) := ((HS3.out.next hb).sub (by simp)).alloc _ _
  clear hb HS3
  go_wp2_with fail
  refine (H15.out _ _ _ _ _).mono ?_
  rintro e w4 ⟨rfl, hb⟩
  have HS5 : Hid (LS w ((w3.heap.size, #[.int .i64 pk, .int .i64 pn, .string pz], 31) :: (bA, fm.N12 9 0 nmAnd .z .z (.slice pa qa ca), 28) :: [(ba, #[.int .i64 ak, .int .i64 an, .string az], 31), (bb, #[.int .i64 bk, .int .i64 bn, .string bz], 31)]) w4) := HS4.out.next hb
  clear hb HS4
  obtain ⟨bp, hbp⟩ : ∃ bp, w3.heap.size = bp := ⟨_, rfl⟩
  rw [hbp] at HS5 ⊢
  clear hbp
  go_wp2_with fail
  refine (HOr.out _ HS5.out.below).mono ?_
  rintro e w5 ⟨rfl, hb⟩
  have HS6 : Hid (LS w ((w5.heap.size, #[.int .i64 ok, .int .i64 on, .string oz], 31) :: (bp, #[.int .i64 pk, .int .i64 pn, .string pz], 31) :: (bA, fm.N12 9 0 nmAnd .z .z (.slice pa qa ca), 28) :: [(ba, #[.int .i64 ak, .int .i64 an, .string az], 31), (bb, #[.int .i64 bk, .int .i64 bn, .string bz], 31)]) (w5.alloc (.cells #[.int .i64 ok, .int .i64 on, .string oz] 31))) := (HS5.out.next hb).alloc _ _
  clear hb HS5
  obtain ⟨p0, p1, p2⟩ := cells3v (HS6.out.blks (bp, #[.int .i64 pk, .int .i64 pn, .string pz], 31) (by simp))
  obtain ⟨o0, o1, o2⟩ := cells3v (HS6.out.blks (w5.heap.size, #[.int .i64 ok, .int .i64 on, .string oz], 31) (by simp))
  have e31 : ∀ (k n : Int) (s : ByteArray) (W : World), (binOp BinOp.neq 31 (VV k n s) (VV k n s)).run Tryz.prog W = .ok (.bool false) W := ev.neq31
  have HT : Hid (∀ wy, LS w ((bA, fm.N12 9 0 nmAnd .z .z (.slice pa qa ca), 28) :: [(ba, #[.int .i64 ak, .int .i64 an, .string az], 31), (bb, #[.int .i64 bk, .int .i64 bn, .string bz], 31)]) wy → ∀ l0 l1 l2 l3 l6 l7 l8 l9 l10 l11 l13 l14 l15 l16 l17 l18 l20 l21 l22 l23 l24 l25 l26 l27 l28 l29 l30 l31 l32 l33 l34 l35 l36 l37 l38 l39 l40 l41 l42 l43 l44 l45 l46 l47 l48 l49 l50 l51 l52 l53 l54 l55 l56 l57 l58 l59 l60 l61 l62 l63 l64 l65 l66 l67 l68 l69 l70 l71 l72 l73 l74 l75 l76 l77 l78 l79 l80 l81 l82 l83 l84 l85 l86 l87 l88 l89 l90 l91 l92 l93 l94 l95 l96 l97 l98 l99 l100 l101 l102 l103 l104 l105 l106 l107 l108 l109 l110 l111 l112 l113 l114 l115 l116 l117 l118 l119 l120 l121 l122 l123 l124 l125 l126 l127 l128 l129 l130 l131 l132 l133 l134 l135 l136 l137 l138 l139 l140 l141 l142 l143 l144 l145 l146 l147 l148 l149 l150 l151 l152 l153 l154 l155 l156 l157 l158 l159 l160 l161 l162 l163 l164 l165 l166 l167 l168 l169 l170 l171 l172 l173 l174 l175 l176 l177 l178 l179 l180 l181 l182 l183 l184 l185 l186 l187 l188 l189 l190 l191 l192 l193 l194 l195 : Value, Code.wp Tryz.prog tail26C (bodyPost Tryz.prog Tryz.f7 fun e w' => e = .returned (.bool true) ∧ Below B w0 w') ⟨#[l0, l1, l2, l3, .pointer (some ⟨ba, 0, none⟩), .pointer (some ⟨bb, 0, none⟩), l6, l7, l8, l9, l10, l11, .slice pl (q + 2) cl, l13, l14, l15, l16, l17, l18, .pointer (some ⟨bA, 0, none⟩), l20, l21, l22, l23, l24, l25, l26, l27, l28, l29, l30, l31, l32, l33, l34, l35, l36, l37, l38, l39, l40, l41, l42, l43, l44, l45, l46, l47, l48, l49, l50, l51, l52, l53, l54, l55, l56, l57, l58, l59, l60, l61, l62, l63, l64, l65, l66, l67, l68, l69, l70, l71, l72, l73, l74, l75, l76, l77, l78, l79, l80, l81, l82, l83, l84, l85, l86, l87, l88, l89, l90, l91, l92, l93, l94, l95, l96, l97, l98, l99, l100, l101, l102, l103, l104, l105, l106, l107, l108, l109, l110, l111, l112, l113, l114, l115, l116, l117, l118, l119, l120, l121, l122, l123, l124, l125, l126, l127, l128, l129, l130, l131, l132, l133, l134, l135, l136, l137, l138, l139, l140, l141, l142, l143, l144, l145, l146, l147, l148, l149, l150, l151, l152, l153, l154, l155, l156, l157, l158, l159, l160, l161, l162, l163, l164, l165, l166, l167, l168, l169, l170, l171, l172, l173, l174, l175, l176, l177, l178, l179, l180, l181, l182, l183, l184, l185, l186, l187, l188, l189, l190, l191, l192, l193, l194, l195], []⟩ wy) := by
    intro wy hs l0 l1 l2 l3 l6 l7 l8 l9 l10 l11 l13 l14 l15 l16 l17 l18 l20 l21 l22 l23 l24 l25 l26 l27 l28 l29 l30 l31 l32 l33 l34 l35 l36 l37 l38 l39 l40 l41 l42 l43 l44 l45 l46 l47 l48 l49 l50 l51 l52 l53 l54 l55 l56 l57 l58 l59 l60 l61 l62 l63 l64 l65 l66 l67 l68 l69 l70 l71 l72 l73 l74 l75 l76 l77 l78 l79 l80 l81 l82 l83 l84 l85 l86 l87 l88 l89 l90 l91 l92 l93 l94 l95 l96 l97 l98 l99 l100 l101 l102 l103 l104 l105 l106 l107 l108 l109 l110 l111 l112 l113 l114 l115 l116 l117 l118 l119 l120 l121 l122 l123 l124 l125 l126 l127 l128 l129 l130 l131 l132 l133 l134 l135 l136 l137 l138 l139 l140 l141 l142 l143 l144 l145 l146 l147 l148 l149 l150 l151 l152 l153 l154 l155 l156 l157 l158 l159 l160 l161 l162 l163 l164 l165 l166 l167 l168 l169 l170 l171 l172 l173 l174 l175 l176 l177 l178 l179 l180 l181 l182 l183 l184 l185 l186 l187 l188 l189 l190 l191 l192 l193 l194 l195
    exact tail26 B w0 pl pa q cl qa ca ak an bk bn rk rn sk sn az bz rz sz w hB0 hBs ba bb bA HCase HWs HIf wy hs l0 l1 l2 l3 l6 l7 l8 l9 l10 l11 l13 l14 l15 l16 l17 l18 l20 l21 l22 l23 l24 l25 l26 l27 l28 l29 l30 l31 l32 l33 l34 l35 l36 l37 l38 l39 l40 l41 l42 l43 l44 l45 l46 l47 l48 l49 l50 l51 l52 l53 l54 l55 l56 l57 l58 l59 l60 l61 l62 l63 l64 l65 l66 l67 l68 l69 l70 l71 l72 l73 l74 l75 l76 l77 l78 l79 l80 l81 l82 l83 l84 l85 l86 l87 l88 l89 l90 l91 l92 l93 l94 l95 l96 l97 l98 l99 l100 l101 l102 l103 l104 l105 l106 l107 l108 l109 l110 l111 l112 l113 l114 l115 l116 l117 l118 l119 l120 l121 l122 l123 l124 l125 l126 l127 l128 l129 l130 l131 l132 l133 l134 l135 l136 l137 l138 l139 l140 l141 l142 l143 l144 l145 l146 l147 l148 l149 l150 l151 l152 l153 l154 l155 l156 l157 l158 l159 l160 l161 l162 l163 l164 l165 l166 l167 l168 l169 l170 l171 l172 l173 l174 l175 l176 l177 l178 l179 l180 l181 l182 l183 l184 l185 l186 l187 l188 l189 l190 l191 l192 l193 l194 l195
  clear hB0 hBs
  go_upto_region 24 with fail
  go_cut [145] (fun s145 wx => s145 = .bool false ∧ LS w ((bA, fm.N12 9 0 nmAnd .z .z (.slice pa qa ca), 28) :: [(ba, #[.int .i64 ak, .int .i64 an, .string az], 31), (bb, #[.int .i64 bk, .int .i64 bn, .string bz], 31)]) wx)
  case first =>
    rcases HPQ.out with ⟨rfl, rfl, rfl, rfl⟩ | ⟨rfl, rfl, rfl⟩
    · go_wp2_with fail
      go_meet
      case rel => exact ⟨rfl, HS6.out.sub (by simp)⟩
    · go_wp2_with fail
      go_meet
      case rel => exact ⟨rfl, HS6.out.sub (by simp)⟩
  case rest =>
  obtain ⟨rfl, hs⟩ := hcut
  clear p0 p1 p2 o0 o1 o2 HS6
  go_upto_if 145 with fail
  go_cut [6] (fun _ wx => LS w ((bA, fm.N12 9 0 nmAnd .z .z (.slice pa qa ca), 28) :: [(ba, #[.int .i64 ak, .int .i64 an, .string az], 31), (bb, #[.int .i64 bk, .int .i64 bn, .string bz], 31)]) wx)
  case first =>
    go_wp2_with fail
    go_meet
    case rel => exact hs
  case rest =>
  apply_assumption
  exact HT.out _ hcut _ _ _ _ _ _ _ _ _ _ _ _ _ _ _ _ _ _ _ _ _ _ _ _ _ _ _ _ _ _ _ _ _ _ _ _ _ _ _ _ _ _ _ _ _ _ _ _ _ _ _ _ _ _ _ _ _ _ _ _ _ _ _ _ _ _ _ _ _ _ _ _ _ _ _ _ _ _ _ _ _ _ _ _ _ _ _ _ _ _ _ _ _ _ _ _ _ _ _ _ _ _ _ _ _ _ _ _ _ _ _ _ _ _ _ _ _ _ _ _ _ _ _ _ _ _ _ _ _ _ _ _ _ _ _ _ _ _ _ _ _ _ _ _ _ _ _ _ _ _ _ _ _ _ _ _ _ _ _ _ _ _ _ _ _ _ _ _ _ _ _ _ _ _ _ _ _ _ _ _ _ _ _ _ _ _ _ _ _ _ _ _
end Go.Proofs.YtoaejcppfmjhdaaGreatDoor.ov
/- The law EvalLogic: its two lists of nodes, as they grow. No program is walked here. -/
namespace Go.Proofs.YtoaejcppfmjhdaaGreatDoor.ov
open Go.RowKit
open ev (VV In)
open fm (NV N12 T)
abbrev r12 (i : Nat) : Array Value := N12 5 0 nul (rI i) .z (.slice none 0 0)
abbrev n12 (g : Nat) : Array Value := N12 9 0 nmNot .z .z (.slice (some ⟨g, 0, none⟩) 1 1)
def usA (n : Nat) : List Value := (List.range n).map fun i => NV 5 0 nul (rI i) .z (.slice none 0 0)
def usO (G : Nat → Nat) (n : Nat) : List Value := (List.range n).map fun i => NV 9 0 nmNot .z .z (.slice (some ⟨G i, 0, none⟩) 1 1)
theorem usA_succ (n : Nat) : fm.cellsL (usA (n + 1)) = fm.cellsL (usA n) ++ (r12 n).toList := by
  unfold usA fm.cellsL; rw [List.range_succ, List.map_append, List.flatMap_append]; rfl
theorem usO_succ (G : Nat → Nat) (n : Nat) : fm.cellsL (usO G (n + 1)) = fm.cellsL (usO G n) ++ (n12 (G n)).toList := by
  unfold usO fm.cellsL; rw [List.range_succ, List.map_append, List.flatMap_append]; rfl
theorem usO_congr {G G' : Nat → Nat} {n : Nat} (h : ∀ i, i < n → G' i = G i) : usO G' n = usO G n := by
  unfold usO
  exact List.map_congr_left (fun i hi => by rw [h i (List.mem_range.1 hi)])
/-- The two lists in memory. -/
structure LP (w : World) (ja jo : Nat) (va vo : Value) (G : Nat → Nat) (wr : World) : Prop where
  ra : wr.ownsRow w.heap.size 28 12 va ja (fm.cellsL (usA ja))
  ro : wr.ownsRow w.heap.size 28 12 vo jo (fm.cellsL (usO G jo))
  kd : ∀ i, i < jo → wr.heap[G i]? = some (.cells (r12 i) 28 (0, 0)) ∧ some (G i) ≠ va.ownBlock ∧ some (G i) ≠ vo.ownBlock
  ne : ∀ g, va.ownBlock = some g → vo.ownBlock ≠ some g
  below : Below w.heap.size w wr
section
variable {w : World} {ja jo : Nat} {va vo : Value} {G : Nat → Nat} {wr : World}
theorem own28 {w : World} {base n : Nat} {v : Value} {xs : List Value} (h : w.ownsRow base 28 12 v n xs) {w' : World} (hb : Below w.heap.size w w') : w'.ownsRow base 28 12 v n xs := by
  obtain ⟨h0, h | ⟨g, cap, cur, h1, h2, h3, h4⟩⟩ := h
  · exact ⟨h0, Or.inl h⟩
  · exact ⟨h0, Or.inr ⟨g, cap, cur, h1, h2, by rw [hb.block g (fm.lt_blk h3)]; exact h3, h4⟩⟩
theorem LP.next (h : LP w ja jo va vo G wr) {wy : World} (hb : Below wr.heap.size wr wy) : LP w ja jo va vo G wy :=
  ⟨own28 h.ra hb, own28 h.ro hb, fun i hi => ⟨(hb.block _ (fm.lt_blk (h.kd i hi).1)).trans (h.kd i hi).1, (h.kd i hi).2⟩, h.ne, bnext h.below hb h.below.size⟩
theorem LP.al (h : LP w ja jo va vo G wr) (o : Obj) : LP w ja jo va vo G (wr.alloc o) := h.next ((Below.refl _ _).alloc (Nat.le_refl _) _)
theorem LP.new (h : LP w ja jo va vo G wr) {b : Nat} (hb : wr.heap.size ≤ b) : some b ≠ va.ownBlock ∧ some b ≠ vo.ownBlock :=
  ⟨fun e => by have := (h.ra.lt b e.symm).2; omega, fun e => by have := (h.ro.lt b e.symm).2; omega⟩
theorem LP.appA (h : LP w ja jo va vo G wr) {g cap : Nat} {w3 : World} (hown : w3.ownsRow w.heap.size 28 12 (.slice (some ⟨g, 0, none⟩) (ja + 1) cap) (ja + 1) (fm.cellsL (usA ja) ++ (r12 ja).toList)) (hg : wr.grownBy w3 va.ownBlock) (hat : va.ownBlock = some g ∨ g = wr.heap.size) : LP w (ja + 1) jo (.slice (some ⟨g, 0, none⟩) (ja + 1) cap) vo G w3 := by
  refine ⟨by rw [usA_succ]; exact hown, h.ro.kept hg ?_, fun i hi => ?_, fun g' e e' => ?_, h.below.grown hg h.below.size (fun k hk => (h.ra.lt k hk).1)⟩
  · cases hv : vo.ownBlock with
    | none => exact .inl rfl
    | some g' => exact .inr (fun q => h.ne g' q.symm hv)
  · obtain ⟨h1, h2, h3⟩ := h.kd i hi
    refine ⟨(hg.block _ (fm.lt_blk h1) h2).trans h1, ?_, h3⟩
    show some (G i) ≠ some g
    rcases hat with e | e
    · rw [← e]; exact h2
    · intro q; have := fm.lt_blk h1; injection q with q; omega
  · have e1 : g = g' := by simpa [Value.ownBlock] using e
    subst e1
    rcases hat with q | q
    · exact h.ne g q e'
    · have := (h.ro.lt g e').2; omega
theorem LP.appO (h : LP w ja jo va vo G wr) {gn : Nat} (hk : wr.heap[gn]? = some (.cells (r12 jo) 28 (0, 0))) (h1 : some gn ≠ va.ownBlock) (h2 : some gn ≠ vo.ownBlock) {g cap : Nat} {w3 : World} (hown : w3.ownsRow w.heap.size 28 12 (.slice (some ⟨g, 0, none⟩) (jo + 1) cap) (jo + 1) (fm.cellsL (usO G jo) ++ (n12 gn).toList)) (hg : wr.grownBy w3 vo.ownBlock) (hat : vo.ownBlock = some g ∨ g = wr.heap.size) : ∃ G', LP w ja (jo + 1) va (.slice (some ⟨g, 0, none⟩) (jo + 1) cap) G' w3 := by
  refine ⟨fun i => if i = jo then gn else G i, ?_, ?_, fun i hi => ?_, fun g' e e' => ?_, h.below.grown hg h.below.size (fun k hk => (h.ro.lt k hk).1)⟩
  · refine h.ra.kept hg ?_
    cases hv : va.ownBlock with
    | none => exact .inl rfl
    | some g' => exact .inr (fun q => h.ne g' hv q.symm)
  · rw [usO_succ, usO_congr (G := G) (fun i hi => by rw [if_neg (by omega)])]
    simpa using hown
  · have hgi : ∀ b : Nat, b < wr.heap.size → some b ≠ vo.ownBlock → some b ≠ some g := fun b hb hn => by
      rcases hat with e | e
      · rw [← e]; exact hn
      · intro q; injection q with q; omega
    by_cases e : i = jo
    · subst e
      simp only [if_true]
      exact ⟨(hg.block _ (fm.lt_blk hk) h2).trans hk, h1, hgi gn (fm.lt_blk hk) h2⟩
    · simp only [e, if_false]
      obtain ⟨q1, q2, q3⟩ := h.kd i (by omega)
      exact ⟨(hg.block _ (fm.lt_blk q1) q3).trans q1, q2, hgi _ (fm.lt_blk q1) q3⟩
  · have e1 : g = g' := by simpa [Value.ownBlock] using e'
    subst e1
    rcases hat with q | q
    · exact h.ne g e q
    · have := (h.ra.lt g e).2; omega
theorem row_kids {v : Value} {n : Nat} {us : List Value} (h : wr.ownsRow w.heap.size 28 12 v n (fm.cellsL us)) (hn : n = us.length) : ∃ p c, v = .slice p n c ∧ fm.Kids wr (fun b => b < wr.heap.size) p n c us := by
  rcases h.2 with ⟨rfl, h0⟩ | ⟨g, cap, cur, rfl, -, h3, h4, -, -, h7⟩
  · exact ⟨none, 0, by rw [h0], hn, .inl ⟨rfl, h0, rfl⟩⟩
  · refine ⟨_, _, rfl, fm.Kids.made h3 hn (fun i x hx => ?_) (fm.lt_blk h3) h4⟩
    rw [← h7, List.getElem?_take] at hx
    split at hx
    · simpa using hx
    · cases hx
theorem LP.inA (h : LP w ja jo va vo G wr) : ∃ p c, va = .slice p ja c ∧ In wr (NV 9 0 nmAnd .z .z (.slice p ja c)) (tAnd ja) := by
  obtain ⟨p, c, e, hk⟩ := row_kids h.ra (by simp [usA])
  refine ⟨p, c, e, .mk hk (by simp [usA, tsA]) (fun i u t' h1 h2 => ?_)⟩
  obtain ⟨hi, rfl⟩ := tsA_at h2
  unfold usA at h1
  rw [List.getElem?_map, List.getElem?_range hi] at h1
  simp at h1
  subst h1
  exact ev.in_leaf
theorem LP.inO (h : LP w ja jo va vo G wr) : ∃ p c, vo = .slice p jo c ∧ In wr (NV 9 0 nmOr .z .z (.slice p jo c)) (tOr jo) := by
  obtain ⟨p, c, e, hk⟩ := row_kids h.ro (by simp [usO])
  refine ⟨p, c, e, .mk hk (by simp [usO, tsO]) (fun i u t' h1 h2 => ?_)⟩
  obtain ⟨hi, rfl⟩ := tsO_at h2
  unfold usO at h1
  rw [List.getElem?_map, List.getElem?_range hi] at h1
  simp at h1
  subst h1
  exact ev.in1 (u := NV 5 0 nul (rI i) .z (.slice none 0 0)) (h.kd i hi).1 rfl ev.in_leaf
end
end Go.Proofs.YtoaejcppfmjhdaaGreatDoor.ov
/- The law EvalLogic, walked: its loop. Conditions: what lies in its blocks. -/
namespace Go.Proofs.YtoaejcppfmjhdaaGreatDoor.ov
open Go.RowKit
open ev (VV b2I LS cells3v findTail frz VM In ShL)
open fm (NV N12)
theorem info28 : (Tryz.prog.info? 28).map (fun i => (i.zero, i.size, i.bytes)) = some (some (NV 0 0 nul .z .z (.slice none 0 0)), 12, 104) := by kernel_rfl
theorem one_r12 (i : Nat) : ∀ u ∈ (r12 i).toList, u.oneCell' = true := by simp [Value.oneCell']
theorem one_n12 (g : Nat) : ∀ u ∈ (n12 g).toList, u.oneCell' = true := by simp [Value.oneCell']
theorem kinds_of {k n : Int} {s : ByteArray} (h : vv.isVal k n s = true) : s.size ≤ 140737488355328 ∧ (k ≠ 2 → k = 0 ∨ k = 1 ∨ k = 3 ∨ k = 4) := by
  unfold vv.isVal at h
  by_cases h0 : k = 0
  · rw [if_pos h0] at h; simp at h; rw [toList_nil (s := s) (by simpa using h.2)]; exact ⟨by decide, fun _ => .inl h0⟩
  rw [if_neg h0] at h
  by_cases h1 : k = 1
  · rw [if_pos h1] at h; rw [toList_nil h]; exact ⟨by decide, fun _ => .inr (.inl h1)⟩
  rw [if_neg h1] at h
  by_cases h2 : k = 2
  · rw [if_pos h2] at h; simp at h; exact ⟨by omega, fun q => absurd h2 q⟩
  rw [if_neg h2] at h
  by_cases h3 : k = 3
  · rw [if_pos h3] at h; simp at h; rw [toList_nil (s := s) (by simpa using h.2)]; exact ⟨by decide, fun _ => .inr (.inr (.inl h3))⟩
  rw [if_neg h3] at h
  by_cases h4 : k = 4
  · rw [if_pos h4] at h; simp at h; rw [toList_nil (s := s) (by simpa using h.2)]; exact ⟨by decide, fun _ => .inr (.inr (.inr h4))⟩
  rw [if_neg h4] at h
  cases h
theorem in_if {wx : World} {g : Nat} {pa : Option Addr} {qa ca n : Nat} (h : NB (b36 pa qa ca) wx g) (hA : In wx (NV 9 0 nmAnd .z .z (.slice pa qa ca)) (tAnd n)) : In wx (NV 9 0 nmIf .z .z (.slice (some ⟨g, 0, none⟩) 3 3)) (tIf n) :=
  ev.in3 (u := NV 9 0 nmAnd .z .z (.slice pa qa ca)) (v := NV 5 0 nul ⟨2, 1, false, false⟩ .z (.slice none 0 0)) (x := NV 5 0 nul ⟨3, 1, false, false⟩ .z (.slice none 0 0)) h rfl hA ev.in_leaf ev.in_leaf
theorem at21 (B : Nat) (w0 : World) (pl pa po : Option Addr) (q cl ca co : Nat) (k m : Nat → Int) (z : Nat → ByteArray) (ak an bk bn : Int) (az bz : ByteArray) (hLw : Lw k m z q ⟨ak, an, az⟩ ⟨bk, bn, bz⟩) (w : World) (hB0 : Below B w0 w) (hBs : B ≤ w.heap.size) (hE : fm.EnvW w) (ba bb : Nat)
    (hba : w.heap[ba]? = some (.cells #[.int .i64 ak, .int .i64 an, .string az] 31 (0, 0))) (hbb : w.heap[bb]? = some (.cells #[.int .i64 bk, .int .i64 bn, .string bz] 31 (0, 0))) (hx : ShL w pl (shG k m z q ⟨ak, an, az⟩ ⟨bk, bn, bz⟩))
    (hA : In w (NV 9 0 nmAnd .z .z (.slice pa q ca)) (tAnd q)) (hO : In w (NV 9 0 nmOr .z .z (.slice po q co)) (tOr q))
    (l0 l1 l2 l3 l6 l7 l8 l9 l10 l11 l16 l17 l18 l19 l20 l21 l22 l23 l24 l25 l26 l27 l28 l29 l30 l31 l32 l33 l34 l35 l36 l37 l38 l39 l40 l41 l42 l43 l44 l45 l46 l47 l48 l49 l50 l51 l52 l53 l54 l55 l56 l57 l58 l59 l60 l61 l62 l63 l64 l65 l66 l67 l68 l69 l70 l71 l72 l73 l74 l75 l76 l77 l78 l79 l80 l81 l82 l83 l84 l85 l86 l87 l88 l89 l90 l91 l92 l93 l94 l95 l96 l97 l98 l99 l100 l101 l102 l103 l104 l105 l106 l107 l108 l109 l110 l111 l112 l113 l114 l115 l116 l117 l118 l119 l120 l121 l122 l123 l124 l125 l126 l127 l128 l129 l130 l131 l132 l133 l134 l135 l136 l137 l138 l139 l140 l141 l142 l143 l144 l145 l146 l147 l148 l149 l150 l151 l152 l153 l154 l155 l156 l157 l158 l159 l160 l161 l162 l163 l164 l165 l166 l167 l168 l169 l170 l171 l172 l173 l174 l175 l176 l177 l178 l179 l180 l181 l182 l183 l184 l185 l186 l187 l188 l189 l190 l191 l192 l193 l194 l195 : Value) :
    Code.wp Tryz.prog tail21C (bodyPost Tryz.prog Tryz.f7 fun e w' => e = .returned (.bool true) ∧ Below B w0 w') ⟨#[l0, l1, l2, l3, .pointer (some ⟨ba, 0, none⟩), .pointer (some ⟨bb, 0, none⟩), l6, l7, l8, l9, l10, l11, .slice pl (q + 2) cl, .slice pa q ca, .slice po q co, .bool (badT k m z q), l16, l17, l18, l19, l20, l21, l22, l23, l24, l25, l26, l27, l28, l29, l30, l31, l32, l33, l34, l35, l36, l37, l38, l39, l40, l41, l42, l43, l44, l45, l46, l47, l48, l49, l50, l51, l52, l53, l54, l55, l56, l57, l58, l59, l60, l61, l62, l63, l64, l65, l66, l67, l68, l69, l70, l71, l72, l73, l74, l75, l76, l77, l78, l79, l80, l81, l82, l83, l84, l85, l86, l87, l88, l89, l90, l91, l92, l93, l94, l95, l96, l97, l98, l99, l100, l101, l102, l103, l104, l105, l106, l107, l108, l109, l110, l111, l112, l113, l114, l115, l116, l117, l118, l119, l120, l121, l122, l123, l124, l125, l126, l127, l128, l129, l130, l131, l132, l133, l134, l135, l136, l137, l138, l139, l140, l141, l142, l143, l144, l145, l146, l147, l148, l149, l150, l151, l152, l153, l154, l155, l156, l157, l158, l159, l160, l161, l162, l163, l164, l165, l166, l167, l168, l169, l170, l171, l172, l173, l174, l175, l176, l177, l178, l179, l180, l181, l182, l183, l184, l185, l186, l187, l188, l189, l190, l191, l192, l193, l194, l195], []⟩ w := by
  refine tail21 B w0 pl pa q cl q ca ak an bk bn (ifV (andV (Xi k m z) q) ⟨ak, an, az⟩ ⟨bk, bn, bz⟩).k (ifV (andV (Xi k m z) q) ⟨ak, an, az⟩ ⟨bk, bn, bz⟩).n (andV (Xi k m z) q).k (andV (Xi k m z) q).n az bz (ifV (andV (Xi k m z) q) ⟨ak, an, az⟩ ⟨bk, bn, bz⟩).s (andV (Xi k m z) q).s po q co (badT k m z q) (naV k m z q).k (naV k m z q).n (orV (Yi k m z) q).k (orV (Yi k m z) q).n (naV k m z q).s (orV (Yi k m z) q).s w hB0 hBs ba bb ?_ ?_ ?_ ?_ ?_ ?_ w ⟨fun x hx => ?_, Below.refl _ _⟩ l0 l1 l2 l3 l6 l7 l8 l9 l10 l11 l16 l17 l18 l19 l20 l21 l22 l23 l24 l25 l26 l27 l28 l29 l30 l31 l32 l33 l34 l35 l36 l37 l38 l39 l40 l41 l42 l43 l44 l45 l46 l47 l48 l49 l50 l51 l52 l53 l54 l55 l56 l57 l58 l59 l60 l61 l62 l63 l64 l65 l66 l67 l68 l69 l70 l71 l72 l73 l74 l75 l76 l77 l78 l79 l80 l81 l82 l83 l84 l85 l86 l87 l88 l89 l90 l91 l92 l93 l94 l95 l96 l97 l98 l99 l100 l101 l102 l103 l104 l105 l106 l107 l108 l109 l110 l111 l112 l113 l114 l115 l116 l117 l118 l119 l120 l121 l122 l123 l124 l125 l126 l127 l128 l129 l130 l131 l132 l133 l134 l135 l136 l137 l138 l139 l140 l141 l142 l143 l144 l145 l146 l147 l148 l149 l150 l151 l152 l153 l154 l155 l156 l157 l158 l159 l160 l161 l162 l163 l164 l165 l166 l167 l168 l169 l170 l171 l172 l173 l174 l175 l176 l177 l178 l179 l180 l181 l182 l183 l184 l185 l186 l187 l188 l189 l190 l191 l192 l193 l194 l195
  · cases hb : badT k m z q with
    | true => obtain ⟨h1, h2⟩ := if_yes hb ⟨ak, an, az⟩ ⟨bk, bn, bz⟩; exact .inl ⟨h1, by rw [h2], by rw [h2], by rw [h2]⟩
    | false =>
      obtain ⟨h1, ⟨h2, h3⟩ | ⟨h2, h3⟩⟩ := if_no hb ⟨ak, an, az⟩ ⟨bk, bn, bz⟩
      · exact .inr ⟨h1, .inl ⟨h2, by rw [h3], by rw [h3], by rw [h3]⟩⟩
      · exact .inr ⟨h1, .inr ⟨h2, by rw [h3], by rw [h3], by rw [h3]⟩⟩
  · cases hb : badT k m z q with
    | true => exact .inr ⟨rfl, de_yes hb⟩
    | false => have e := de_no hb; exact .inl ⟨rfl, by rw [e], by rw [e], by rw [e]⟩
  · exact fun wx hb => works_and hLw wx (hE.next hb) pl cl (hx.next hb) (hA.next hb)
  · exact fun wx g hb hn => works_na hLw wx (hE.next hb) pl cl (hx.next hb) (ev.in1 (u := NV 9 0 nmAnd .z .z (.slice pa q ca)) hn rfl (hA.next hb))
  · exact fun wx hb => works_or hLw wx (hE.next hb) pl cl (hx.next hb) (hO.next hb)
  · exact fun wx g hb hn => works_if hLw wx (hE.next hb) pl cl (hx.next hb) (in_if hn (hA.next hb))
  · simp at hx
    rcases hx with rfl | rfl
    · exact hba
    · exact hbb
noncomputable def tail13C : Code := ((Tryz.f7.body.bind (findTail 13)).getD .skip)
set_option maxRecDepth 1000000 in
set_option maxHeartbeats 32000000 in
theorem tail13 (B : Nat) (w0 : World) (Q : Exit → Act → World → Prop) (hQ : ∀ a wx, Code.wp Tryz.prog tail21C (bodyPost Tryz.prog Tryz.f7 fun e w' => e = .returned (.bool true) ∧ Below B w0 w') a wx → Q .normal a wx) (p pl : Option Addr) (q c cl : Nat) (k m : Nat → Int) (z : Nat → ByteArray) (ak an bk bn : Int) (az bz : ByteArray) (hLw : Lw k m z q ⟨ak, an, az⟩ ⟨bk, bn, bz⟩) (w : World) (hB0 : Below B w0 w) (hBs : B ≤ w.heap.size) (hE : fm.EnvW w) (hV : VM w p q k m z) (ba bb : Nat)
    (hba : w.heap[ba]? = some (.cells #[.int .i64 ak, .int .i64 an, .string az] 31 (0, 0))) (hbb : w.heap[bb]? = some (.cells #[.int .i64 bk, .int .i64 bn, .string bz] 31 (0, 0))) (hx : ShL w pl (shG k m z q ⟨ak, an, az⟩ ⟨bk, bn, bz⟩))
    (l1 l2 l3 l6 l7 l8 l9 l10 l11 l16 l17 l18 l19 l20 l21 l22 l23 l24 l25 l26 l27 l28 l29 l30 l31 l32 l33 l34 l35 l36 l37 l38 l39 l40 l41 l42 l43 l44 l45 l46 l47 l48 l49 l50 l51 l52 l53 l54 l55 l56 l57 l58 l59 l60 l61 l62 l63 l64 l65 l66 l67 l68 l69 l70 l71 l72 l73 l74 l75 l76 l77 l78 l79 l80 l81 l82 l83 l84 l85 l86 l87 l88 l89 l90 l91 l92 l93 l94 l95 l96 l97 l98 l99 l100 l101 l102 l103 l104 l105 l106 l107 l108 l109 l110 l111 l112 l113 l114 l115 l116 l117 l118 l119 l120 l121 l122 l123 l124 l125 l126 l127 l128 l129 l130 l131 l132 l133 l134 l135 l136 l137 l138 l139 l140 l141 l142 l143 l144 l145 l146 l147 l148 l149 l150 l151 l152 l153 l154 l155 l156 l157 l158 l159 l160 l161 l162 l163 l164 l165 l166 l167 l168 l169 l170 l171 l172 l173 l174 l175 l176 l177 l178 l179 l180 l181 l182 l183 l184 l185 l186 l187 l188 l189 l190 l191 l192 l193 l194 l195 : Value) :
    Code.wp Tryz.prog tail13C Q ⟨#[.slice p q c, l1, l2, l3, .pointer (some ⟨ba, 0, none⟩), .pointer (some ⟨bb, 0, none⟩), l6, l7, l8, l9, l10, l11, .slice pl (q + 2) cl, .slice none 0 0, .slice none 0 0, .bool false, l16, l17, l18, l19, l20, l21, l22, l23, l24, l25, l26, l27, l28, l29, l30, l31, l32, l33, l34, l35, l36, l37, l38, l39, l40, l41, l42, l43, l44, l45, l46, l47, l48, l49, l50, l51, l52, l53, l54, l55, l56, l57, l58, l59, l60, l61, l62, l63, l64, l65, l66, l67, l68, l69, l70, l71, l72, l73, l74, l75, l76, l77, l78, l79, l80, l81, l82, l83, l84, l85, l86, l87, l88, l89, l90, l91, l92, l93, l94, l95, l96, l97, l98, l99, l100, l101, l102, l103, l104, l105, l106, l107, l108, l109, l110, l111, l112, l113, l114, l115, l116, l117, l118, l119, l120, l121, l122, l123, l124, l125, l126, l127, l128, l129, l130, l131, l132, l133, l134, l135, l136, l137, l138, l139, l140, l141, l142, l143, l144, l145, l146, l147, l148, l149, l150, l151, l152, l153, l154, l155, l156, l157, l158, l159, l160, l161, l162, l163, l164, l165, l166, l167, l168, l169, l170, l171, l172, l173, l174, l175, l176, l177, l178, l179, l180, l181, l182, l183, l184, l185, l186, l187, l188, l189, l190, l191, l192, l193, l194, l195], []⟩ w := by
  dsimp only
  conv => arg 2; whnf
  have HQ : Hid (∀ a wx, Code.wp Tryz.prog tail21C (bodyPost Tryz.prog Tryz.f7 fun e w' => e = .returned (.bool true) ∧ Below B w0 w') a wx → Q .normal a wx) := hQ
  clear hQ
  have H19 : Hid (∀ c r wx, Calls Tryz.prog 19 #[.int .i64 c, .int .i64 r] wx fun e w' => e = .returned (.agg #[.int .i64 c, .int .i64 r]) ∧ Below wx.heap.size wx w') := ev.lat
  have H15 : Hid (∀ nm p q c wx, Calls Tryz.prog 15 #[.string nm, .slice p q c] wx fun e w' => e = .returned (NV 9 0 nm .z .z (.slice p q c)) ∧ Below wx.heap.size wx w') := ev.lcall
  have H24 : Hid (∀ i, i < q → ∀ wx, Calls Tryz.prog 24 #[VV (k i) (m i) (z i)] wx fun e w' => e = .returned (VV (trV (k i) (m i) (z i)).k (trV (k i) (m i) (z i)).n (trV (k i) (m i) (z i)).s) ∧ Below wx.heap.size wx w') := fun i hi wx => rtruth_all _ _ _ wx (kinds_of (hLw.vs i hi)).1 (kinds_of (hLw.vs i hi)).2
  have HV : Hid (VM w p q k m z) := hV
  have HK : Hid (Lw k m z q ⟨ak, an, az⟩ ⟨bk, bn, bz⟩ ∧ fm.EnvW w ∧ w.heap[ba]? = some (.cells #[.int .i64 ak, .int .i64 an, .string az] 31 (0, 0)) ∧ w.heap[bb]? = some (.cells #[.int .i64 bk, .int .i64 bn, .string bz] 31 (0, 0)) ∧ ShL w pl (shG k m z q ⟨ak, an, az⟩ ⟨bk, bn, bz⟩) ∧ Below B w0 w ∧ B ≤ w.heap.size) := ⟨hLw, hE, hba, hbb, hx, hB0, hBs⟩
  have hq8 : (q : Int) ≤ 8 := by have := hLw.hi; omega
  obtain ⟨i0, hi, hz0, hz1, hz2⟩ := info_parts info28
  clear hV hE hba hbb hx hB0 hBs hLw
  go_wp2_with fail
  go_loopw [13, 14, 15, 16] (fun s13 s14 s15 s16 wr => ∃ (j : Nat) (G : Nat → Nat), s16 = .int .i64 j ∧ j ≤ q ∧ s15 = .bool (badT k m z j) ∧ LP w j j s13 s14 G wr) (fun _ _ _ i _ => q - (intOf i).toNat)
  case atStart => exact ⟨0, fun _ => 0, rfl, Nat.zero_le _, rfl, ⟨World.ownsRow_nil _ _ _ _, World.ownsRow_nil _ _ _ _, fun i hi => absurd hi (Nat.not_lt_zero _), fun g e => by simp [Value.ownBlock] at e, Below.refl _ _⟩⟩
  case round =>
    obtain ⟨j, G, rfl, hj, rfl, hP⟩ := hrel
    have HP : Hid (LP w j j u13 u14 G wr) := hP
    clear hP
    obtain ⟨bd, hbd⟩ : ∃ bd, badT k m z j = bd := ⟨_, rfl⟩
    have HBD : Hid (badT k m z j = bd) := hbd
    rw [hbd]
    clear hbd
    by_cases hlt : j < q
    · have hlt' : (j : Int) < (q : Int) := by omega
      have hj0 : (0 : Int) ≤ (j : Int) := by omega
      rcases HV.out with h | ⟨gv, ov, rfl, hgv, h3⟩
      · omega
      have HV3 : Hid (∀ wx, Below w.heap.size w wx → wx.cell? ⟨gv, ov + j * 3, none⟩ = some (.int .i64 (k j)) ∧ wx.cell? ⟨gv, ov + j * 3 + 1, none⟩ = some (.int .i64 (m j)) ∧ wx.cell? ⟨gv, ov + j * 3 + 2, none⟩ = some (.string (z j))) := fun wx hb => by
        obtain ⟨q0, q1, q2⟩ := h3 j hlt
        exact ⟨by rw [hb.cell (p := ⟨gv, _, none⟩) hgv]; exact q0, by rw [hb.cell (p := ⟨gv, _, none⟩) hgv]; exact q1, by rw [hb.cell (p := ⟨gv, _, none⟩) hgv]; exact q2⟩
      clear h3
      go_wp2_with fail
      refine (H19.out _ _ _).mono ?_
      rintro e w1 ⟨rfl, hb1⟩
      have HP1 : Hid (LP w j j u13 u14 G (w1.alloc (.cells (r12 j) 28))) := (HP.out.next hb1).al _
      have hn1 : (w1.alloc (.cells (r12 j) 28)).heap[w1.heap.size]? = some (.cells (r12 j) 28 (0, 0)) := heap_alloc_new _ _
      have HN1 : Hid ((w1.alloc (.cells (r12 j) 28)).heap[w1.heap.size]? = some (.cells (r12 j) 28 (0, 0))) := hn1
      have HF1 : Hid (some w1.heap.size ≠ u13.ownBlock ∧ some w1.heap.size ≠ u14.ownBlock) := (HP.out.next hb1).new (Nat.le_refl _)
      have HPX : Hid (LP w j j u13 u14 G ((w1.alloc (.cells (r12 j) 28)).alloc (.cells (r12 j) 28))) := HP1.out.al _
      have HNW : Hid (∀ t u, (r12 j).toList[t]? = some u → ((w1.alloc (.cells (r12 j) 28)).alloc (.cells (r12 j) 28)).cell? ((⟨w1.heap.size + 1, 0, none⟩ : Addr).add t) = some u) := World.news_of_block (by have := heap_alloc_new (w1.alloc (.cells (r12 j) 28)) (.cells (r12 j) 28); simpa using this)
      obtain ⟨⟨x0, x1, x2, x3, x4, x5, x6, x7, x8, x9, x10, x11⟩, -⟩ := fm.cells12 hn1
      clear hn1 hb1 HP
      go_wp2_with (at_builtin; refine wpList_append_lies _ rfl _ _ 26 rfl w.heap.size 28 i0 _ 12 104 Tryz.underlying26 hi hz0 hz1 hz2 rfl (by decide) u13 j (fm.cellsL (usA j)) rfl HPX.out.ra ⟨w1.heap.size + 1, 0, none⟩ 1 1 (r12 j).toList rfl rfl HNW.out (one_r12 j) (by decide) (by unfold maxLen; omega) (by omega) HPX.out.below.size _ rfl ?_; intro g2 cap2 w3 hown3 hgrow hat hlt3; have HP3 : Hid (LP w (j + 1) j (.slice (some ⟨g2, 0, none⟩) (j + 1) cap2) u14 G w3) := HPX.out.appA hown3 hgrow hat; have hn3 : w3.heap[w1.heap.size]? = some (.cells (r12 j) 28 (0, 0)) := (hgrow.block _ (by simp; omega) HF1.out.1).trans ((Below.heap_alloc _ _ _ (fm.lt_blk HN1.out)).trans HN1.out); obtain ⟨⟨y0, y1, y2, y3, y4, y5, y6, y7, y8, y9, y10, y11⟩, -⟩ := fm.cells12 hn3; clear hown3 hgrow hat hlt3 hn3 x0 x1 x2 x3 x4 x5 x6 x7 x8 x9 x10 x11)
      have HP4 : Hid (LP w (j + 1) j (.slice (some ⟨g2, 0, none⟩) (j + 1) cap2) u14 G (w3.alloc (.cells (r12 j) 28))) := HP3.out.al _
      have HG3 : Hid ((w3.alloc (.cells (r12 j) 28)).heap[w3.heap.size]? = some (.cells (r12 j) 28 (0, 0))) := heap_alloc_new _ _
      have HF3 : Hid (some w3.heap.size ≠ Value.ownBlock (.slice (some ⟨g2, 0, none⟩) (j + 1) cap2) ∧ some w3.heap.size ≠ u14.ownBlock) := HP3.out.new (Nat.le_refl _)
      clear y0 y1 y2 y3 y4 y5 y6 y7 y8 y9 y10 y11
      refine (H15.out _ _ _ _ _).mono ?_
      rintro e w4 ⟨rfl, hb4⟩
      have HPY : Hid (LP w (j + 1) j (.slice (some ⟨g2, 0, none⟩) (j + 1) cap2) u14 G (w4.alloc (.cells (n12 w3.heap.size) 28))) := (HP4.out.next hb4).al _
      have HG4 : Hid ((w4.alloc (.cells (n12 w3.heap.size) 28)).heap[w3.heap.size]? = some (.cells (r12 j) 28 (0, 0))) := (Below.heap_alloc _ _ _ (fm.lt_blk ((hb4.block _ (fm.lt_blk HG3.out)).trans HG3.out))).trans ((hb4.block _ (fm.lt_blk HG3.out)).trans HG3.out)
      have HNX : Hid (∀ t u, (n12 w3.heap.size).toList[t]? = some u → (w4.alloc (.cells (n12 w3.heap.size) 28)).cell? ((⟨w4.heap.size, 0, none⟩ : Addr).add t) = some u) := World.news_of_block (heap_alloc_new w4 (.cells (n12 w3.heap.size) 28))
      clear hb4 HG3 HP4 HPX HNW HP1 HN1 HF1
      go_wp2_with (at_builtin; refine wpList_append_lies _ rfl _ _ 26 rfl w.heap.size 28 i0 _ 12 104 Tryz.underlying26 hi hz0 hz1 hz2 rfl (by decide) u14 j (fm.cellsL (usO G j)) rfl HPY.out.ro ⟨w4.heap.size, 0, none⟩ 1 1 (n12 w3.heap.size).toList rfl rfl HNX.out (one_n12 _) (by decide) (by unfold maxLen; omega) (by omega) HPY.out.below.size _ rfl ?_; intro g4 cap4 w5 hown5 hgrow5 hat5 hlt5; have HP6 : Hid (∃ G', LP w (j + 1) (j + 1) (.slice (some ⟨g2, 0, none⟩) (j + 1) cap2) (.slice (some ⟨g4, 0, none⟩) (j + 1) cap4) G' w5) := HPY.out.appO HG4.out HF3.out.1 HF3.out.2 hown5 hgrow5 hat5; have hbw5 : Below w.heap.size w w5 := HP6.out.elim fun _ h => h.below; obtain ⟨v0, v1, v2⟩ := HV3.out w5 hbw5; clear hown5 hgrow5 hat5 hlt5 hbw5)
      refine (H24.out j hlt _).mono ?_
      rintro e w6 ⟨rfl, hb6⟩
      have HP7 : Hid (∃ G', LP w (j + 1) (j + 1) (.slice (some ⟨g2, 0, none⟩) (j + 1) cap2) (.slice (some ⟨g4, 0, none⟩) (j + 1) cap4) G' (w6.alloc (.cells #[.int .i64 (trV (k j) (m j) (z j)).k, .int .i64 (trV (k j) (m j) (z j)).n, .string (trV (k j) (m j) (z j)).s] 31))) := by
        obtain ⟨G', hG'⟩ := HP6.out
        exact ⟨G', (hG'.next hb6).al _⟩
      have HBS : Hid (badT k m z (j + 1) = (bd || (trV (k j) (m j) (z j)).k == 4)) := by rw [← HBD.out]; rfl
      obtain ⟨t0, t1, t2⟩ := cells3v (heap_alloc_new w6 (.cells #[.int .i64 (trV (k j) (m j) (z j)).k, .int .i64 (trV (k j) (m j) (z j)).n, .string (trV (k j) (m j) (z j)).s] 31))
      clear hb6 HP6 HPY HG4 HNX HF3 HP3 v0 v1 v2 HBD
      generalize (trV (k j) (m j) (z j)) = R at *
      obtain ⟨rk, rn, rs⟩ := R
      dsimp only at *
      cases bd with
      | true =>
        go_wp2_with fail
        obtain ⟨G', hG'⟩ := HP7.out
        exact ⟨⟨j + 1, G', by simp, hlt, by rw [HBS.out]; rfl, hG'⟩, by simp [intOf]; omega⟩
      | false =>
        go_wp2_with fail
        obtain ⟨G', hG'⟩ := HP7.out
        exact ⟨⟨j + 1, G', by simp, hlt, by rw [HBS.out]; rfl, hG'⟩, by simp [intOf]; omega⟩
    · have hkn : q = j := by omega
      subst hkn
      obtain ⟨pa, ca, rfl, hA⟩ := HP.out.inA
      obtain ⟨po, co, rfl, hO⟩ := HP.out.inO
      have hT : ∀ l0 l1 l2 l3 l6 l7 l8 l9 l10 l11 l16 l17 l18 l19 l20 l21 l22 l23 l24 l25 l26 l27 l28 l29 l30 l31 l32 l33 l34 l35 l36 l37 l38 l39 l40 l41 l42 l43 l44 l45 l46 l47 l48 l49 l50 l51 l52 l53 l54 l55 l56 l57 l58 l59 l60 l61 l62 l63 l64 l65 l66 l67 l68 l69 l70 l71 l72 l73 l74 l75 l76 l77 l78 l79 l80 l81 l82 l83 l84 l85 l86 l87 l88 l89 l90 l91 l92 l93 l94 l95 l96 l97 l98 l99 l100 l101 l102 l103 l104 l105 l106 l107 l108 l109 l110 l111 l112 l113 l114 l115 l116 l117 l118 l119 l120 l121 l122 l123 l124 l125 l126 l127 l128 l129 l130 l131 l132 l133 l134 l135 l136 l137 l138 l139 l140 l141 l142 l143 l144 l145 l146 l147 l148 l149 l150 l151 l152 l153 l154 l155 l156 l157 l158 l159 l160 l161 l162 l163 l164 l165 l166 l167 l168 l169 l170 l171 l172 l173 l174 l175 l176 l177 l178 l179 l180 l181 l182 l183 l184 l185 l186 l187 l188 l189 l190 l191 l192 l193 l194 l195 : Value, Code.wp Tryz.prog tail21C (bodyPost Tryz.prog Tryz.f7 fun e w' => e = .returned (.bool true) ∧ Below B w0 w') ⟨#[l0, l1, l2, l3, .pointer (some ⟨ba, 0, none⟩), .pointer (some ⟨bb, 0, none⟩), l6, l7, l8, l9, l10, l11, .slice pl (q + 2) cl, .slice pa q ca, .slice po q co, .bool (badT k m z q), l16, l17, l18, l19, l20, l21, l22, l23, l24, l25, l26, l27, l28, l29, l30, l31, l32, l33, l34, l35, l36, l37, l38, l39, l40, l41, l42, l43, l44, l45, l46, l47, l48, l49, l50, l51, l52, l53, l54, l55, l56, l57, l58, l59, l60, l61, l62, l63, l64, l65, l66, l67, l68, l69, l70, l71, l72, l73, l74, l75, l76, l77, l78, l79, l80, l81, l82, l83, l84, l85, l86, l87, l88, l89, l90, l91, l92, l93, l94, l95, l96, l97, l98, l99, l100, l101, l102, l103, l104, l105, l106, l107, l108, l109, l110, l111, l112, l113, l114, l115, l116, l117, l118, l119, l120, l121, l122, l123, l124, l125, l126, l127, l128, l129, l130, l131, l132, l133, l134, l135, l136, l137, l138, l139, l140, l141, l142, l143, l144, l145, l146, l147, l148, l149, l150, l151, l152, l153, l154, l155, l156, l157, l158, l159, l160, l161, l162, l163, l164, l165, l166, l167, l168, l169, l170, l171, l172, l173, l174, l175, l176, l177, l178, l179, l180, l181, l182, l183, l184, l185, l186, l187, l188, l189, l190, l191, l192, l193, l194, l195], []⟩ wr := by
        obtain ⟨hLw, hE, hba, hbb, hx, hB0, hBs⟩ := HK.out
        have hb := HP.out.below
        exact at21 B w0 pl pa po q cl ca co k m z ak an bk bn az bz hLw wr (hB0.trans (hb.mono hBs)) (Nat.le_trans hBs hb.size) (hE.next hb) ba bb ((hb.block _ (fm.lt_blk hba)).trans hba) ((hb.block _ (fm.lt_blk hbb)).trans hbb) (hx.next hb) hA hO
      rw [HBD.out] at hT
      have HT : Hid (∀ l0 l1 l2 l3 l6 l7 l8 l9 l10 l11 l16 l17 l18 l19 l20 l21 l22 l23 l24 l25 l26 l27 l28 l29 l30 l31 l32 l33 l34 l35 l36 l37 l38 l39 l40 l41 l42 l43 l44 l45 l46 l47 l48 l49 l50 l51 l52 l53 l54 l55 l56 l57 l58 l59 l60 l61 l62 l63 l64 l65 l66 l67 l68 l69 l70 l71 l72 l73 l74 l75 l76 l77 l78 l79 l80 l81 l82 l83 l84 l85 l86 l87 l88 l89 l90 l91 l92 l93 l94 l95 l96 l97 l98 l99 l100 l101 l102 l103 l104 l105 l106 l107 l108 l109 l110 l111 l112 l113 l114 l115 l116 l117 l118 l119 l120 l121 l122 l123 l124 l125 l126 l127 l128 l129 l130 l131 l132 l133 l134 l135 l136 l137 l138 l139 l140 l141 l142 l143 l144 l145 l146 l147 l148 l149 l150 l151 l152 l153 l154 l155 l156 l157 l158 l159 l160 l161 l162 l163 l164 l165 l166 l167 l168 l169 l170 l171 l172 l173 l174 l175 l176 l177 l178 l179 l180 l181 l182 l183 l184 l185 l186 l187 l188 l189 l190 l191 l192 l193 l194 l195 : Value, Code.wp Tryz.prog tail21C (bodyPost Tryz.prog Tryz.f7 fun e w' => e = .returned (.bool true) ∧ Below B w0 w') ⟨#[l0, l1, l2, l3, .pointer (some ⟨ba, 0, none⟩), .pointer (some ⟨bb, 0, none⟩), l6, l7, l8, l9, l10, l11, .slice pl (q + 2) cl, .slice pa q ca, .slice po q co, .bool bd, l16, l17, l18, l19, l20, l21, l22, l23, l24, l25, l26, l27, l28, l29, l30, l31, l32, l33, l34, l35, l36, l37, l38, l39, l40, l41, l42, l43, l44, l45, l46, l47, l48, l49, l50, l51, l52, l53, l54, l55, l56, l57, l58, l59, l60, l61, l62, l63, l64, l65, l66, l67, l68, l69, l70, l71, l72, l73, l74, l75, l76, l77, l78, l79, l80, l81, l82, l83, l84, l85, l86, l87, l88, l89, l90, l91, l92, l93, l94, l95, l96, l97, l98, l99, l100, l101, l102, l103, l104, l105, l106, l107, l108, l109, l110, l111, l112, l113, l114, l115, l116, l117, l118, l119, l120, l121, l122, l123, l124, l125, l126, l127, l128, l129, l130, l131, l132, l133, l134, l135, l136, l137, l138, l139, l140, l141, l142, l143, l144, l145, l146, l147, l148, l149, l150, l151, l152, l153, l154, l155, l156, l157, l158, l159, l160, l161, l162, l163, l164, l165, l166, l167, l168, l169, l170, l171, l172, l173, l174, l175, l176, l177, l178, l179, l180, l181, l182, l183, l184, l185, l186, l187, l188, l189, l190, l191, l192, l193, l194, l195], []⟩ wr) := hT
      clear hA hO hT HP HK
      go_wp2_with fail
      exact HQ.out _ _ (HT.out _ _ _ _ _ _ _ _ _ _ _ _ _ _ _ _ _ _ _ _ _ _ _ _ _ _ _ _ _ _ _ _ _ _ _ _ _ _ _ _ _ _ _ _ _ _ _ _ _ _ _ _ _ _ _ _ _ _ _ _ _ _ _ _ _ _ _ _ _ _ _ _ _ _ _ _ _ _ _ _ _ _ _ _ _ _ _ _ _ _ _ _ _ _ _ _ _ _ _ _ _ _ _ _ _ _ _ _ _ _ _ _ _ _ _ _ _ _ _ _ _ _ _ _ _ _ _ _ _ _ _ _ _ _ _ _ _ _ _ _ _ _ _ _ _ _ _ _ _ _ _ _ _ _ _ _ _ _ _ _ _ _ _ _ _ _ _ _ _ _ _ _ _ _ _ _ _ _ _ _ _ _ _ _ _ _ _ _ _ _)
end Go.Proofs.YtoaejcppfmjhdaaGreatDoor.ov
/- The law EvalLogic, walked from its head. Conditions: the package variables as the program's text lays them; the values lie in memory. -/
namespace Go.Proofs.YtoaejcppfmjhdaaGreatDoor.ov
open Go.RowKit
open ev (VV b2I LS cells3v findTail frz VM In ShL allV values_law column_law colL own40 Z7)
open fm (NV N12)
noncomputable def tail11C : Code := ((Tryz.f7.body.bind (findTail 11)).getD .skip)
set_option maxRecDepth 1000000 in
set_option maxHeartbeats 32000000 in
theorem tail11 (B : Nat) (w0 : World) (p pl : Option Addr) (q c cl : Nat) (k m : Nat → Int) (z : Nat → ByteArray) (ak an bk bn : Int) (az bz : ByteArray) (hLw : Lw k m z q ⟨ak, an, az⟩ ⟨bk, bn, bz⟩) (w : World) (hB0 : Below B w0 w) (hBs : B ≤ w.heap.size) (hE : fm.EnvW w) (hV : VM w p q k m z) (ba bb : Nat)
    (hba : w.heap[ba]? = some (.cells #[.int .i64 ak, .int .i64 an, .string az] 31 (0, 0))) (hbb : w.heap[bb]? = some (.cells #[.int .i64 bk, .int .i64 bn, .string bz] 31 (0, 0))) (hx : ShL w pl (shG k m z q ⟨ak, an, az⟩ ⟨bk, bn, bz⟩))
    (l1 l2 l3 l6 l7 l8 l9 l10 l11 l13 l14 l15 l16 l17 l18 l19 l20 l21 l22 l23 l24 l25 l26 l27 l28 l29 l30 l31 l32 l33 l34 l35 l36 l37 l38 l39 l40 l41 l42 l43 l44 l45 l46 l47 l48 l49 l50 l51 l52 l53 l54 l55 l56 l57 l58 l59 l60 l61 l62 l63 l64 l65 l66 l67 l68 l69 l70 l71 l72 l73 l74 l75 l76 l77 l78 l79 l80 l81 l82 l83 l84 l85 l86 l87 l88 l89 l90 l91 l92 l93 l94 l95 l96 l97 l98 l99 l100 l101 l102 l103 l104 l105 l106 l107 l108 l109 l110 l111 l112 l113 l114 l115 l116 l117 l118 l119 l120 l121 l122 l123 l124 l125 l126 l127 l128 l129 l130 l131 l132 l133 l134 l135 l136 l137 l138 l139 l140 l141 l142 l143 l144 l145 l146 l147 l148 l149 l150 l151 l152 l153 l154 l155 l156 l157 l158 l159 l160 l161 l162 l163 l164 l165 l166 l167 l168 l169 l170 l171 l172 l173 l174 l175 l176 l177 l178 l179 l180 l181 l182 l183 l184 l185 l186 l187 l188 l189 l190 l191 l192 l193 l194 l195 : Value) :
    Code.wp Tryz.prog tail11C (bodyPost Tryz.prog Tryz.f7 fun e w' => e = .returned (.bool true) ∧ Below B w0 w') ⟨#[.slice p q c, l1, l2, l3, .pointer (some ⟨ba, 0, none⟩), .pointer (some ⟨bb, 0, none⟩), l6, l7, l8, l9, l10, l11, .slice pl (q + 2) cl, l13, l14, l15, l16, l17, l18, l19, l20, l21, l22, l23, l24, l25, l26, l27, l28, l29, l30, l31, l32, l33, l34, l35, l36, l37, l38, l39, l40, l41, l42, l43, l44, l45, l46, l47, l48, l49, l50, l51, l52, l53, l54, l55, l56, l57, l58, l59, l60, l61, l62, l63, l64, l65, l66, l67, l68, l69, l70, l71, l72, l73, l74, l75, l76, l77, l78, l79, l80, l81, l82, l83, l84, l85, l86, l87, l88, l89, l90, l91, l92, l93, l94, l95, l96, l97, l98, l99, l100, l101, l102, l103, l104, l105, l106, l107, l108, l109, l110, l111, l112, l113, l114, l115, l116, l117, l118, l119, l120, l121, l122, l123, l124, l125, l126, l127, l128, l129, l130, l131, l132, l133, l134, l135, l136, l137, l138, l139, l140, l141, l142, l143, l144, l145, l146, l147, l148, l149, l150, l151, l152, l153, l154, l155, l156, l157, l158, l159, l160, l161, l162, l163, l164, l165, l166, l167, l168, l169, l170, l171, l172, l173, l174, l175, l176, l177, l178, l179, l180, l181, l182, l183, l184, l185, l186, l187, l188, l189, l190, l191, l192, l193, l194, l195], []⟩ w := by
  dsimp only
  conv => arg 2; whnf
  have HT : Hid (∀ l1 l2 l3 l6 l7 l8 l9 l10 l11 l16 l17 l18 l19 l20 l21 l22 l23 l24 l25 l26 l27 l28 l29 l30 l31 l32 l33 l34 l35 l36 l37 l38 l39 l40 l41 l42 l43 l44 l45 l46 l47 l48 l49 l50 l51 l52 l53 l54 l55 l56 l57 l58 l59 l60 l61 l62 l63 l64 l65 l66 l67 l68 l69 l70 l71 l72 l73 l74 l75 l76 l77 l78 l79 l80 l81 l82 l83 l84 l85 l86 l87 l88 l89 l90 l91 l92 l93 l94 l95 l96 l97 l98 l99 l100 l101 l102 l103 l104 l105 l106 l107 l108 l109 l110 l111 l112 l113 l114 l115 l116 l117 l118 l119 l120 l121 l122 l123 l124 l125 l126 l127 l128 l129 l130 l131 l132 l133 l134 l135 l136 l137 l138 l139 l140 l141 l142 l143 l144 l145 l146 l147 l148 l149 l150 l151 l152 l153 l154 l155 l156 l157 l158 l159 l160 l161 l162 l163 l164 l165 l166 l167 l168 l169 l170 l171 l172 l173 l174 l175 l176 l177 l178 l179 l180 l181 l182 l183 l184 l185 l186 l187 l188 l189 l190 l191 l192 l193 l194 l195 : Value, Code.wp Tryz.prog (tail13C.seq tail21C) (bodyPost Tryz.prog Tryz.f7 fun e w' => e = .returned (.bool true) ∧ Below B w0 w') ⟨#[.slice p q c, l1, l2, l3, .pointer (some ⟨ba, 0, none⟩), .pointer (some ⟨bb, 0, none⟩), l6, l7, l8, l9, l10, l11, .slice pl (q + 2) cl, .slice none 0 0, .slice none 0 0, .bool false, l16, l17, l18, l19, l20, l21, l22, l23, l24, l25, l26, l27, l28, l29, l30, l31, l32, l33, l34, l35, l36, l37, l38, l39, l40, l41, l42, l43, l44, l45, l46, l47, l48, l49, l50, l51, l52, l53, l54, l55, l56, l57, l58, l59, l60, l61, l62, l63, l64, l65, l66, l67, l68, l69, l70, l71, l72, l73, l74, l75, l76, l77, l78, l79, l80, l81, l82, l83, l84, l85, l86, l87, l88, l89, l90, l91, l92, l93, l94, l95, l96, l97, l98, l99, l100, l101, l102, l103, l104, l105, l106, l107, l108, l109, l110, l111, l112, l113, l114, l115, l116, l117, l118, l119, l120, l121, l122, l123, l124, l125, l126, l127, l128, l129, l130, l131, l132, l133, l134, l135, l136, l137, l138, l139, l140, l141, l142, l143, l144, l145, l146, l147, l148, l149, l150, l151, l152, l153, l154, l155, l156, l157, l158, l159, l160, l161, l162, l163, l164, l165, l166, l167, l168, l169, l170, l171, l172, l173, l174, l175, l176, l177, l178, l179, l180, l181, l182, l183, l184, l185, l186, l187, l188, l189, l190, l191, l192, l193, l194, l195], []⟩ w) := by
    intro l1 l2 l3 l6 l7 l8 l9 l10 l11 l16 l17 l18 l19 l20 l21 l22 l23 l24 l25 l26 l27 l28 l29 l30 l31 l32 l33 l34 l35 l36 l37 l38 l39 l40 l41 l42 l43 l44 l45 l46 l47 l48 l49 l50 l51 l52 l53 l54 l55 l56 l57 l58 l59 l60 l61 l62 l63 l64 l65 l66 l67 l68 l69 l70 l71 l72 l73 l74 l75 l76 l77 l78 l79 l80 l81 l82 l83 l84 l85 l86 l87 l88 l89 l90 l91 l92 l93 l94 l95 l96 l97 l98 l99 l100 l101 l102 l103 l104 l105 l106 l107 l108 l109 l110 l111 l112 l113 l114 l115 l116 l117 l118 l119 l120 l121 l122 l123 l124 l125 l126 l127 l128 l129 l130 l131 l132 l133 l134 l135 l136 l137 l138 l139 l140 l141 l142 l143 l144 l145 l146 l147 l148 l149 l150 l151 l152 l153 l154 l155 l156 l157 l158 l159 l160 l161 l162 l163 l164 l165 l166 l167 l168 l169 l170 l171 l172 l173 l174 l175 l176 l177 l178 l179 l180 l181 l182 l183 l184 l185 l186 l187 l188 l189 l190 l191 l192 l193 l194 l195
    exact wp_seq (tail13 B w0 _ (fun a wx h => h) p pl q c cl k m z ak an bk bn az bz hLw w hB0 hBs hE hV ba bb hba hbb hx l1 l2 l3 l6 l7 l8 l9 l10 l11 l16 l17 l18 l19 l20 l21 l22 l23 l24 l25 l26 l27 l28 l29 l30 l31 l32 l33 l34 l35 l36 l37 l38 l39 l40 l41 l42 l43 l44 l45 l46 l47 l48 l49 l50 l51 l52 l53 l54 l55 l56 l57 l58 l59 l60 l61 l62 l63 l64 l65 l66 l67 l68 l69 l70 l71 l72 l73 l74 l75 l76 l77 l78 l79 l80 l81 l82 l83 l84 l85 l86 l87 l88 l89 l90 l91 l92 l93 l94 l95 l96 l97 l98 l99 l100 l101 l102 l103 l104 l105 l106 l107 l108 l109 l110 l111 l112 l113 l114 l115 l116 l117 l118 l119 l120 l121 l122 l123 l124 l125 l126 l127 l128 l129 l130 l131 l132 l133 l134 l135 l136 l137 l138 l139 l140 l141 l142 l143 l144 l145 l146 l147 l148 l149 l150 l151 l152 l153 l154 l155 l156 l157 l158 l159 l160 l161 l162 l163 l164 l165 l166 l167 l168 l169 l170 l171 l172 l173 l174 l175 l176 l177 l178 l179 l180 l181 l182 l183 l184 l185 l186 l187 l188 l189 l190 l191 l192 l193 l194 l195)
  clear hB0 hBs hE hV hba hbb hx hLw
  go_upto_region 12 with fail
  go_cut [15] (fun s15 wx => s15 = .bool false ∧ wx = w)
  case first =>
    go_wp2_with fail
    go_meet
    case rel => exact ⟨rfl, rfl⟩
  case rest =>
  obtain ⟨rfl, rfl⟩ := hcut
  apply_assumption
  exact HT.out _ _ _ _ _ _ _ _ _ _ _ _ _ _ _ _ _ _ _ _ _ _ _ _ _ _ _ _ _ _ _ _ _ _ _ _ _ _ _ _ _ _ _ _ _ _ _ _ _ _ _ _ _ _ _ _ _ _ _ _ _ _ _ _ _ _ _ _ _ _ _ _ _ _ _ _ _ _ _ _ _ _ _ _ _ _ _ _ _ _ _ _ _ _ _ _ _ _ _ _ _ _ _ _ _ _ _ _ _ _ _ _ _ _ _ _ _ _ _ _ _ _ _ _ _ _ _ _ _ _ _ _ _ _ _ _ _ _ _ _ _ _ _ _ _ _ _ _ _ _ _ _ _ _ _ _ _ _ _ _ _ _ _ _ _ _ _ _ _ _ _ _ _ _ _ _ _ _ _ _ _ _ _ _ _ _ _ _ _
theorem row_blkG {w : World} {base g q cap : Nat} {k m : Nat → Int} {z : Nat → ByteArray} {ak an bk bn : Int} {az bz : ByteArray} (h : w.ownsRow base 40 7 (.slice (some ⟨g, 0, none⟩) (q + 2) cap) (q + 2) (colL k m z q ++ [.int .i64 2, .int .i64 1, .int .i64 ak, .int .i64 an, .string az, .int .i64 0, .int .i64 0, .int .i64 3, .int .i64 1, .int .i64 bk, .int .i64 bn, .string bz, .int .i64 0, .int .i64 0])) : ShL w (some ⟨g, 0, none⟩) (shG k m z q ⟨ak, an, az⟩ ⟨bk, bn, bz⟩) := by
  refine ev.shl_own (base := base) (n := q + 2) (cap := cap) ?_
  rw [shG_eq, List.flatMap_append, ← ev.colL_flat]
  exact h
/-- What is kept about the two boxes. -/
abbrev CB (w4 : World) (ba bb : Nat) (ak an : Int) (az : ByteArray) (bk bn : Int) (bz : ByteArray) (wx : World) : Prop := wx.cell? ⟨ba, 0, none⟩ = some (.int .i64 ak) ∧ wx.cell? ⟨ba, 1, none⟩ = some (.int .i64 an) ∧ wx.cell? ⟨ba, 2, none⟩ = some (.string az) ∧ wx.cell? ⟨bb, 0, none⟩ = some (.int .i64 bk) ∧ wx.cell? ⟨bb, 1, none⟩ = some (.int .i64 bn) ∧ wx.cell? ⟨bb, 2, none⟩ = some (.string bz) ∧ Below w4.heap.size w4 wx
theorem cbb {w4 : World} {ba bb : Nat} {ak an bk bn : Int} {az bz : ByteArray} {wx : World} (h : CB w4 ba bb ak an az bk bn bz wx) : Below w4.heap.size w4 wx := h.2.2.2.2.2.2
set_option maxRecDepth 1000000 in
set_option maxHeartbeats 32000000 in
theorem logic_any (p : Option Addr) (q c : Nat) (hq : q ≤ 9223372036854775807) (k m : Nat → Int) (z : Nat → ByteArray) (ak an bk bn : Int) (az bz : ByteArray) (w : World) (hE : fm.EnvW w) (hv : VM w p q k m z) : Calls Tryz.prog 7 #[.slice p q c, VV ak an az, VV bk bn bz] w fun e w' => e = .returned (.bool true) ∧ Below w.heap.size w w' := by
  have HV : Hid (VM w p q k m z) := hv
  clear hv
  have HE : Hid (∀ wx, Below w.heap.size w wx → fm.EnvW wx) := fun wx hb => hE.next hb
  have H15 : Hid (∀ nm p q c wx, Calls Tryz.prog 15 #[.string nm, .slice p q c] wx fun e w' => e = .returned (NV 9 0 nm .z .z (.slice p q c)) ∧ Below wx.heap.size wx w') := ev.lcall
  have H22 : Hid (∀ wx, Calls Tryz.prog 22 #[.bool false] wx fun e w' => e = .returned (VV 3 0 nul) ∧ Below wx.heap.size wx w') := fun wx => (vv.rtru_any false wx).mono (fun e w' h => h)
  have H11 : Hid (∀ a b c wx, Calls Tryz.prog 11 #[VV a b c] wx fun e w' => e = .returned (.bool (vv.isVal a b c)) ∧ Below wx.heap.size wx w') := fun a b c wx => vv.is_any a b c wx
  have H16 : Hid (∀ wx, Below w.heap.size w wx → Calls Tryz.prog 16 #[.slice p q c, .int .i64 8] wx fun e w' => e = .returned (.bool (decide (1 ≤ q) && decide (q ≤ 8) && allV k m z q)) ∧ Below wx.heap.size wx w') := fun wx hb => values_law p q c hq k m z wx (HV.out.next hb)
  have HFact : Hid (∀ wx g, Below w.heap.size w wx → NB (N12 3 1 nul .z .z (.slice none 0 0)) wx g → Calls Tryz.prog 14 #[NV 9 0 nmNot .z .z (.slice (some ⟨g, 0, none⟩) 1 1), .slice none 0 0] wx fun e w' => e = .returned (.tuple #[VV 3 0 nul, .bool true]) ∧ Below wx.heap.size wx w') := fun wx g hb hn => works_fact wx (HE.out wx hb) g hn
  have H19 : Hid (∀ c r wx, Calls Tryz.prog 19 #[.int .i64 c, .int .i64 r] wx fun e w' => e = .returned (.agg #[.int .i64 c, .int .i64 r]) ∧ Below wx.heap.size wx w') := ev.lat
  obtain ⟨i0, hi, hz0, hz1, hz2⟩ := info_parts ev.info40
  have hg31 : Tryz.prog.eqGuardType Tryz.prog.depth 31 = false := by kernel_rfl
  go_enter Tryz.func7, Tryz.ntmps7
  go_wp2_with fail
  have HS0 : Hid (LS w ((w.heap.size + 1 + 1, (N12 3 1 nul .z .z (.slice none 0 0)), 28) :: [(w.heap.size, #[.int .i64 ak, .int .i64 an, .string az], 31), (w.heap.size + 1, #[.int .i64 bk, .int .i64 bn, .string bz], 31)]) (((w.alloc (.cells #[.int .i64 ak, .int .i64 an, .string az] 31)).alloc (.cells #[.int .i64 bk, .int .i64 bn, .string bz] 31)).alloc (.cells (N12 3 1 nul .z .z (.slice none 0 0)) 28))) := ⟨fun x hx => by
    have ha : (((w.alloc (.cells #[.int .i64 ak, .int .i64 an, .string az] 31)).alloc (.cells #[.int .i64 bk, .int .i64 bn, .string bz] 31)).alloc (.cells (N12 3 1 nul .z .z (.slice none 0 0)) 28)).heap[w.heap.size]? = some (.cells #[.int .i64 ak, .int .i64 an, .string az] 31 (0, 0)) := (Below.heap_alloc _ _ _ (by simp; omega)).trans ((Below.heap_alloc _ _ _ (by simp)).trans (heap_alloc_new _ _))
    have hb : (((w.alloc (.cells #[.int .i64 ak, .int .i64 an, .string az] 31)).alloc (.cells #[.int .i64 bk, .int .i64 bn, .string bz] 31)).alloc (.cells (N12 3 1 nul .z .z (.slice none 0 0)) 28)).heap[w.heap.size + 1]? = some (.cells #[.int .i64 bk, .int .i64 bn, .string bz] 31 (0, 0)) := (Below.heap_alloc _ _ _ (by simp)).trans (by have := heap_alloc_new (w.alloc (.cells #[.int .i64 ak, .int .i64 an, .string az] 31)) (.cells #[.int .i64 bk, .int .i64 bn, .string bz] 31); simpa using this)
    have hc : (((w.alloc (.cells #[.int .i64 ak, .int .i64 an, .string az] 31)).alloc (.cells #[.int .i64 bk, .int .i64 bn, .string bz] 31)).alloc (.cells (N12 3 1 nul .z .z (.slice none 0 0)) 28)).heap[w.heap.size + 1 + 1]? = some (.cells (N12 3 1 nul .z .z (.slice none 0 0)) 28 (0, 0)) := by have := heap_alloc_new ((w.alloc (.cells #[.int .i64 ak, .int .i64 an, .string az] 31)).alloc (.cells #[.int .i64 bk, .int .i64 bn, .string bz] 31)) (.cells (N12 3 1 nul .z .z (.slice none 0 0)) 28); simpa using this
    simp only [List.mem_cons, List.not_mem_nil, or_false] at hx
    rcases hx with rfl | rfl | rfl
    · exact hc
    · exact ha
    · exact hb, (((Below.refl _ _).alloc (Nat.le_refl _) _).alloc (by simp) _).alloc (by simp; omega) _⟩
  refine (H15.out _ _ _ _ _).mono ?_
  rintro e w1 ⟨rfl, hb1⟩
  have HS1 : Hid (LS w ((w.heap.size + 1 + 1, (N12 3 1 nul .z .z (.slice none 0 0)), 28) :: [(w.heap.size, #[.int .i64 ak, .int .i64 an, .string az], 31), (w.heap.size + 1, #[.int .i64 bk, .int .i64 bn, .string bz], 31)]) w1) := HS0.out.next hb1
  clear hb1 HS0
  go_wp2_with fail
  refine (HFact.out _ _ HS1.out.below (HS1.out.blks (w.heap.size + 1 + 1, (N12 3 1 nul .z .z (.slice none 0 0)), 28) (by simp))).mono ?_
  rintro e w2 ⟨rfl, hb2⟩
  have HS2 : Hid (LS w [(w.heap.size, #[.int .i64 ak, .int .i64 an, .string az], 31), (w.heap.size + 1, #[.int .i64 bk, .int .i64 bn, .string bz], 31)] w2) := (HS1.out.next hb2).sub (by simp)
  clear hb2 HS1 HFact
  obtain ⟨ba, hba⟩ : ∃ ba, w.heap.size = ba := ⟨_, rfl⟩
  have HBA : Hid (w.heap.size = ba) := hba
  rw [hba] at HS2
  simp only [hba]
  obtain ⟨bb, hbb⟩ : ∃ bb, ba + 1 = bb := ⟨_, rfl⟩
  rw [hbb] at HS2
  simp only [hbb]
  clear hba hbb
  have hf1 : (w2.alloc (.cells #[.int .i64 3, .int .i64 0, .string nul] 31)).heap[w2.heap.size]? = some (.cells #[.int .i64 3, .int .i64 0, .string nul] 31 (0, 0)) := heap_alloc_new _ _
  have HX : Hid (∀ wx, Below (w2.alloc (.cells #[.int .i64 3, .int .i64 0, .string nul] 31)).heap.size (w2.alloc (.cells #[.int .i64 3, .int .i64 0, .string nul] 31)).drew wx → wx.heap[w2.heap.size]? = some (.cells #[.int .i64 3, .int .i64 0, .string nul] 31 (0, 0)) ∧ LS w [(ba, #[.int .i64 ak, .int .i64 an, .string az], 31), (bb, #[.int .i64 bk, .int .i64 bn, .string bz], 31)] wx) := fun wx h => ⟨(h.block _ (by simp)).trans hf1, (show LS w [(ba, #[.int .i64 ak, .int .i64 an, .string az], 31), (bb, #[.int .i64 bk, .int .i64 bn, .string bz], 31)] (w2.alloc (.cells #[.int .i64 3, .int .i64 0, .string nul] 31)).drew from ⟨((HS2.out.alloc _ _).sub (by simp)).blks, (HS2.out.alloc _ _).below.drew⟩).next h⟩
  obtain ⟨a0, a1, a2⟩ := cells3v hf1
  clear hf1
  go_wp2_with fail
  go_cut [41] (fun s41 wx => s41 = .bool false ∧ LS w [(ba, #[.int .i64 ak, .int .i64 an, .string az], 31), (bb, #[.int .i64 bk, .int .i64 bn, .string bz], 31)] wx)
  case first =>
    go_region_with (go_at_call 22; refine (H22.out _).mono ?_; rintro e w3 ⟨rfl, hb3⟩; have hf3 := (HX.out w3 hb3).1; have hb4 := (HX.out w3 hb3).2; obtain ⟨b0, b1, b2⟩ := cells3v hf3; have hq := ev.neq31 3 0 nul w3)
    all_goals
      go_wp2_with fail
      go_meet
      case rel => exact ⟨rfl, hb4⟩
  case rest =>
  clear HX HS2 a0 a1 a2 H22
  obtain ⟨rfl, hsc⟩ := hcut
  have HS3 : Hid (LS w [(ba, #[.int .i64 ak, .int .i64 an, .string az], 31), (bb, #[.int .i64 bk, .int .i64 bn, .string bz], 31)] wc) := hsc
  clear hsc
  go_wp2_with fail
  refine (H16.out _ HS3.out.below).mono ?_
  rintro e w3 ⟨rfl, hb3⟩
  have HS4 : Hid (LS w [(ba, #[.int .i64 ak, .int .i64 an, .string az], 31), (bb, #[.int .i64 bk, .int .i64 bn, .string bz], 31)] w3) := HS3.out.next hb3
  clear hb3 HS3 H16
  obtain ⟨a0, a1, a2⟩ := cells3v (HS4.out.blks (ba, #[.int .i64 ak, .int .i64 an, .string az], 31) (by simp))
  obtain ⟨A, hA⟩ : ∃ A, (decide (1 ≤ q) && decide (q ≤ 8) && allV k m z q) = A := ⟨_, rfl⟩
  have HA : Hid ((decide (1 ≤ q) && decide (q ≤ 8) && allV k m z q) = A) := hA
  rw [hA]
  clear hA
  go_wp2_with fail
  obtain ⟨X, hX⟩ : ∃ X, vv.isVal ak an az = X := ⟨_, rfl⟩
  have HXV : Hid (vv.isVal ak an az = X) := hX
  have HW := H11.out ak an az w3
  rw [hX] at HW
  refine HW.mono ?_
  rintro e w4 ⟨rfl, hb4⟩
  have HS5 : Hid (LS w [(ba, #[.int .i64 ak, .int .i64 an, .string az], 31), (bb, #[.int .i64 bk, .int .i64 bn, .string bz], 31)] w4) := HS4.out.next hb4
  clear hb4 HS4 a0 a1 a2 hX HW
  obtain ⟨b0, b1, b2⟩ := cells3v (HS5.out.blks (bb, #[.int .i64 bk, .int .i64 bn, .string bz], 31) (by simp))
  go_wp2_with fail
  obtain ⟨Y, hY⟩ : ∃ Y, vv.isVal bk bn bz = Y := ⟨_, rfl⟩
  have HYV : Hid (vv.isVal bk bn bz = Y) := hY
  have HW := H11.out bk bn bz w4
  rw [hY] at HW
  refine HW.mono ?_
  rintro e w5 ⟨rfl, hb5⟩
  have HS6 : Hid (LS w [(ba, #[.int .i64 ak, .int .i64 an, .string az], 31), (bb, #[.int .i64 bk, .int .i64 bn, .string bz], 31)] w5) := HS5.out.next hb5
  clear hb5 HS5 b0 b1 b2 hY HW H11
  cases A with
  | false =>
    go_wp2_with fail
    go_ret
    exact ⟨rfl, HBA.out ▸ HS6.out.below⟩
  | true =>
  cases X with
  | false =>
    go_wp2_with fail
    go_ret
    exact ⟨rfl, HBA.out ▸ HS6.out.below⟩
  | true =>
  cases Y with
  | false =>
    go_wp2_with fail
    go_ret
    exact ⟨rfl, HBA.out ▸ HS6.out.below⟩
  | true =>
  have HL : Hid (Lw k m z q ⟨ak, an, az⟩ ⟨bk, bn, bz⟩) := by
    have h := HA.out
    rw [Bool.and_eq_true, Bool.and_eq_true] at h
    exact ⟨of_decide_eq_true h.1.1, of_decide_eq_true h.1.2, ev.allV_at h.2, HXV.out, HYV.out⟩
  have hq8 : q ≤ 8 := HL.out.hi
  clear HA HXV HYV
  go_wp2_with fail
  refine (column_law p q c (by omega) k m z w5 (HV.out.next HS6.out.below)).mono ?_
  rintro e w6 ⟨⟨vl, rfl, hown⟩, hb6⟩
  have sof : ∀ wx, Below w5.heap.size w5 wx → CB w5 ba bb ak an az bk bn bz wx := fun wx hb => by
    obtain ⟨q0, q1, q2⟩ := cells3v ((HS6.out.next hb).blks (ba, #[.int .i64 ak, .int .i64 an, .string az], 31) (by simp))
    obtain ⟨q3, q4, q5⟩ := cells3v ((HS6.out.next hb).blks (bb, #[.int .i64 bk, .int .i64 bn, .string bz], 31) (by simp))
    exact ⟨q0, q1, q2, q3, q4, q5, hb⟩
  have h0d := sof _ hb6.drew
  obtain ⟨y0, y1, y2, y3, y4, y5, -⟩ := sof _ hb6
  have hod : w6.drew.ownsRow w5.heap.size 40 7 vl q (colL k m z q) := hown
  have hsz0 := hb6.size
  clear hown hb6
  go_upto_region 10 with fail
  go_cut [12] (fun s12 wx => ∃ g2 cap2, s12 = .slice (some ⟨g2, 0, none⟩) (q + 2) cap2 ∧ LS w [(ba, #[.int .i64 ak, .int .i64 an, .string az], 31), (bb, #[.int .i64 bk, .int .i64 bn, .string bz], 31)] wx ∧ ShL wx (some ⟨g2, 0, none⟩) (shG k m z q ⟨ak, an, az⟩ ⟨bk, bn, bz⟩))
  case first =>
    go_region_held_law (fun wx => CB w5 ba bb ak an az bk bn bz wx) (first | exact h0d | exact sof _ (bnext (cbb (by assumption)) (by assumption) (cbb (by assumption)).size) | exact sof _ (Below.alloc (cbb (by assumption)) (cbb (by assumption)).size _) | exact sof _ (by assumption)) (first | (go_at_call 19; refine (H19.out _ _ _).mono ?_; (first | (rintro e wB ⟨rfl, hbB⟩; have hownB := own40 hownA hbB; have hBB : Below w5.heap.size w5 wB := bnext hBA hbB hBA.size) | (rintro e wA ⟨rfl, hbA⟩; have hownA := own40 hod hbA; have hBA : Below w5.heap.size w5 wA := bnext (cbb h0d) hbA (cbb h0d).size))) | (refine step_append_lies _ rfl _ _ 29 rfl w5.heap.size 40 i0 (.agg Z7) 7 64 Tryz.underlying29 hi hz0 hz1 hz2 rfl (by decide) vl q (colL k m z q) rfl (hownB.alloc _) ⟨wB.heap.size, 0, none⟩ 2 2 [.int .i64 2, .int .i64 1, .int .i64 ak, .int .i64 an, .string az, .int .i64 0, .int .i64 0, .int .i64 3, .int .i64 1, .int .i64 bk, .int .i64 bn, .string bz, .int .i64 0, .int .i64 0] rfl rfl (World.news_of_block (heap_alloc_new wB _)) (by simp [Value.oneCell']) (by decide) (by unfold maxLen; omega) (by omega) (by have := hBB.size; simp; omega) _ rfl ?_; intro g2 cap2 w7 hown7 hgrow hat hlt7; have hb7 : Below w5.heap.size w5 w7 := (hBB.alloc hBB.size _).grown hgrow (by have := hBB.size; simp; omega) (fun q hq => (hownB.lt q hq).1)))
    all_goals
      simp only [List.getElem_toArray, List.getElem_cons_succ, List.getElem_cons_zero]
      go_wp2_with fail
      go_meet
      case rel => exact ⟨_, _, rfl, HS6.out.next hb7, row_blkG hown7⟩
  case rest =>
  clear sof h0d y0 y1 y2 y3 y4 y5 hod hsz0
  obtain ⟨g2, cap2, rfl, hsc, hsl⟩ := hcut
  apply_assumption
  exact tail11 _ w p _ q c cap2 k m z ak an bk bn az bz HL.out _ (by first | exact hsc.below | exact HBA.out ▸ hsc.below) (by first | exact hsc.below.size | exact HBA.out ▸ hsc.below.size) (HE.out _ hsc.below) (HV.out.next hsc.below) ba bb (hsc.blks (ba, #[.int .i64 ak, .int .i64 an, .string az], 31) (by simp)) (hsc.blks (bb, #[.int .i64 bk, .int .i64 bn, .string bz], 31) (by simp)) hsl _ _ _ _ _ _ _ _ _ _ _ _ _ _ _ _ _ _ _ _ _ _ _ _ _ _ _ _ _ _ _ _ _ _ _ _ _ _ _ _ _ _ _ _ _ _ _ _ _ _ _ _ _ _ _ _ _ _ _ _ _ _ _ _ _ _ _ _ _ _ _ _ _ _ _ _ _ _ _ _ _ _ _ _ _ _ _ _ _ _ _ _ _ _ _ _ _ _ _ _ _ _ _ _ _ _ _ _ _ _ _ _ _ _ _ _ _ _ _ _ _ _ _ _ _ _ _ _ _ _ _ _ _ _ _ _ _ _ _ _ _ _ _ _ _ _ _ _ _ _ _ _ _ _ _ _ _ _ _ _ _ _ _ _ _ _ _ _ _ _ _ _ _ _ _ _ _ _ _ _ _ _ _ _ _ _ _ _ _ _ _ _
end Go.Proofs.YtoaejcppfmjhdaaGreatDoor.ov
