/- The law EvalFinds, walked: its formulas. Conditions: what lies in its blocks. -/
import Derived.Test.YtoebppmagkijjaaGreatDoorLt
namespace Go.Proofs.YtoebppmagkijjaaGreatDoor.ev
open Go.RowKit
noncomputable def tail10C : Code := ((Tryz.f6.body.bind (findTail 10)).getD .skip)
set_option maxRecDepth 1000000 in
set_option maxHeartbeats 16000000 in
theorem tail10 (p : Option Addr) (q c : Nat) (k m : Nat → Int) (z : Nat → ByteArray) (k' n' : Int) (s' : ByteArray) (hq1 : 1 ≤ q) (hq90 : q ≤ 90) (h4 : k' ≠ 4) (HVs : Hid (∀ i, i < q → vv.isVal (k i) (m i) (z i) = true)) (HW : Hid (vv.isVal k' n' s' = true)) (w : World) (HV : Hid (VM w p q k m z))
    (b0 g2 cap2 : Nat) (CUR : Array Value) (mk mm uk um : Int) (uz : ByteArray) (C : Nat) (HC : Hid (C = cntB (fun i => eqT (k i) (m i) (z i) k' n' s') q)) (HCase : Hid ((C = 0 ∧ mk = 4 ∧ mm = 6 ∧ uk = 4 ∧ um = 6 ∧ uz = nul) ∨ (∃ j, j < q ∧ fI (fun i => eqT (k i) (m i) (z i) k' n' s') q = (j : Int) + 1 ∧ 0 < C ∧ mk = 1 ∧ mm = (j : Int) + 1 ∧ uk = k j ∧ um = m j ∧ uz = z j)))
    (HM : Hid (∀ wx g, Below w.heap.size w wx → wx.heap[g]? = some (.cells #[.int .i64 5, .int .i64 0, .string nul, .int .i64 2, .int .i64 1, .bool false, .bool false, .int .i64 0, .int .i64 0, .bool false, .bool false, .slice none 0 0, .int .i64 6, .int .i64 0, .string nul, .int .i64 1, .int .i64 1, .bool false, .bool false, .int .i64 1, .int .i64 (q : Int), .bool false, .bool false, .slice none 0 0] 28 (0, 0)) → wx.heap[g2]? = some (.cells CUR 40 (0, 0)) → Calls Tryz.prog 14 #[fm.NV 9 0 ⟨#[77, 65, 84, 67, 72]⟩ .z .z (.slice (some ⟨g, 0, none⟩) 2 2), .slice (some ⟨g2, 0, none⟩) (q + 1) cap2] wx fun e w' => e = .returned (.tuple #[VV mk mm nul, .bool true]) ∧ Below wx.heap.size wx w'))
    (HCt : Hid (∀ wx g, Below w.heap.size w wx → wx.heap[g]? = some (.cells #[.int .i64 6, .int .i64 0, .string nul, .int .i64 1, .int .i64 1, .bool false, .bool false, .int .i64 1, .int .i64 (q : Int), .bool false, .bool false, .slice none 0 0, .int .i64 5, .int .i64 0, .string nul, .int .i64 2, .int .i64 1, .bool false, .bool false, .int .i64 0, .int .i64 0, .bool false, .bool false, .slice none 0 0] 28 (0, 0)) → wx.heap[g2]? = some (.cells CUR 40 (0, 0)) → Calls Tryz.prog 14 #[fm.NV 9 0 ⟨#[67, 79, 85, 78, 84, 73, 70]⟩ .z .z (.slice (some ⟨g, 0, none⟩) 2 2), .slice (some ⟨g2, 0, none⟩) (q + 1) cap2] wx fun e w' => e = .returned (.tuple #[VV 1 (C : Int) nul, .bool true]) ∧ Below wx.heap.size wx w'))
    (HLk : Hid (∀ wx g, Below w.heap.size w wx → wx.heap[g]? = some (.cells #[.int .i64 5, .int .i64 0, .string nul, .int .i64 2, .int .i64 1, .bool false, .bool false, .int .i64 0, .int .i64 0, .bool false, .bool false, .slice none 0 0, .int .i64 6, .int .i64 0, .string nul, .int .i64 1, .int .i64 1, .bool false, .bool false, .int .i64 1, .int .i64 (q : Int), .bool false, .bool false, .slice none 0 0, .int .i64 1, .int .i64 1, .string nul, .int .i64 0, .int .i64 0, .bool false, .bool false, .int .i64 0, .int .i64 0, .bool false, .bool false, .slice none 0 0] 28 (0, 0)) → wx.heap[g2]? = some (.cells CUR 40 (0, 0)) → Calls Tryz.prog 14 #[fm.NV 9 0 ⟨#[76, 79, 79, 75, 85, 80]⟩ .z .z (.slice (some ⟨g, 0, none⟩) 3 3), .slice (some ⟨g2, 0, none⟩) (q + 1) cap2] wx fun e w' => e = .returned (.tuple #[VV uk um uz, .bool true]) ∧ Below wx.heap.size wx w'))
    (HIdx : Hid (∀ j, j < q → ∀ wx g, Below w.heap.size w wx → wx.heap[g]? = some (.cells #[.int .i64 6, .int .i64 0, .string nul, .int .i64 1, .int .i64 1, .bool false, .bool false, .int .i64 1, .int .i64 (q : Int), .bool false, .bool false, .slice none 0 0, .int .i64 1, .int .i64 ((j : Int) + 1), .string nul, .int .i64 0, .int .i64 0, .bool false, .bool false, .int .i64 0, .int .i64 0, .bool false, .bool false, .slice none 0 0, .int .i64 1, .int .i64 1, .string nul, .int .i64 0, .int .i64 0, .bool false, .bool false, .int .i64 0, .int .i64 0, .bool false, .bool false, .slice none 0 0] 28 (0, 0)) → wx.heap[g2]? = some (.cells CUR 40 (0, 0)) → Calls Tryz.prog 14 #[fm.NV 9 0 ⟨#[73, 78, 68, 69, 88]⟩ .z .z (.slice (some ⟨g, 0, none⟩) 3 3), .slice (some ⟨g2, 0, none⟩) (q + 1) cap2] wx fun e w' => e = .returned (.tuple #[VV (k j) (m j) (z j), .bool true]) ∧ Below wx.heap.size wx w'))
    (wb : World) (hS : LS w [(b0, #[.int .i64 k', .int .i64 n', .string s'], 31), (g2, CUR, 40)] wb)
    (l2 l4 l5 l6 l7 l8 l10 l11 l12 l13 l14 l15 l16 l17 l18 l19 l20 l21 l22 l23 l24 l25 l26 l27 l28 l29 l30 l31 l32 l33 l34 l35 l36 l37 l38 l39 l40 l41 l42 l43 l44 l45 l46 l47 l48 l49 l50 l51 l52 l53 l54 l55 l56 l57 l58 l59 l60 l61 l62 l63 l64 l65 l66 l67 l68 l69 l70 l71 l72 l73 l74 l75 l76 l77 l78 l79 l80 l81 l82 l83 l84 l85 l86 l87 l88 l89 l90 l91 l92 l93 l94 l95 l96 l97 l98 l99 l100 l101 l102 l103 l104 l105 l106 l107 l108 l109 l110 l111 l112 l113 l114 l115 l116 l117 l118 l119 l120 l121 l122 l123 l124 l125 l126 l127 l128 l129 l130 l131 l132 l133 l134 l135 l136 l137 l138 l139 l140 l141 l142 l143 l144 l145 l146 l147 l148 l149 l150 l151 l152 l153 l154 l155 l156 l157 l158 l159 l160 l161 l162 l163 l164 l165 l166 l167 l168 l169 l170 l171 : Value) :
    Code.wp Tryz.prog tail10C (bodyPost Tryz.prog Tryz.f6 fun e w' => e = .returned (.bool true) ∧ Below w.heap.size w w') ⟨#[.slice p q c, VV k' n' s', l2, .pointer (some ⟨b0, 0, none⟩), l4, l5, l6, l7, l8, .slice (some ⟨g2, 0, none⟩) (q + 1) cap2, l10, l11, l12, l13, l14, l15, l16, l17, l18, l19, l20, l21, l22, l23, l24, l25, l26, l27, l28, l29, l30, l31, l32, l33, l34, l35, l36, l37, l38, l39, l40, l41, l42, l43, l44, l45, l46, l47, l48, l49, l50, l51, l52, l53, l54, l55, l56, l57, l58, l59, l60, l61, l62, l63, l64, l65, l66, l67, l68, l69, l70, l71, l72, l73, l74, l75, l76, l77, l78, l79, l80, l81, l82, l83, l84, l85, l86, l87, l88, l89, l90, l91, l92, l93, l94, l95, l96, l97, l98, l99, l100, l101, l102, l103, l104, l105, l106, l107, l108, l109, l110, l111, l112, l113, l114, l115, l116, l117, l118, l119, l120, l121, l122, l123, l124, l125, l126, l127, l128, l129, l130, l131, l132, l133, l134, l135, l136, l137, l138, l139, l140, l141, l142, l143, l144, l145, l146, l147, l148, l149, l150, l151, l152, l153, l154, l155, l156, l157, l158, l159, l160, l161, l162, l163, l164, l165, l166, l167, l168, l169, l170, l171], []⟩ wb := by
  dsimp only
  conv => arg 2; whnf
  have H19 : Hid (∀ c r wx, Calls Tryz.prog 19 #[.int .i64 c, .int .i64 r] wx fun e w' => e = .returned (.agg #[.int .i64 c, .int .i64 r]) ∧ Below wx.heap.size wx w') := lat
  have H18 : Hid (∀ a b c d wx, Calls Tryz.prog 18 #[.agg #[.int .i64 a, .int .i64 b], .agg #[.int .i64 c, .int .i64 d]] wx fun e w' => e = .returned (fm.NV 6 0 nul ⟨a, b, false, false⟩ ⟨c, d, false, false⟩ (.slice none 0 0)) ∧ Below wx.heap.size wx w') := lbox
  have H15 : Hid (∀ nm p q c wx, Calls Tryz.prog 15 #[.string nm, .slice p q c] wx fun e w' => e = .returned (fm.NV 9 0 nm .z .z (.slice p q c)) ∧ Below wx.heap.size wx w') := lcall
  have HS0 : Hid (LS w [(b0, #[.int .i64 k', .int .i64 n', .string s'], 31), (g2, CUR, 40)] wb) := hS
  clear hS
  go_wp2_with fail
  refine (H19.out _ _ _).mono ?_
  rintro e v1 ⟨rfl, hb⟩
  have HS1 : Hid (LS w [(b0, #[.int .i64 k', .int .i64 n', .string s'], 31), (g2, CUR, 40)] v1) := HS0.out.next hb
  clear hb HS0
  go_wp2_with fail
  refine (H19.out _ _ _).mono ?_
  rintro e v2 ⟨rfl, hb⟩
  have HS2 : Hid (LS w [(b0, #[.int .i64 k', .int .i64 n', .string s'], 31), (g2, CUR, 40)] v2) := HS1.out.next hb
  clear hb HS1
  go_wp2_with fail
  refine (H18.out _ _ _ _ _).mono ?_
  rintro e v3 ⟨rfl, hb⟩
  have HS3 : Hid (LS w [(b0, #[.int .i64 k', .int .i64 n', .string s'], 31), (g2, CUR, 40)] v3) := HS2.out.next hb
  clear hb HS2
  go_wp2_with fail

  have HA0 : Hid (LS w [(v3.heap.size, #[.int .i64 6, .int .i64 0, .string nul, .int .i64 1, .int .i64 1, .bool false, .bool false, .int .i64 1, .int .i64 (q : Int), .bool false, .bool false, .slice none 0 0], 28), (b0, #[.int .i64 k', .int .i64 n', .string s'], 31), (g2, CUR, 40)] (v3.alloc (.cells #[.int .i64 6, .int .i64 0, .string nul, .int .i64 1, .int .i64 1, .bool false, .bool false, .int .i64 1, .int .i64 (q : Int), .bool false, .bool false, .slice none 0 0] 28))) := HS3.out.alloc _ _
  clear HS3
  refine (H19.out _ _ _).mono ?_
  rintro e v4 ⟨rfl, hb⟩
  have HA1 : Hid (LS w [(v3.heap.size, #[.int .i64 6, .int .i64 0, .string nul, .int .i64 1, .int .i64 1, .bool false, .bool false, .int .i64 1, .int .i64 (q : Int), .bool false, .bool false, .slice none 0 0], 28), (b0, #[.int .i64 k', .int .i64 n', .string s'], 31), (g2, CUR, 40)] v4) := HA0.out.next hb
  clear hb HA0

  have HA2 : Hid (LS w [(v4.heap.size, #[.int .i64 5, .int .i64 0, .string nul, .int .i64 2, .int .i64 1, .bool false, .bool false, .int .i64 0, .int .i64 0, .bool false, .bool false, .slice none 0 0], 28), (v3.heap.size, #[.int .i64 6, .int .i64 0, .string nul, .int .i64 1, .int .i64 1, .bool false, .bool false, .int .i64 1, .int .i64 (q : Int), .bool false, .bool false, .slice none 0 0], 28), (b0, #[.int .i64 k', .int .i64 n', .string s'], 31), (g2, CUR, 40)] (v4.alloc (.cells #[.int .i64 5, .int .i64 0, .string nul, .int .i64 2, .int .i64 1, .bool false, .bool false, .int .i64 0, .int .i64 0, .bool false, .bool false, .slice none 0 0] 28))) := HA1.out.alloc _ _
  clear HA1

  obtain ⟨⟨x0, x1, x2, x3, x4, x5, x6, x7, x8, x9, x10, x11⟩, -⟩ := fm.cells12 (HA2.out.blks (v4.heap.size, #[.int .i64 5, .int .i64 0, .string nul, .int .i64 2, .int .i64 1, .bool false, .bool false, .int .i64 0, .int .i64 0, .bool false, .bool false, .slice none 0 0], 28) (by simp))

  obtain ⟨⟨b0, b1, b2, b3, b4, b5, b6, b7, b8, b9, b10, b11⟩, -⟩ := fm.cells12 (HA2.out.blks (v3.heap.size, #[.int .i64 6, .int .i64 0, .string nul, .int .i64 1, .int .i64 1, .bool false, .bool false, .int .i64 1, .int .i64 (q : Int), .bool false, .bool false, .slice none 0 0], 28) (by simp))

  go_wp2_with fail

  clear x0 x1 x2 x3 x4 x5 x6 x7 x8 x9 x10 x11

  clear b0 b1 b2 b3 b4 b5 b6 b7 b8 b9 b10 b11

  have HB0 : Hid (LS w [(v4.heap.size + 1, #[.int .i64 5, .int .i64 0, .string nul, .int .i64 2, .int .i64 1, .bool false, .bool false, .int .i64 0, .int .i64 0, .bool false, .bool false, .slice none 0 0, .int .i64 6, .int .i64 0, .string nul, .int .i64 1, .int .i64 1, .bool false, .bool false, .int .i64 1, .int .i64 (q : Int), .bool false, .bool false, .slice none 0 0], 28), (v4.heap.size, #[.int .i64 5, .int .i64 0, .string nul, .int .i64 2, .int .i64 1, .bool false, .bool false, .int .i64 0, .int .i64 0, .bool false, .bool false, .slice none 0 0], 28), (v3.heap.size, #[.int .i64 6, .int .i64 0, .string nul, .int .i64 1, .int .i64 1, .bool false, .bool false, .int .i64 1, .int .i64 (q : Int), .bool false, .bool false, .slice none 0 0], 28), (b0, #[.int .i64 k', .int .i64 n', .string s'], 31), (g2, CUR, 40)] ((v4.alloc (.cells #[.int .i64 5, .int .i64 0, .string nul, .int .i64 2, .int .i64 1, .bool false, .bool false, .int .i64 0, .int .i64 0, .bool false, .bool false, .slice none 0 0] 28)).alloc (.cells #[.int .i64 5, .int .i64 0, .string nul, .int .i64 2, .int .i64 1, .bool false, .bool false, .int .i64 0, .int .i64 0, .bool false, .bool false, .slice none 0 0, .int .i64 6, .int .i64 0, .string nul, .int .i64 1, .int .i64 1, .bool false, .bool false, .int .i64 1, .int .i64 (q : Int), .bool false, .bool false, .slice none 0 0] 28))) := HA2.out.allocAt _ _ (by simp)
  clear HA2

  refine (H15.out _ _ _ _ _).mono ?_
  rintro e x0 ⟨rfl, hb⟩
  have HC0 : Hid (LS w [(v4.heap.size + 1, #[.int .i64 5, .int .i64 0, .string nul, .int .i64 2, .int .i64 1, .bool false, .bool false, .int .i64 0, .int .i64 0, .bool false, .bool false, .slice none 0 0, .int .i64 6, .int .i64 0, .string nul, .int .i64 1, .int .i64 1, .bool false, .bool false, .int .i64 1, .int .i64 (q : Int), .bool false, .bool false, .slice none 0 0], 28), (v4.heap.size, #[.int .i64 5, .int .i64 0, .string nul, .int .i64 2, .int .i64 1, .bool false, .bool false, .int .i64 0, .int .i64 0, .bool false, .bool false, .slice none 0 0], 28), (v3.heap.size, #[.int .i64 6, .int .i64 0, .string nul, .int .i64 1, .int .i64 1, .bool false, .bool false, .int .i64 1, .int .i64 (q : Int), .bool false, .bool false, .slice none 0 0], 28), (b0, #[.int .i64 k', .int .i64 n', .string s'], 31), (g2, CUR, 40)] x0) := HB0.out.next hb
  clear hb HB0
  go_wp2_with fail

  refine (HM.out _ _ HC0.out.below (HC0.out.blks (v4.heap.size + 1, #[.int .i64 5, .int .i64 0, .string nul, .int .i64 2, .int .i64 1, .bool false, .bool false, .int .i64 0, .int .i64 0, .bool false, .bool false, .slice none 0 0, .int .i64 6, .int .i64 0, .string nul, .int .i64 1, .int .i64 1, .bool false, .bool false, .int .i64 1, .int .i64 (q : Int), .bool false, .bool false, .slice none 0 0], 28) (by simp)) (HC0.out.blks (g2, CUR, 40) (by simp))).mono ?_
  rintro e y0 ⟨rfl, hb⟩
  have HD0 : Hid (LS w [(v4.heap.size, #[.int .i64 5, .int .i64 0, .string nul, .int .i64 2, .int .i64 1, .bool false, .bool false, .int .i64 0, .int .i64 0, .bool false, .bool false, .slice none 0 0], 28), (v3.heap.size, #[.int .i64 6, .int .i64 0, .string nul, .int .i64 1, .int .i64 1, .bool false, .bool false, .int .i64 1, .int .i64 (q : Int), .bool false, .bool false, .slice none 0 0], 28), (b0, #[.int .i64 k', .int .i64 n', .string s'], 31), (g2, CUR, 40)] y0) := (HC0.out.next hb).sub (by simp)
  clear hb HC0

  have HE0 : Hid (LS w [(y0.heap.size, #[.int .i64 mk, .int .i64 mm, .string nul], 31), (v4.heap.size, #[.int .i64 5, .int .i64 0, .string nul, .int .i64 2, .int .i64 1, .bool false, .bool false, .int .i64 0, .int .i64 0, .bool false, .bool false, .slice none 0 0], 28), (v3.heap.size, #[.int .i64 6, .int .i64 0, .string nul, .int .i64 1, .int .i64 1, .bool false, .bool false, .int .i64 1, .int .i64 (q : Int), .bool false, .bool false, .slice none 0 0], 28), (b0, #[.int .i64 k', .int .i64 n', .string s'], 31), (g2, CUR, 40)] (y0.alloc (.cells #[.int .i64 mk, .int .i64 mm, .string nul] 31))) := HD0.out.alloc _ _
  clear HD0

  obtain ⟨⟨x0, x1, x2, x3, x4, x5, x6, x7, x8, x9, x10, x11⟩, -⟩ := fm.cells12 (HE0.out.blks (v4.heap.size, #[.int .i64 5, .int .i64 0, .string nul, .int .i64 2, .int .i64 1, .bool false, .bool false, .int .i64 0, .int .i64 0, .bool false, .bool false, .slice none 0 0], 28) (by simp))

  obtain ⟨⟨b0, b1, b2, b3, b4, b5, b6, b7, b8, b9, b10, b11⟩, -⟩ := fm.cells12 (HE0.out.blks (v3.heap.size, #[.int .i64 6, .int .i64 0, .string nul, .int .i64 1, .int .i64 1, .bool false, .bool false, .int .i64 1, .int .i64 (q : Int), .bool false, .bool false, .slice none 0 0], 28) (by simp))

  go_wp2_with fail

  clear x0 x1 x2 x3 x4 x5 x6 x7 x8 x9 x10 x11

  clear b0 b1 b2 b3 b4 b5 b6 b7 b8 b9 b10 b11

  have HB1 : Hid (LS w [(y0.heap.size + 1, #[.int .i64 6, .int .i64 0, .string nul, .int .i64 1, .int .i64 1, .bool false, .bool false, .int .i64 1, .int .i64 (q : Int), .bool false, .bool false, .slice none 0 0, .int .i64 5, .int .i64 0, .string nul, .int .i64 2, .int .i64 1, .bool false, .bool false, .int .i64 0, .int .i64 0, .bool false, .bool false, .slice none 0 0], 28), (y0.heap.size, #[.int .i64 mk, .int .i64 mm, .string nul], 31), (v4.heap.size, #[.int .i64 5, .int .i64 0, .string nul, .int .i64 2, .int .i64 1, .bool false, .bool false, .int .i64 0, .int .i64 0, .bool false, .bool false, .slice none 0 0], 28), (v3.heap.size, #[.int .i64 6, .int .i64 0, .string nul, .int .i64 1, .int .i64 1, .bool false, .bool false, .int .i64 1, .int .i64 (q : Int), .bool false, .bool false, .slice none 0 0], 28), (b0, #[.int .i64 k', .int .i64 n', .string s'], 31), (g2, CUR, 40)] ((y0.alloc (.cells #[.int .i64 mk, .int .i64 mm, .string nul] 31)).alloc (.cells #[.int .i64 6, .int .i64 0, .string nul, .int .i64 1, .int .i64 1, .bool false, .bool false, .int .i64 1, .int .i64 (q : Int), .bool false, .bool false, .slice none 0 0, .int .i64 5, .int .i64 0, .string nul, .int .i64 2, .int .i64 1, .bool false, .bool false, .int .i64 0, .int .i64 0, .bool false, .bool false, .slice none 0 0] 28))) := HE0.out.allocAt _ _ (by simp)
  clear HE0

  refine (H15.out _ _ _ _ _).mono ?_
  rintro e x1 ⟨rfl, hb⟩
  have HC1 : Hid (LS w [(y0.heap.size + 1, #[.int .i64 6, .int .i64 0, .string nul, .int .i64 1, .int .i64 1, .bool false, .bool false, .int .i64 1, .int .i64 (q : Int), .bool false, .bool false, .slice none 0 0, .int .i64 5, .int .i64 0, .string nul, .int .i64 2, .int .i64 1, .bool false, .bool false, .int .i64 0, .int .i64 0, .bool false, .bool false, .slice none 0 0], 28), (y0.heap.size, #[.int .i64 mk, .int .i64 mm, .string nul], 31), (v4.heap.size, #[.int .i64 5, .int .i64 0, .string nul, .int .i64 2, .int .i64 1, .bool false, .bool false, .int .i64 0, .int .i64 0, .bool false, .bool false, .slice none 0 0], 28), (v3.heap.size, #[.int .i64 6, .int .i64 0, .string nul, .int .i64 1, .int .i64 1, .bool false, .bool false, .int .i64 1, .int .i64 (q : Int), .bool false, .bool false, .slice none 0 0], 28), (b0, #[.int .i64 k', .int .i64 n', .string s'], 31), (g2, CUR, 40)] x1) := HB1.out.next hb
  clear hb HB1
  go_wp2_with fail

  refine (HCt.out _ _ HC1.out.below (HC1.out.blks (y0.heap.size + 1, #[.int .i64 6, .int .i64 0, .string nul, .int .i64 1, .int .i64 1, .bool false, .bool false, .int .i64 1, .int .i64 (q : Int), .bool false, .bool false, .slice none 0 0, .int .i64 5, .int .i64 0, .string nul, .int .i64 2, .int .i64 1, .bool false, .bool false, .int .i64 0, .int .i64 0, .bool false, .bool false, .slice none 0 0], 28) (by simp)) (HC1.out.blks (g2, CUR, 40) (by simp))).mono ?_
  rintro e y1 ⟨rfl, hb⟩
  have HD1 : Hid (LS w [(y0.heap.size, #[.int .i64 mk, .int .i64 mm, .string nul], 31), (v4.heap.size, #[.int .i64 5, .int .i64 0, .string nul, .int .i64 2, .int .i64 1, .bool false, .bool false, .int .i64 0, .int .i64 0, .bool false, .bool false, .slice none 0 0], 28), (v3.heap.size, #[.int .i64 6, .int .i64 0, .string nul, .int .i64 1, .int .i64 1, .bool false, .bool false, .int .i64 1, .int .i64 (q : Int), .bool false, .bool false, .slice none 0 0], 28), (b0, #[.int .i64 k', .int .i64 n', .string s'], 31), (g2, CUR, 40)] y1) := (HC1.out.next hb).sub (by simp)
  clear hb HC1

  have HE1 : Hid (LS w [(y1.heap.size, #[.int .i64 1, .int .i64 (C : Int), .string nul], 31), (y0.heap.size, #[.int .i64 mk, .int .i64 mm, .string nul], 31), (v4.heap.size, #[.int .i64 5, .int .i64 0, .string nul, .int .i64 2, .int .i64 1, .bool false, .bool false, .int .i64 0, .int .i64 0, .bool false, .bool false, .slice none 0 0], 28), (v3.heap.size, #[.int .i64 6, .int .i64 0, .string nul, .int .i64 1, .int .i64 1, .bool false, .bool false, .int .i64 1, .int .i64 (q : Int), .bool false, .bool false, .slice none 0 0], 28), (b0, #[.int .i64 k', .int .i64 n', .string s'], 31), (g2, CUR, 40)] (y1.alloc (.cells #[.int .i64 1, .int .i64 (C : Int), .string nul] 31))) := HD1.out.alloc _ _
  clear HD1

  obtain ⟨⟨x0, x1, x2, x3, x4, x5, x6, x7, x8, x9, x10, x11⟩, -⟩ := fm.cells12 (HE1.out.blks (v4.heap.size, #[.int .i64 5, .int .i64 0, .string nul, .int .i64 2, .int .i64 1, .bool false, .bool false, .int .i64 0, .int .i64 0, .bool false, .bool false, .slice none 0 0], 28) (by simp))

  obtain ⟨⟨b0, b1, b2, b3, b4, b5, b6, b7, b8, b9, b10, b11⟩, -⟩ := fm.cells12 (HE1.out.blks (v3.heap.size, #[.int .i64 6, .int .i64 0, .string nul, .int .i64 1, .int .i64 1, .bool false, .bool false, .int .i64 1, .int .i64 (q : Int), .bool false, .bool false, .slice none 0 0], 28) (by simp))

  go_wp2_with fail

  clear x0 x1 x2 x3 x4 x5 x6 x7 x8 x9 x10 x11

  clear b0 b1 b2 b3 b4 b5 b6 b7 b8 b9 b10 b11

  have HB2 : Hid (LS w [(y1.heap.size + 1, #[.int .i64 5, .int .i64 0, .string nul, .int .i64 2, .int .i64 1, .bool false, .bool false, .int .i64 0, .int .i64 0, .bool false, .bool false, .slice none 0 0, .int .i64 6, .int .i64 0, .string nul, .int .i64 1, .int .i64 1, .bool false, .bool false, .int .i64 1, .int .i64 (q : Int), .bool false, .bool false, .slice none 0 0, .int .i64 1, .int .i64 1, .string nul, .int .i64 0, .int .i64 0, .bool false, .bool false, .int .i64 0, .int .i64 0, .bool false, .bool false, .slice none 0 0], 28), (y1.heap.size, #[.int .i64 1, .int .i64 (C : Int), .string nul], 31), (y0.heap.size, #[.int .i64 mk, .int .i64 mm, .string nul], 31), (v4.heap.size, #[.int .i64 5, .int .i64 0, .string nul, .int .i64 2, .int .i64 1, .bool false, .bool false, .int .i64 0, .int .i64 0, .bool false, .bool false, .slice none 0 0], 28), (v3.heap.size, #[.int .i64 6, .int .i64 0, .string nul, .int .i64 1, .int .i64 1, .bool false, .bool false, .int .i64 1, .int .i64 (q : Int), .bool false, .bool false, .slice none 0 0], 28), (b0, #[.int .i64 k', .int .i64 n', .string s'], 31), (g2, CUR, 40)] ((y1.alloc (.cells #[.int .i64 1, .int .i64 (C : Int), .string nul] 31)).alloc (.cells #[.int .i64 5, .int .i64 0, .string nul, .int .i64 2, .int .i64 1, .bool false, .bool false, .int .i64 0, .int .i64 0, .bool false, .bool false, .slice none 0 0, .int .i64 6, .int .i64 0, .string nul, .int .i64 1, .int .i64 1, .bool false, .bool false, .int .i64 1, .int .i64 (q : Int), .bool false, .bool false, .slice none 0 0, .int .i64 1, .int .i64 1, .string nul, .int .i64 0, .int .i64 0, .bool false, .bool false, .int .i64 0, .int .i64 0, .bool false, .bool false, .slice none 0 0] 28))) := HE1.out.allocAt _ _ (by simp)
  clear HE1

  refine (H15.out _ _ _ _ _).mono ?_
  rintro e x2 ⟨rfl, hb⟩
  have HC2 : Hid (LS w [(y1.heap.size + 1, #[.int .i64 5, .int .i64 0, .string nul, .int .i64 2, .int .i64 1, .bool false, .bool false, .int .i64 0, .int .i64 0, .bool false, .bool false, .slice none 0 0, .int .i64 6, .int .i64 0, .string nul, .int .i64 1, .int .i64 1, .bool false, .bool false, .int .i64 1, .int .i64 (q : Int), .bool false, .bool false, .slice none 0 0, .int .i64 1, .int .i64 1, .string nul, .int .i64 0, .int .i64 0, .bool false, .bool false, .int .i64 0, .int .i64 0, .bool false, .bool false, .slice none 0 0], 28), (y1.heap.size, #[.int .i64 1, .int .i64 (C : Int), .string nul], 31), (y0.heap.size, #[.int .i64 mk, .int .i64 mm, .string nul], 31), (v4.heap.size, #[.int .i64 5, .int .i64 0, .string nul, .int .i64 2, .int .i64 1, .bool false, .bool false, .int .i64 0, .int .i64 0, .bool false, .bool false, .slice none 0 0], 28), (v3.heap.size, #[.int .i64 6, .int .i64 0, .string nul, .int .i64 1, .int .i64 1, .bool false, .bool false, .int .i64 1, .int .i64 (q : Int), .bool false, .bool false, .slice none 0 0], 28), (b0, #[.int .i64 k', .int .i64 n', .string s'], 31), (g2, CUR, 40)] x2) := HB2.out.next hb
  clear hb HB2
  go_wp2_with fail

  refine (HLk.out _ _ HC2.out.below (HC2.out.blks (y1.heap.size + 1, #[.int .i64 5, .int .i64 0, .string nul, .int .i64 2, .int .i64 1, .bool false, .bool false, .int .i64 0, .int .i64 0, .bool false, .bool false, .slice none 0 0, .int .i64 6, .int .i64 0, .string nul, .int .i64 1, .int .i64 1, .bool false, .bool false, .int .i64 1, .int .i64 (q : Int), .bool false, .bool false, .slice none 0 0, .int .i64 1, .int .i64 1, .string nul, .int .i64 0, .int .i64 0, .bool false, .bool false, .int .i64 0, .int .i64 0, .bool false, .bool false, .slice none 0 0], 28) (by simp)) (HC2.out.blks (g2, CUR, 40) (by simp))).mono ?_
  rintro e y2 ⟨rfl, hb⟩
  have HD2 : Hid (LS w [(y1.heap.size, #[.int .i64 1, .int .i64 (C : Int), .string nul], 31), (y0.heap.size, #[.int .i64 mk, .int .i64 mm, .string nul], 31), (v4.heap.size, #[.int .i64 5, .int .i64 0, .string nul, .int .i64 2, .int .i64 1, .bool false, .bool false, .int .i64 0, .int .i64 0, .bool false, .bool false, .slice none 0 0], 28), (v3.heap.size, #[.int .i64 6, .int .i64 0, .string nul, .int .i64 1, .int .i64 1, .bool false, .bool false, .int .i64 1, .int .i64 (q : Int), .bool false, .bool false, .slice none 0 0], 28), (b0, #[.int .i64 k', .int .i64 n', .string s'], 31), (g2, CUR, 40)] y2) := (HC2.out.next hb).sub (by simp)
  clear hb HC2

  have HE2 : Hid (LS w [(y2.heap.size, #[.int .i64 uk, .int .i64 um, .string uz], 31), (y1.heap.size, #[.int .i64 1, .int .i64 (C : Int), .string nul], 31), (y0.heap.size, #[.int .i64 mk, .int .i64 mm, .string nul], 31), (v4.heap.size, #[.int .i64 5, .int .i64 0, .string nul, .int .i64 2, .int .i64 1, .bool false, .bool false, .int .i64 0, .int .i64 0, .bool false, .bool false, .slice none 0 0], 28), (v3.heap.size, #[.int .i64 6, .int .i64 0, .string nul, .int .i64 1, .int .i64 1, .bool false, .bool false, .int .i64 1, .int .i64 (q : Int), .bool false, .bool false, .slice none 0 0], 28), (b0, #[.int .i64 k', .int .i64 n', .string s'], 31), (g2, CUR, 40)] (y2.alloc (.cells #[.int .i64 uk, .int .i64 um, .string uz] 31))) := HD2.out.alloc _ _
  clear HD2

  go_upto_region 17 with fail
  go_cut [18] (fun s18 wx => s18 = .int .i64 0 ∧ LS w [(y2.heap.size, #[.int .i64 uk, .int .i64 um, .string uz], 31), (y1.heap.size, #[.int .i64 1, .int .i64 (C : Int), .string nul], 31), (y0.heap.size, #[.int .i64 mk, .int .i64 mm, .string nul], 31), (v4.heap.size, #[.int .i64 5, .int .i64 0, .string nul, .int .i64 2, .int .i64 1, .bool false, .bool false, .int .i64 0, .int .i64 0, .bool false, .bool false, .slice none 0 0], 28), (v3.heap.size, #[.int .i64 6, .int .i64 0, .string nul, .int .i64 1, .int .i64 1, .bool false, .bool false, .int .i64 1, .int .i64 (q : Int), .bool false, .bool false, .slice none 0 0], 28), (b0, #[.int .i64 k', .int .i64 n', .string s'], 31), (g2, CUR, 40)] wx)
  case first =>
    go_wp2_with fail
    go_meet
    case rel => exact ⟨rfl, HE2.out⟩
  case rest =>
  obtain ⟨rfl, hS⟩ := hcut
  apply_assumption
  exact tail17 p q c k m z k' n' s' hq1 hq90 h4 HVs HW w HV b0 _ _ _ _ g2 cap2 CUR mk mm uk um uz C HC HCase HIdx _ (hS.sub (by simp)) _ _ _ _ _ _ _ _ _ _ _ _ _ _ _ _ _ _ _ _ _ _ _ _ _ _ _ _ _ _ _ _ _ _ _ _ _ _ _ _ _ _ _ _ _ _ _ _ _ _ _ _ _ _ _ _ _ _ _ _ _ _ _ _ _ _ _ _ _ _ _ _ _ _ _ _ _ _ _ _ _ _ _ _ _ _ _ _ _ _ _ _ _ _ _ _ _ _ _ _ _ _ _ _ _ _ _ _ _ _ _ _ _ _ _ _ _ _ _ _ _ _ _ _ _ _ _ _ _ _ _ _ _ _ _ _ _ _ _ _ _ _ _ _ _ _ _ _ _ _ _ _ _ _ _ _ _ _ _ _ _ _ _

end Go.Proofs.YtoebppmagkijjaaGreatDoor.ev
/- The law EvalFinds, walked: up to its column. -/
namespace Go.Proofs.YtoebppmagkijjaaGreatDoor.ev
open Go.RowKit
/-- The wanted value's block, opened. -/
abbrev CW (w4 : World) (b : Nat) (k' n' : Int) (s' : ByteArray) (wx : World) : Prop := wx.cell? ⟨b, 0, none⟩ = some (.int .i64 k') ∧ wx.cell? ⟨b, 1, none⟩ = some (.int .i64 n') ∧ wx.cell? ⟨b, 2, none⟩ = some (.string s') ∧ Below w4.heap.size w4 wx
theorem cwb {w4 : World} {b : Nat} {k' n' : Int} {s' : ByteArray} {wx : World} (h : CW w4 b k' n' s' wx) : Below w4.heap.size w4 wx := h.2.2.2
theorem row_blk {w : World} {base g q cap : Nat} {k m : Nat → Int} {z : Nat → ByteArray} {k' n' : Int} {s' : ByteArray} (h : w.ownsRow base 40 7 (.slice (some ⟨g, 0, none⟩) (q + 1) cap) (q + 1) (colL k m z q ++ [.int .i64 2, .int .i64 1, .int .i64 k', .int .i64 n', .string s', .int .i64 0, .int .i64 0])) : ∃ CUR, w.heap[g]? = some (.cells CUR 40 (0, 0)) ∧ ∀ wy, wy.heap[g]? = some (.cells CUR 40 (0, 0)) → ShL wy (some ⟨g, 0, none⟩) (shF k m z q k' n' s') := by
  obtain ⟨h0, ⟨h, -⟩ | ⟨g', cap', cur, h1, h2, h3, h4⟩⟩ := h
  · cases h
  · have e : g = g' := by
      injection h1 with h1
      injection h1 with h1
      injection h1
    subst e
    refine ⟨cur, h3, fun wy hy => shl_own (base := base) (n := q + 1) (cap := cap) ?_⟩
    rw [List.flatMap_append, ← colL_flat]
    exact ⟨h0, .inr ⟨g, cap', cur, h1, h2, hy, h4⟩⟩
theorem LS.snoc {w wx : World} {L : List (Nat × Array Value × TypeId)} (h : LS w L wx) {g : Nat} {cs : Array Value} {t : TypeId} (hg : wx.heap[g]? = some (.cells cs t (0, 0))) : LS w (L ++ [(g, cs, t)]) wx := ⟨fun x hx => by
  rcases List.mem_append.1 hx with hx | hx
  · exact h.blks x hx
  · simp at hx; subst hx; exact hg, h.below⟩
theorem cf (b : Nat → Bool) (n : Nat) : (fstB b n < n → 0 < cntB b n) ∧ (¬ fstB b n < n → cntB b n = 0) := by
  induction n with
  | zero => exact ⟨fun h => absurd h (Nat.not_lt_zero _), fun _ => rfl⟩
  | succ n ih =>
    unfold fstB cntB
    by_cases e : fstB b n < n
    · rw [if_pos e]
      have := ih.1 e
      exact ⟨fun _ => by omega, fun h => by omega⟩
    · rw [if_neg e, ih.2 e]
      cases hb : b n <;> simp
set_option maxRecDepth 100000 in
set_option maxHeartbeats 16000000 in
theorem finds_any (p : Option Addr) (q c : Nat) (hq : q ≤ 9223372036854775807) (k m : Nat → Int) (z : Nat → ByteArray) (k' n' : Int) (s' : ByteArray) (w : World) (hE : fm.EnvW w) (hv : VM w p q k m z) : Calls Tryz.prog 6 #[.slice p q c, VV k' n' s'] w fun e w' => e = .returned (.bool true) ∧ Below w.heap.size w w' := by
  have HV : Hid (VM w p q k m z) := hv
  clear hv
  have HE : Hid (∀ wx, Below w.heap.size w wx → fm.EnvW wx) := fun wx hb => hE.next hb
  have H15 : Hid (∀ nm p q c wx, Calls Tryz.prog 15 #[.string nm, .slice p q c] wx fun e w' => e = .returned (fm.NV 9 0 nm .z .z (.slice p q c)) ∧ Below wx.heap.size wx w') := lcall
  have H23 : Hid (∀ n wx, Calls Tryz.prog 23 #[.int .i64 n] wx fun e w' => e = .returned (VV 4 n nul) ∧ Below wx.heap.size wx w') := rbad
  have H11 : Hid (∀ a b c wx, Calls Tryz.prog 11 #[VV a b c] wx fun e w' => e = .returned (.bool (vv.isVal a b c)) ∧ Below wx.heap.size wx w') := fun a b c wx => vv.is_any a b c wx
  have H16 : Hid (∀ wx, Below w.heap.size w wx → Calls Tryz.prog 16 #[.slice p q c, .int .i64 90] wx fun e w' => e = .returned (.bool (decide (1 ≤ q) && decide (q ≤ 90) && allV k m z q)) ∧ Below wx.heap.size wx w') := fun wx hb => values_law p q c hq k m z wx (HV.out.next hb)
  have HFact : Hid (∀ wx, Below w.heap.size w wx → Calls Tryz.prog 14 #[fm.NV 9 0 ⟨#[78, 79, 78, 69]⟩ .z .z (.slice none 0 0), .slice none 0 0] wx fun e w' => e = .returned (.tuple #[VV 4 6 nul, .bool true]) ∧ Below wx.heap.size wx w') := fun wx hb =>
    works_none wx (HE.out wx hb)
  have H19 : Hid (∀ c r wx, Calls Tryz.prog 19 #[.int .i64 c, .int .i64 r] wx fun e w' => e = .returned (.agg #[.int .i64 c, .int .i64 r]) ∧ Below wx.heap.size wx w') := lat
  obtain ⟨i0, hi, hz0, hz1, hz2⟩ := info_parts info40
  have hg31 : Tryz.prog.eqGuardType Tryz.prog.depth 31 = false := by kernel_rfl
  go_enter Tryz.func6, Tryz.ntmps6
  go_wp2_with fail
  have HS0 : Hid (LS w [(w.heap.size, #[.int .i64 k', .int .i64 n', .string s'], 31)] (w.alloc (.cells #[.int .i64 k', .int .i64 n', .string s'] 31))) := LS.alloc ⟨fun x hx => by simp at hx, Below.refl _ _⟩ _ _
  refine (H15.out _ _ _ _ _).mono ?_
  rintro e w1 ⟨rfl, hb1⟩
  have HS1 : Hid (LS w [(w.heap.size, #[.int .i64 k', .int .i64 n', .string s'], 31)] w1) := HS0.out.next hb1
  clear hb1 HS0
  go_wp2_with fail
  refine (HFact.out _ HS1.out.below).mono ?_
  rintro e w2 ⟨rfl, hb2⟩
  have HS2 : Hid (LS w [(w.heap.size, #[.int .i64 k', .int .i64 n', .string s'], 31)] w2) := HS1.out.next hb2
  clear hb2 HS1 HFact
  have hf1 : (w2.alloc (.cells #[.int .i64 4, .int .i64 6, .string nul] 31)).heap[w2.heap.size]? = some (.cells #[.int .i64 4, .int .i64 6, .string nul] 31 (0, 0)) := heap_alloc_new _ _
  have HX : Hid (∀ wx, Below (w2.alloc (.cells #[.int .i64 4, .int .i64 6, .string nul] 31)).heap.size (w2.alloc (.cells #[.int .i64 4, .int .i64 6, .string nul] 31)).drew wx → wx.heap[w2.heap.size]? = some (.cells #[.int .i64 4, .int .i64 6, .string nul] 31 (0, 0)) ∧ LS w [(w.heap.size, #[.int .i64 k', .int .i64 n', .string s'], 31)] wx) := fun wx h => ⟨(h.block _ (by simp)).trans hf1, (show LS w [(w.heap.size, #[.int .i64 k', .int .i64 n', .string s'], 31)] (w2.alloc (.cells #[.int .i64 4, .int .i64 6, .string nul] 31)).drew from ⟨((HS2.out.alloc _ _).sub (by simp)).blks, (HS2.out.alloc _ _).below.drew⟩).next h⟩
  obtain ⟨a0, a1, a2⟩ := cells3v hf1
  clear hf1
  go_wp2_with fail
  go_cut [35] (fun s35 wx => s35 = .bool false ∧ LS w [(w.heap.size, #[.int .i64 k', .int .i64 n', .string s'], 31)] wx)
  case first =>
    go_region_with (go_at_call 23; refine (H23.out _ _).mono ?_; rintro e w3 ⟨rfl, hb3⟩; have hf3 := (HX.out w3 hb3).1; have hb4 := (HX.out w3 hb3).2; obtain ⟨b0, b1, b2⟩ := cells3v hf3; have hq := neq31 4 6 nul w3)
    all_goals
      go_wp2_with fail
      go_meet
      case rel => exact ⟨rfl, hb4⟩
  case rest =>
  clear HX HS2 a0 a1 a2
  obtain ⟨rfl, hsc⟩ := hcut
  have HS3 : Hid (LS w [(w.heap.size, #[.int .i64 k', .int .i64 n', .string s'], 31)] wc) := hsc
  clear hsc
  go_wp2_with fail
  refine (H16.out _ HS3.out.below).mono ?_
  rintro e w3 ⟨rfl, hb3⟩
  have HS4 : Hid (LS w [(w.heap.size, #[.int .i64 k', .int .i64 n', .string s'], 31)] w3) := HS3.out.next hb3
  clear hb3 HS3 H16
  obtain ⟨a0, a1, a2⟩ := cells3v (HS4.out.blks (w.heap.size, #[.int .i64 k', .int .i64 n', .string s'], 31) (by simp))
  cases hA : (decide (1 ≤ q) && decide (q ≤ 90) && allV k m z q) with
  | false =>
    go_wp2_with fail
    refine (H11.out _ _ _ _).mono ?_
    rintro e w4 ⟨rfl, hb4⟩
    have HS5 : Hid (LS w [(w.heap.size, #[.int .i64 k', .int .i64 n', .string s'], 31)] w4) := HS4.out.next hb4
    clear hb4 HS4 a0 a1 a2 hA
    go_wp2_with fail
    go_ret
    exact ⟨rfl, HS5.out.below⟩
  | true =>
  go_wp2_with fail
  have HA : Hid ((decide (1 ≤ q) && decide (q ≤ 90) && allV k m z q) = true) := hA
  have HW := H11.out k' n' s' w3
  clear hA
  cases hB : vv.isVal k' n' s' with
  | false =>
    rw [hB] at HW
    refine HW.mono ?_
    rintro e w4 ⟨rfl, hb4⟩
    have HS5 : Hid (LS w [(w.heap.size, #[.int .i64 k', .int .i64 n', .string s'], 31)] w4) := HS4.out.next hb4
    clear hb4 HS4 a0 a1 a2 hB
    go_wp2_with fail
    go_ret
    exact ⟨rfl, HS5.out.below⟩
  | true =>
  have HBV : Hid (vv.isVal k' n' s' = true) := hB
  rw [hB] at HW
  refine HW.mono ?_
  rintro e w4 ⟨rfl, hb4⟩
  have HS5 : Hid (LS w [(w.heap.size, #[.int .i64 k', .int .i64 n', .string s'], 31)] w4) := HS4.out.next hb4
  clear hb4 HS4 a0 a1 a2 hB HW
  obtain ⟨a0, a1, a2⟩ := cells3v (HS5.out.blks (w.heap.size, #[.int .i64 k', .int .i64 n', .string s'], 31) (by simp))
  by_cases h4 : k' = 4
  · subst h4
    go_wp2_with fail
    go_ret
    exact ⟨rfl, HS5.out.below⟩
  go_wp2_with fail
  have HQ : Hid (1 ≤ q ∧ q ≤ 90 ∧ allV k m z q = true) := by
    have h := HA.out
    rw [Bool.and_eq_true, Bool.and_eq_true] at h
    exact ⟨of_decide_eq_true h.1.1, of_decide_eq_true h.1.2, h.2⟩
  have hq90 : q ≤ 90 := HQ.out.2.1
  clear HA H11 H23
  refine (column_law p q c hq90 k m z w4 (HV.out.next HS5.out.below)).mono ?_
  rintro e w5 ⟨⟨vl, rfl, hown⟩, hb5⟩
  clear a0 a1 a2
  have sof : ∀ wx, Below w4.heap.size w4 wx → CW w4 w.heap.size k' n' s' wx := fun wx hb => by
    obtain ⟨q0, q1, q2⟩ := cells3v ((HS5.out.next hb).blks (w.heap.size, #[.int .i64 k', .int .i64 n', .string s'], 31) (by simp))
    exact ⟨q0, q1, q2, hb⟩
  have h0d := sof _ hb5.drew
  obtain ⟨y0, y1, y2, -⟩ := sof _ hb5
  have hod : w5.drew.ownsRow w4.heap.size 40 7 vl q (colL k m z q) := hown
  have hsz0 := hb5.size
  clear hown hb5
  go_upto_region 9 with fail
  go_cut [9] (fun s9 wx => ∃ g2 cap2 CUR, s9 = .slice (some ⟨g2, 0, none⟩) (q + 1) cap2 ∧ LS w [(w.heap.size, #[.int .i64 k', .int .i64 n', .string s'], 31), (g2, CUR, 40)] wx ∧ ∀ wy, wy.heap[g2]? = some (.cells CUR 40 (0, 0)) → ShL wy (some ⟨g2, 0, none⟩) (shF k m z q k' n' s'))
  case first =>
    go_region_held_law (fun wx => CW w4 w.heap.size k' n' s' wx) (first | exact h0d | exact sof _ (bnext (cwb (by assumption)) (by assumption) (cwb (by assumption)).size) | exact sof _ (Below.alloc (cwb (by assumption)) (cwb (by assumption)).size _) | exact sof _ (by assumption)) (first | (go_at_call 19; refine (H19.out _ _ _).mono ?_; rintro e w1 ⟨rfl, hb1⟩; have hown1 := own40 hod hb1; have hB1 : Below w4.heap.size w4 w1 := bnext (cwb h0d) hb1 (cwb h0d).size) | (refine step_append_lies _ rfl _ _ 29 rfl w4.heap.size 40 i0 (.agg Z7) 7 64 Tryz.underlying29 hi hz0 hz1 hz2 rfl (by decide) vl q (colL k m z q) rfl (hown1.alloc _) ⟨w1.heap.size, 0, none⟩ 1 1 [.int .i64 2, .int .i64 1, .int .i64 k', .int .i64 n', .string s', .int .i64 0, .int .i64 0] rfl rfl (World.news_of_block (heap_alloc_new w1 _)) (by simp [Value.oneCell']) (by decide) (by unfold maxLen; omega) (by omega) (by have := hB1.size; simp; omega) _ rfl ?_; intro g2 cap2 w3 hown3 hgrow hat hlt3; have hb3 : Below w4.heap.size w4 w3 := (hB1.alloc hB1.size _).grown hgrow (by have := hB1.size; simp; omega) (fun q hq => (hown1.lt q hq).1)))
    all_goals
      simp only [List.getElem_toArray, List.getElem_cons_succ, List.getElem_cons_zero]
      go_wp2_with fail
      go_meet
      case rel =>
        obtain ⟨CUR, hcu, hsh⟩ := row_blk hown3
        exact ⟨_, _, CUR, rfl, (HS5.out.next hb3).snoc hcu, hsh⟩
  case rest =>
  clear sof h0d y0 y1 y2 hod hsz0
  obtain ⟨g2, cap2, CUR, rfl, hsc, hsl⟩ := hcut
  obtain ⟨hq1, -, hall⟩ := HQ.out
  have hvs := allV_at hall
  apply_assumption
  exact tail10 p q c k m z k' n' s' hq1 hq90 h4 hvs HBV w HV w.heap.size g2 cap2 CUR (if (fstB (fun i => eqT (k i) (m i) (z i) k' n' s') q) < q then 1 else 4) (if (fstB (fun i => eqT (k i) (m i) (z i) k' n' s') q) < q then ((fstB (fun i => eqT (k i) (m i) (z i) k' n' s') q) : Int) + 1 else 6) (if (fstB (fun i => eqT (k i) (m i) (z i) k' n' s') q) < q then k (fstB (fun i => eqT (k i) (m i) (z i) k' n' s') q) else 4) (if (fstB (fun i => eqT (k i) (m i) (z i) k' n' s') q) < q then m (fstB (fun i => eqT (k i) (m i) (z i) k' n' s') q) else 6) (if (fstB (fun i => eqT (k i) (m i) (z i) k' n' s') q) < q then z (fstB (fun i => eqT (k i) (m i) (z i) k' n' s') q) else nul) (cntB (fun i => eqT (k i) (m i) (z i) k' n' s') q) rfl (by
    by_cases e : (fstB (fun i => eqT (k i) (m i) (z i) k' n' s') q) < q
    · refine .inr ⟨(fstB (fun i => eqT (k i) (m i) (z i) k' n' s') q), e, if_pos e, (cf _ _).1 e, ?_, ?_, ?_, ?_, ?_⟩ <;> rw [if_pos e]
    · refine .inl ⟨(cf _ _).2 e, ?_, ?_, ?_, ?_, ?_⟩ <;> rw [if_neg e])
    (fun wx g hb hg h2 => works_match hq1 hq90 h4 hvs HBV.out wx (HE.out wx hb) g hg _ _ (hsl wx h2))
    (fun wx g hb hg h2 => works_count hq1 hq90 h4 hvs HBV.out wx (HE.out wx hb) g hg _ _ (hsl wx h2))
    (fun wx g hb hg h2 => works_look hq1 hq90 h4 hvs HBV.out wx (HE.out wx hb) g hg _ _ (hsl wx h2))
    (fun j hj wx g hb hg h2 => works_index hq1 hq90 h4 hvs HBV.out j hj wx (HE.out wx hb) g hg _ _ (hsl wx h2))
    _ hsc _ _ _ _ _ _ _ _ _ _ _ _ _ _ _ _ _ _ _ _ _ _ _ _ _ _ _ _ _ _ _ _ _ _ _ _ _ _ _ _ _ _ _ _ _ _ _ _ _ _ _ _ _ _ _ _ _ _ _ _ _ _ _ _ _ _ _ _ _ _ _ _ _ _ _ _ _ _ _ _ _ _ _ _ _ _ _ _ _ _ _ _ _ _ _ _ _ _ _ _ _ _ _ _ _ _ _ _ _ _ _ _ _ _ _ _ _ _ _ _ _ _ _ _ _ _ _ _ _ _ _ _ _ _ _ _ _ _ _ _ _ _ _ _ _ _ _ _ _ _ _ _ _ _ _ _ _ _ _ _ _ _ _ _ _ _ _ _

end Go.Proofs.YtoebppmagkijjaaGreatDoor.ev
