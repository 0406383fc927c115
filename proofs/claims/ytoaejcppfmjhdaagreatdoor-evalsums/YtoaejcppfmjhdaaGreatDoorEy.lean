/- The law EvalCuts: what it returns, walked. Conditions: what lies in its blocks. -/
import Derived.Test.YtoaejcppfmjhdaaGreatDoorEw
namespace Go.Proofs.YtoaejcppfmjhdaaGreatDoor.ev
open Go.RowKit
/-- The statements from a region on. -/
def findTail (n : Nat) : Code → Option Code
  | .seq (.region m ops b) c => if m = n then some (.seq (.region m ops b) c) else findTail n c
  | .seq a b => match findTail n a with
    | some c => some c
    | none => findTail n b
  | .cond _ a b => match findTail n a with
    | some c => some c
    | none => findTail n b
  | .loop c => findTail n c
  | .block _ c => findTail n c
  | .scope c => findTail n c
  | _ => none
/-- The four blocks, opened. -/
abbrev LSO (w : World) (t : ByteArray) (m : Int) (bx by1 bz bf : Nat) (wx : World) : Prop :=
  wx.cell? ⟨bx, 0, none⟩ = some (.int .i64 2) ∧ wx.cell? ⟨bx, 1, none⟩ = some (.int .i64 0) ∧ wx.cell? ⟨bx, 2, none⟩ = some (.string t) ∧ wx.cell? ⟨by1, 0, none⟩ = some (.int .i64 3) ∧ wx.cell? ⟨by1, 1, none⟩ = some (.int .i64 1) ∧ wx.cell? ⟨by1, 2, none⟩ = some (.string nul) ∧ wx.cell? ⟨bz, 0, none⟩ = some (.int .i64 1) ∧ wx.cell? ⟨bz, 1, none⟩ = some (.int .i64 (t.size : Int)) ∧ wx.cell? ⟨bz, 2, none⟩ = some (.string nul) ∧ wx.cell? ⟨bf, 0, none⟩ = some (.int .i64 1) ∧ wx.cell? ⟨bf, 1, none⟩ = some (.int .i64 m) ∧ LS w [(bf, #[.int .i64 1, .int .i64 m, .string nul], 31), (bz, #[.int .i64 1, .int .i64 (t.size : Int), .string nul], 31), (by1, #[.int .i64 3, .int .i64 1, .string nul], 31), (bx, #[.int .i64 2, .int .i64 0, .string t], 31)] wx
theorem lso {w : World} {t : ByteArray} {m : Int} {bx by1 bz bf : Nat} {wx : World} (h : LS w [(bf, #[.int .i64 1, .int .i64 m, .string nul], 31), (bz, #[.int .i64 1, .int .i64 (t.size : Int), .string nul], 31), (by1, #[.int .i64 3, .int .i64 1, .string nul], 31), (bx, #[.int .i64 2, .int .i64 0, .string t], 31)] wx) : LSO w t m bx by1 bz bf wx := by
  obtain ⟨x0, x1, x2⟩ := cells3v (h.blks (bx, #[.int .i64 2, .int .i64 0, .string t], 31) (by simp))
  obtain ⟨y0, y1, y2⟩ := cells3v (h.blks (by1, #[.int .i64 3, .int .i64 1, .string nul], 31) (by simp))
  obtain ⟨z0, z1, z2⟩ := cells3v (h.blks (bz, #[.int .i64 1, .int .i64 (t.size : Int), .string nul], 31) (by simp))
  obtain ⟨f0, f1, -⟩ := cells3v (h.blks (bf, #[.int .i64 1, .int .i64 m, .string nul], 31) (by simp))
  exact ⟨x0, x1, x2, y0, y1, y2, z0, z1, z2, f0, f1, h⟩
theorem ols {w : World} {t : ByteArray} {m : Int} {bx by1 bz bf : Nat} {wx : World} (h : LSO w t m bx by1 bz bf wx) : LS w [(bf, #[.int .i64 1, .int .i64 m, .string nul], 31), (bz, #[.int .i64 1, .int .i64 (t.size : Int), .string nul], 31), (by1, #[.int .i64 3, .int .i64 1, .string nul], 31), (bx, #[.int .i64 2, .int .i64 0, .string t], 31)] wx := h.2.2.2.2.2.2.2.2.2.2.2
noncomputable def tail18C : Code := ((Tryz.f5.body.bind (findTail 18)).getD .skip)
set_option maxRecDepth 1000000 in
set_option maxHeartbeats 16000000 in
theorem tail18 (t : ByteArray) (n : Nat) (m : Int) (ht : (t.size : Int) ≤ 100) (hn : (n : Int) ≤ (t.size : Int)) (h1m : 1 ≤ m) (hm : m ≤ (n : Int) + 1) (w wc : World) (bx by1 bz bf : Nat) (hS : LS w [(bf, #[.int .i64 1, .int .i64 m, .string nul], 31), (bz, #[.int .i64 1, .int .i64 (t.size : Int), .string nul], 31), (by1, #[.int .i64 3, .int .i64 1, .string nul], 31), (bx, #[.int .i64 2, .int .i64 0, .string t], 31)] wc)
    (H21 : Hid (∀ t wx, Calls Tryz.prog 21 #[.string t] wx fun e w' => e = .returned (VV 2 0 t) ∧ Below wx.heap.size wx w'))
    (H10 : Hid (∀ n wx, Calls Tryz.prog 10 #[.int .i64 n] wx fun e w' => e = .returned (VV 1 n nul) ∧ Below wx.heap.size wx w'))
    (H22 : Hid (∀ wx, Calls Tryz.prog 22 #[.bool true] wx fun e w' => e = .returned (VV 3 1 nul) ∧ Below wx.heap.size wx w'))
    (l2 l3 l4 l5 l6 l7 l8 l9 l10 l11 l12 l13 l14 l23 l24 l25 l26 l27 l28 l29 l30 l31 l32 l33 l34 l35 l36 l37 l38 l39 l40 l41 l42 l43 l44 l45 l46 l47 l48 l49 l50 l51 l52 l53 l54 l55 l56 l57 l58 l59 l60 l61 l62 l63 l64 l65 l66 l67 l68 l69 l70 l71 l72 l73 l74 l75 l76 l77 l78 l79 l80 l81 l82 l83 l84 l85 l86 l87 l88 l89 l90 l91 l92 l93 l94 l95 l96 l97 l98 l99 l100 l101 l102 l103 l104 l105 l106 l107 l108 l109 l110 l111 l112 l113 l114 l115 l116 l117 l118 l119 l120 l121 l122 l123 l124 l125 l126 l127 l128 l129 l130 l131 l132 l133 l134 l135 l136 l137 l138 l139 l140 l141 l142 l143 l144 l145 l146 l147 l148 l149 l150 l151 l152 l153 l154 l155 l156 l157 l158 l159 l160 l161 l162 l163 l164 l165 l166 l167 l168 l169 l170 l171 l172 l173 l174 l175 l176 : Value) :
    Code.wp Tryz.prog tail18C (bodyPost Tryz.prog Tryz.f5 fun e w' => e = .returned (.bool true) ∧ Below w.heap.size w w') ⟨#[.string t, .int .i64 (n : Int), l2, l3, l4, l5, l6, l7, l8, l9, l10, l11, l12, l13, l14, .pointer (some ⟨bx, 0, none⟩), .bool true, .pointer (some ⟨by1, 0, none⟩), .bool true, .pointer (some ⟨bz, 0, none⟩), .bool true, .pointer (some ⟨bf, 0, none⟩), .bool true, l23, l24, l25, l26, l27, l28, l29, l30, l31, l32, l33, l34, l35, l36, l37, l38, l39, l40, l41, l42, l43, l44, l45, l46, l47, l48, l49, l50, l51, l52, l53, l54, l55, l56, l57, l58, l59, l60, l61, l62, l63, l64, l65, l66, l67, l68, l69, l70, l71, l72, l73, l74, l75, l76, l77, l78, l79, l80, l81, l82, l83, l84, l85, l86, l87, l88, l89, l90, l91, l92, l93, l94, l95, l96, l97, l98, l99, l100, l101, l102, l103, l104, l105, l106, l107, l108, l109, l110, l111, l112, l113, l114, l115, l116, l117, l118, l119, l120, l121, l122, l123, l124, l125, l126, l127, l128, l129, l130, l131, l132, l133, l134, l135, l136, l137, l138, l139, l140, l141, l142, l143, l144, l145, l146, l147, l148, l149, l150, l151, l152, l153, l154, l155, l156, l157, l158, l159, l160, l161, l162, l163, l164, l165, l166, l167, l168, l169, l170, l171, l172, l173, l174, l175, l176], []⟩ wc := by
  dsimp only
  conv => arg 2; whnf
  have hg31 : Tryz.prog.eqGuardType Tryz.prog.depth 31 = false := by kernel_rfl
  have hn0 : (0 : Int) ≤ (n : Int) := by omega
  have hd1 : decide ((1 : Int) ≤ m) = true := decide_eq_true h1m
  have hd2 : decide (m ≤ (n : Int) + 1) = true := decide_eq_true hm
  go_upto_region 18 with fail
  have hS0 : LS w [(bf, #[.int .i64 1, .int .i64 m, .string nul], 31), (bz, #[.int .i64 1, .int .i64 (t.size : Int), .string nul], 31), (by1, #[.int .i64 3, .int .i64 1, .string nul], 31), (bx, #[.int .i64 2, .int .i64 0, .string t], 31)] wc.drew := ⟨hS.blks, hS.below.drew⟩
  have h0d := lso hS0
  obtain ⟨c0, c1, c2, c3, c4, c5, c6, c7, c8, c9, c10, -⟩ := lso hS
  go_cut [4] (fun s4 wx => s4 = .bool true ∧ Below w.heap.size w wx)
  case first =>
    have e31 : ∀ (k n : Int) (s : ByteArray) (W : World), (binOp BinOp.eql 31 (VV k n s) (VV k n s)).run Tryz.prog W = .ok (.bool true) W := eql31
    go_region_held3 (fun wx => LSO w t m bx by1 bz bf wx) (first | exact h0d | exact lso ((ols (by assumption)).next (by assumption))) (first | (go_at_call 21; refine (H21.out _ _).mono ?_; rintro e w3 ⟨rfl, q3⟩) | (go_at_call 22; refine (H22.out _).mono ?_; rintro e w4 ⟨rfl, q4⟩) | (go_at_call 10; refine (H10.out _ _).mono ?_; rintro e w5 ⟨rfl, q5⟩))
    all_goals
      go_wp2_with fail
      go_meet
      case rel => exact ⟨by rw [show IntKind.i64.wrap ((n : Int) + 1) = (n : Int) + 1 from by rw [IntKind.wrap_i64]; omega, hd2], (ols (by assumption)).below⟩
  case rest =>
  obtain ⟨rfl, hb⟩ := hcut
  go_wp2_with fail
  go_ret
  exact ⟨rfl, hb⟩
end Go.Proofs.YtoaejcppfmjhdaaGreatDoor.ev
