
/- The reference's argument list: its tokens, its tests. Conditions: as each theorem says. -/
import Derived.Test.YtomgjjngkffbbaaGreatDoorRkb
import Derived.Deep.QuietTactic
import Derived.BigQuiet
namespace Go.Proofs.YtomgjjngkffbbaaGreatDoor.fm
open Go.RowKit
/-- The region of a number. -/
def findReg (n : Nat) : Code → Option Code
  | .region m ops b => if m = n then some (.region m ops b) else none
  | .cond _ a b => match findReg n a with
    | some c => some c
    | none => findReg n b
  | .seq a b => match findReg n a with
    | some c => some c
    | none => findReg n b
  | .loop c => findReg n c
  | .block _ c => findReg n c
  | .scope c => findReg n c
  | _ => none
noncomputable def reg8C : Code := ((Tryz.f93.body.bind (findReg 8)).getD .skip)
noncomputable def reg11C : Code := ((Tryz.f93.body.bind (findReg 11)).getD .skip)
noncomputable def reg20C : Code := ((Tryz.f93.body.bind (findReg 20)).getD .skip)
noncomputable def reg21C : Code := ((Tryz.f93.body.bind (findReg 21)).getD .skip)
section
variable {s : ByteArray} (hs : s.size ≤ 200)
include hs
set_option maxRecDepth 1000000 in
set_option maxHeartbeats 16000000 in
theorem tok8 (pb kb j D : Nat) (wr0 bd : Int) (tk0 : Tk) (wr : World) (hP : PD wr pb s j wr0 bd D) (hj : j ≤ s.size) (hkb : wr.heap[kb]? = some (.cells (K4 tk0) 105 (0, 0))) (hkp : kb ≠ pb) (l1 l2 l3 l4 l5 l7 l8 l9 l10 l11 l12 l13 l14 l15 l16 l17 l18 l19 l20 l21 l22 l23 l24 l25 l26 l27 l28 l29 l30 l31 l32 l33 l34 l35 l36 l37 l38 l39 l40 l41 l42 l43 l44 l45 l46 l47 l48 l49 l50 l51 l52 l53 l54 l55 l56 l57 l58 l59 l60 l61 l62 l63 l64 l65 l66 l67 l68 l69 l70 l71 l72 l73 l74 l75 l76 l77 l78 l79 l80 l81 l82 l83 l84 l85 l86 l87 l88 l89 l90 l91 l92 l93 l94 l95 l96 l97 l98 l99 l100 l101 l102 l103 l104 l105 l106 l107 l108 l109 l110 l111 l112 l113 l114 l115 l116 l117 l118 l119 l120 l121 l122 l123 l124 l125 l126 l127 l128 l129 l130 l131 l132 l133 l134 l135 l136 l137 l138 l139 l140 l141 l142 l143 l144 l145 l146 l147 l148 l149 l150 l151 l152 l153 l154 l155 l156 l157 l158 l159 l160 l161 l162 l163 l164 l165 l166 l167 l168 l169 l170 : Value) (K : Act → World → Prop) (Q : Exit → Act → World → Prop) (hK : ∀ (x47 x48 x49 x50 x51 x52 x53 x54 x55 : Value) (w' : World), KT wr (tkR s j) kb w' → K ⟨#[ptr pb, l1, l2, l3, l4, l5, ptr kb, l7, l8, l9, l10, l11, l12, l13, l14, l15, l16, l17, l18, l19, l20, l21, l22, l23, l24, l25, l26, l27, l28, l29, l30, l31, l32, l33, l34, l35, l36, l37, l38, l39, l40, l41, l42, l43, l44, l45, l46, x47, x48, x49, x50, x51, x52, x53, x54, x55, l56, l57, l58, l59, l60, l61, l62, l63, l64, l65, l66, l67, l68, l69, l70, l71, l72, l73, l74, l75, l76, l77, l78, l79, l80, l81, l82, l83, l84, l85, l86, l87, l88, l89, l90, l91, l92, l93, l94, l95, l96, l97, l98, l99, l100, l101, l102, l103, l104, l105, l106, l107, l108, l109, l110, l111, l112, l113, l114, l115, l116, l117, l118, l119, l120, l121, l122, l123, l124, l125, l126, l127, l128, l129, l130, l131, l132, l133, l134, l135, l136, l137, l138, l139, l140, l141, l142, l143, l144, l145, l146, l147, l148, l149, l150, l151, l152, l153, l154, l155, l156, l157, l158, l159, l160, l161, l162, l163, l164, l165, l166, l167, l168, l169, l170], []⟩ w') :
    Code.wp Tryz.prog reg8C (Exit.then K Q) ⟨#[ptr pb, l1, l2, l3, l4, l5, ptr kb, l7, l8, l9, l10, l11, l12, l13, l14, l15, l16, l17, l18, l19, l20, l21, l22, l23, l24, l25, l26, l27, l28, l29, l30, l31, l32, l33, l34, l35, l36, l37, l38, l39, l40, l41, l42, l43, l44, l45, l46, l47, l48, l49, l50, l51, l52, l53, l54, l55, l56, l57, l58, l59, l60, l61, l62, l63, l64, l65, l66, l67, l68, l69, l70, l71, l72, l73, l74, l75, l76, l77, l78, l79, l80, l81, l82, l83, l84, l85, l86, l87, l88, l89, l90, l91, l92, l93, l94, l95, l96, l97, l98, l99, l100, l101, l102, l103, l104, l105, l106, l107, l108, l109, l110, l111, l112, l113, l114, l115, l116, l117, l118, l119, l120, l121, l122, l123, l124, l125, l126, l127, l128, l129, l130, l131, l132, l133, l134, l135, l136, l137, l138, l139, l140, l141, l142, l143, l144, l145, l146, l147, l148, l149, l150, l151, l152, l153, l154, l155, l156, l157, l158, l159, l160, l161, l162, l163, l164, l165, l166, l167, l168, l169, l170], []⟩ wr := by
  dsimp only at hK ⊢
  conv => arg 2; whnf
  have HT : Hid (∀ w, Calls Tryz.prog 54 #[.string s, .int .i64 j] w fun e w' => e = .returned (KV (tkR s j).kind ((tkR s j).a : Nat) ((tkR s j).e : Nat) (tkR s j).t) ∧ Below w.heap.size w w') := fun w => token_at s j w hs hj
  obtain ⟨tk, htk⟩ : ∃ tk, tkR s j = tk := ⟨_, rfl⟩
  rw [htk] at HT hK
  clear htk
  obtain ⟨⟨c0, c1, c2, c3, c4⟩, f0, f1, f2, f3, f4⟩ := hP.cells
  have hlt0 := hP.lt
  have hltk := lt_blk hkb
  have hdr : Below wr.heap.size wr wr.drew := (Below.refl _ _).drew
  have KK : Hid (∀ wx, Below wr.heap.size wr wx → wx.cell? ⟨pb, 0, none⟩ = some (.string s) ∧ wx.cell? ⟨pb, 1, none⟩ = some (.int .i64 j)) := fun wx hb => ⟨(hb.cell (p := ⟨pb, 0, none⟩) hlt0).trans c0, (hb.cell (p := ⟨pb, 1, none⟩) hlt0).trans c1⟩
  have K2 : Hid (∀ wx, KT wr tk kb wx → wx.cell? ⟨pb, 0, none⟩ = some (.string s) ∧ wx.cell? ⟨pb, 1, none⟩ = some (.int .i64 j)) := fun wx hb => by
    have := (hP.keep hb.kp (fun e => hkp e.symm)).cells.1
    exact ⟨this.1, this.2.1⟩
  clear c0 c1 c2 c3 c4 f0 f1 f2 f3 f4
  go_region_held3 (fun wx => wx.cell? ⟨pb, 0, none⟩ = some (.string s) ∧ wx.cell? ⟨pb, 1, none⟩ = some (.int .i64 j)) (first | with_reducible exact KK.out _ hdr | with_reducible exact KK.out _ hb' | exact kt2 hkb hb' (Q := fun W => W.cell? ⟨pb, 0, none⟩ = some (.string s) ∧ W.cell? ⟨pb, 1, none⟩ = some (.int .i64 j)) (fun w2 h2 => K2.out w2 h2)) ((go_at_call 54; refine (HT.out _).mono ?_; rintro e w1 ⟨rfl, hb⟩; have hb' : Below wr.heap.size wr w1 := kb1 hb; have hz : w1.heap[kb]? = some (.cells (K4 tk0) 105 (0, 0)) := ((hb'.block _ hltk).trans hkb); have hz4 := cells4f hz; obtain ⟨⟨z0, z1, z2, z3⟩, y0, y1, y2, y3⟩ := hz4))
  all_goals
    go_wp2_with fail
    exact kt2 hkb hb' (Q := fun W => KT wr tk kb W) (fun w2 h2 => h2)
set_option maxRecDepth 1000000 in
set_option maxHeartbeats 16000000 in
theorem tok20 (pb kb j D : Nat) (wr0 bd : Int) (tk0 : Tk) (wr : World) (hP : PD wr pb s j wr0 bd D) (hj : j ≤ s.size) (hkb : wr.heap[kb]? = some (.cells (K4 tk0) 105 (0, 0))) (hkp : kb ≠ pb) (l1 l2 l3 l4 l5 l7 l8 l9 l10 l11 l12 l13 l14 l15 l16 l17 l18 l19 l20 l21 l22 l23 l24 l25 l26 l27 l28 l29 l30 l31 l32 l33 l34 l35 l36 l37 l38 l39 l40 l41 l42 l43 l44 l45 l46 l47 l48 l49 l50 l51 l52 l53 l54 l55 l56 l57 l58 l59 l60 l61 l62 l63 l64 l65 l66 l67 l68 l69 l70 l71 l72 l73 l74 l75 l76 l77 l78 l79 l80 l81 l82 l83 l84 l85 l86 l87 l88 l89 l90 l91 l92 l93 l94 l95 l96 l97 l98 l99 l100 l101 l102 l103 l104 l105 l106 l107 l108 l109 l110 l111 l112 l113 l114 l115 l116 l117 l118 l119 l120 l121 l122 l123 l124 l125 l126 l127 l128 l129 l130 l131 l132 l133 l134 l135 l136 l137 l138 l139 l140 l141 l142 l143 l144 l145 l146 l147 l148 l149 l150 l151 l152 l153 l154 l155 l156 l157 l158 l159 l160 l161 l162 l163 l164 l165 l166 l167 l168 l169 l170 : Value) (K : Act → World → Prop) (Q : Exit → Act → World → Prop) (hK : ∀ (x138 x139 x140 x141 x142 x143 x144 x145 x146 : Value) (w' : World), KT wr (tkR s j) kb w' → K ⟨#[ptr pb, l1, l2, l3, l4, l5, ptr kb, l7, l8, l9, l10, l11, l12, l13, l14, l15, l16, l17, l18, l19, l20, l21, l22, l23, l24, l25, l26, l27, l28, l29, l30, l31, l32, l33, l34, l35, l36, l37, l38, l39, l40, l41, l42, l43, l44, l45, l46, l47, l48, l49, l50, l51, l52, l53, l54, l55, l56, l57, l58, l59, l60, l61, l62, l63, l64, l65, l66, l67, l68, l69, l70, l71, l72, l73, l74, l75, l76, l77, l78, l79, l80, l81, l82, l83, l84, l85, l86, l87, l88, l89, l90, l91, l92, l93, l94, l95, l96, l97, l98, l99, l100, l101, l102, l103, l104, l105, l106, l107, l108, l109, l110, l111, l112, l113, l114, l115, l116, l117, l118, l119, l120, l121, l122, l123, l124, l125, l126, l127, l128, l129, l130, l131, l132, l133, l134, l135, l136, l137, x138, x139, x140, x141, x142, x143, x144, x145, x146, l147, l148, l149, l150, l151, l152, l153, l154, l155, l156, l157, l158, l159, l160, l161, l162, l163, l164, l165, l166, l167, l168, l169, l170], []⟩ w') :
    Code.wp Tryz.prog reg20C (Exit.then K Q) ⟨#[ptr pb, l1, l2, l3, l4, l5, ptr kb, l7, l8, l9, l10, l11, l12, l13, l14, l15, l16, l17, l18, l19, l20, l21, l22, l23, l24, l25, l26, l27, l28, l29, l30, l31, l32, l33, l34, l35, l36, l37, l38, l39, l40, l41, l42, l43, l44, l45, l46, l47, l48, l49, l50, l51, l52, l53, l54, l55, l56, l57, l58, l59, l60, l61, l62, l63, l64, l65, l66, l67, l68, l69, l70, l71, l72, l73, l74, l75, l76, l77, l78, l79, l80, l81, l82, l83, l84, l85, l86, l87, l88, l89, l90, l91, l92, l93, l94, l95, l96, l97, l98, l99, l100, l101, l102, l103, l104, l105, l106, l107, l108, l109, l110, l111, l112, l113, l114, l115, l116, l117, l118, l119, l120, l121, l122, l123, l124, l125, l126, l127, l128, l129, l130, l131, l132, l133, l134, l135, l136, l137, l138, l139, l140, l141, l142, l143, l144, l145, l146, l147, l148, l149, l150, l151, l152, l153, l154, l155, l156, l157, l158, l159, l160, l161, l162, l163, l164, l165, l166, l167, l168, l169, l170], []⟩ wr := by
  dsimp only at hK ⊢
  conv => arg 2; whnf
  have HT : Hid (∀ w, Calls Tryz.prog 54 #[.string s, .int .i64 j] w fun e w' => e = .returned (KV (tkR s j).kind ((tkR s j).a : Nat) ((tkR s j).e : Nat) (tkR s j).t) ∧ Below w.heap.size w w') := fun w => token_at s j w hs hj
  obtain ⟨tk, htk⟩ : ∃ tk, tkR s j = tk := ⟨_, rfl⟩
  rw [htk] at HT hK
  clear htk
  obtain ⟨⟨c0, c1, c2, c3, c4⟩, f0, f1, f2, f3, f4⟩ := hP.cells
  have hlt0 := hP.lt
  have hltk := lt_blk hkb
  have hdr : Below wr.heap.size wr wr.drew := (Below.refl _ _).drew
  have KK : Hid (∀ wx, Below wr.heap.size wr wx → wx.cell? ⟨pb, 0, none⟩ = some (.string s) ∧ wx.cell? ⟨pb, 1, none⟩ = some (.int .i64 j)) := fun wx hb => ⟨(hb.cell (p := ⟨pb, 0, none⟩) hlt0).trans c0, (hb.cell (p := ⟨pb, 1, none⟩) hlt0).trans c1⟩
  have K2 : Hid (∀ wx, KT wr tk kb wx → wx.cell? ⟨pb, 0, none⟩ = some (.string s) ∧ wx.cell? ⟨pb, 1, none⟩ = some (.int .i64 j)) := fun wx hb => by
    have := (hP.keep hb.kp (fun e => hkp e.symm)).cells.1
    exact ⟨this.1, this.2.1⟩
  clear c0 c1 c2 c3 c4 f0 f1 f2 f3 f4
  go_region_held3 (fun wx => wx.cell? ⟨pb, 0, none⟩ = some (.string s) ∧ wx.cell? ⟨pb, 1, none⟩ = some (.int .i64 j)) (first | with_reducible exact KK.out _ hdr | with_reducible exact KK.out _ hb' | exact kt2 hkb hb' (Q := fun W => W.cell? ⟨pb, 0, none⟩ = some (.string s) ∧ W.cell? ⟨pb, 1, none⟩ = some (.int .i64 j)) (fun w2 h2 => K2.out w2 h2)) ((go_at_call 54; refine (HT.out _).mono ?_; rintro e w1 ⟨rfl, hb⟩; have hb' : Below wr.heap.size wr w1 := kb1 hb; have hz : w1.heap[kb]? = some (.cells (K4 tk0) 105 (0, 0)) := ((hb'.block _ hltk).trans hkb); have hz4 := cells4f hz; obtain ⟨⟨z0, z1, z2, z3⟩, y0, y1, y2, y3⟩ := hz4))
  all_goals
    go_wp2_with fail
    exact kt2 hkb hb' (Q := fun W => KT wr tk kb W) (fun w2 h2 => h2)
omit hs in
set_option maxRecDepth 1000000 in
set_option maxHeartbeats 16000000 in
theorem comma21 (pb kb j D : Nat) (wr0 bd : Int) (tk5 : Tk) (cm : Bool) (HCM : Hid (cm = ((bd == 0) && (tk5.kind == 4) && (tk5.t.toList == [44])))) (w9 : World) (hP9 : PD w9 pb s j wr0 bd D) (hk9 : w9.heap[kb]? = some (.cells (K4 tk5) 105 (0, 0))) (l1 l2 l3 l4 l5 l7 l8 l9 l10 l11 l12 l13 l14 l15 l16 l17 l18 l19 l20 l21 l22 l23 l24 l25 l26 l27 l28 l29 l30 l31 l32 l33 l34 l35 l36 l37 l38 l39 l40 l41 l42 l43 l44 l45 l46 l47 l48 l49 l50 l51 l52 l53 l54 l55 l56 l57 l58 l59 l60 l61 l62 l63 l64 l65 l66 l67 l68 l69 l70 l71 l72 l73 l74 l75 l76 l77 l78 l79 l80 l81 l82 l83 l84 l85 l86 l87 l88 l89 l90 l91 l92 l93 l94 l95 l96 l97 l98 l99 l100 l101 l102 l103 l104 l105 l106 l107 l108 l109 l110 l111 l112 l113 l114 l115 l116 l117 l118 l119 l120 l121 l122 l123 l124 l125 l126 l127 l128 l129 l130 l131 l132 l133 l134 l135 l136 l137 l138 l139 l140 l141 l142 l143 l144 l145 l146 l147 l148 l149 l150 l151 l152 l153 l154 l155 l156 l157 l158 l159 l160 l161 l162 l163 l164 l165 l166 l167 l168 l169 l170 : Value) (K : Act → World → Prop) (Q : Exit → Act → World → Prop) (hK : ∀ (x147 x148 x149 x150 x151 x152 x153 x154 x155 x156 x157 x158 x159 x160 : Value) (w' : World), w9 = w' → K ⟨#[ptr pb, l1, l2, l3, l4, l5, ptr kb, l7, l8, l9, l10, l11, l12, l13, l14, l15, l16, l17, l18, l19, l20, l21, l22, l23, l24, l25, l26, l27, l28, l29, l30, l31, l32, l33, l34, l35, l36, l37, l38, l39, l40, l41, l42, l43, l44, l45, l46, l47, l48, l49, l50, l51, l52, l53, l54, l55, l56, l57, l58, l59, l60, l61, l62, l63, l64, l65, l66, l67, l68, l69, l70, l71, l72, l73, l74, l75, l76, l77, l78, l79, l80, l81, l82, l83, l84, l85, l86, l87, l88, l89, l90, l91, l92, l93, l94, l95, l96, l97, l98, l99, l100, l101, l102, l103, l104, l105, l106, l107, l108, l109, l110, l111, l112, l113, l114, l115, l116, l117, l118, l119, l120, l121, l122, l123, l124, l125, l126, l127, l128, l129, l130, l131, l132, l133, l134, l135, l136, l137, l138, l139, l140, l141, l142, l143, l144, l145, l146, x147, x148, x149, x150, x151, x152, x153, x154, x155, x156, x157, x158, x159, x160, .bool cm, l162, l163, l164, l165, l166, l167, l168, l169, l170], []⟩ w') :
    Code.wp Tryz.prog reg21C (Exit.then K Q) ⟨#[ptr pb, l1, l2, l3, l4, l5, ptr kb, l7, l8, l9, l10, l11, l12, l13, l14, l15, l16, l17, l18, l19, l20, l21, l22, l23, l24, l25, l26, l27, l28, l29, l30, l31, l32, l33, l34, l35, l36, l37, l38, l39, l40, l41, l42, l43, l44, l45, l46, l47, l48, l49, l50, l51, l52, l53, l54, l55, l56, l57, l58, l59, l60, l61, l62, l63, l64, l65, l66, l67, l68, l69, l70, l71, l72, l73, l74, l75, l76, l77, l78, l79, l80, l81, l82, l83, l84, l85, l86, l87, l88, l89, l90, l91, l92, l93, l94, l95, l96, l97, l98, l99, l100, l101, l102, l103, l104, l105, l106, l107, l108, l109, l110, l111, l112, l113, l114, l115, l116, l117, l118, l119, l120, l121, l122, l123, l124, l125, l126, l127, l128, l129, l130, l131, l132, l133, l134, l135, l136, l137, l138, l139, l140, l141, l142, l143, l144, l145, l146, l147, l148, l149, l150, l151, l152, l153, l154, l155, l156, l157, l158, l159, l160, l161, l162, l163, l164, l165, l166, l167, l168, l169, l170], []⟩ w9 := by
  dsimp only at hK ⊢
  conv => arg 2; whnf
  obtain ⟨⟨c0, c1, c2, c3, c4⟩, f0, f1, f2, f3, f4⟩ := hP9.cells
  obtain ⟨⟨z0, z1, z2, z3⟩, y0, y1, y2, y3⟩ := cells4f hk9
  cases h1 : (bd == 0) with
  | false =>
    obtain rfl : cm = false := by rw [HCM.out, h1]; rfl
    clear HCM
    go_wp2_with fail
    rfl
  | true =>
    cases h2 : (tk5.kind == 4) with
    | false =>
      obtain rfl : cm = false := by rw [HCM.out, h1, h2]; rfl
      clear HCM
      go_wp2_with fail
      rfl
    | true =>
      cases h3 : (tk5.t.toList == [44]) with
      | false =>
        obtain rfl : cm = false := by rw [HCM.out, h1, h2, h3]; rfl
        clear HCM
        go_wp2_with fail
        rfl
      | true =>
        obtain rfl : cm = true := by rw [HCM.out, h1, h2, h3]; rfl
        clear HCM
        go_wp2_with fail
        rfl
end
end Go.Proofs.YtomgjjngkffbbaaGreatDoor.fm
/- The reference's argument list: is a box there? Conditions: as each theorem says. -/
namespace Go.Proofs.YtomgjjngkffbbaaGreatDoor.fm
open Go.RowKit
section
variable {s : ByteArray} (hs : s.size ≤ 200)
include hs
omit hs in
set_option maxRecDepth 1000000 in
set_option maxHeartbeats 16000000 in
theorem guard11 (pb kb j D : Nat) (wr0 bd : Int) (tk : Tk) (ok g : Bool) (HBD : Hid (g = ((tk.kind == 1) && ok && decide (nx s tk.e = 58)))) (w3 : World) (hP3 : PD w3 pb s j wr0 bd D) (hk3 : w3.heap[kb]? = some (.cells (K4 tk) 105 (0, 0))) (l1 l2 l3 l4 l5 l7 l9 l10 l11 l12 l13 l14 l15 l16 l17 l18 l19 l20 l21 l22 l23 l24 l25 l26 l27 l28 l29 l30 l31 l32 l33 l34 l35 l36 l37 l38 l39 l40 l41 l42 l43 l44 l45 l46 l47 l48 l49 l50 l51 l52 l53 l54 l55 l56 l57 l58 l59 l60 l61 l62 l63 l64 l65 l66 l67 l68 l69 l70 l71 l72 l73 l74 l75 l76 l77 l78 l79 l80 l81 l82 l83 l84 l85 l86 l87 l88 l89 l90 l91 l92 l93 l94 l95 l96 l97 l98 l99 l100 l101 l102 l103 l104 l105 l106 l107 l108 l109 l110 l111 l112 l113 l114 l115 l116 l117 l118 l119 l120 l121 l122 l123 l124 l125 l126 l127 l128 l129 l130 l131 l132 l133 l134 l135 l136 l137 l138 l139 l140 l141 l142 l143 l144 l145 l146 l147 l148 l149 l150 l151 l152 l153 l154 l155 l156 l157 l158 l159 l160 l161 l162 l163 l164 l165 l166 l167 l168 l169 l170 : Value) (K : Act → World → Prop) (Q : Exit → Act → World → Prop) (hK : ∀ (x62 x63 x64 x65 x66 x67 x68 x69 x70 x71 x72 x73 x74 x75 x76 x77 x78 x79 x80 x81 x82 x83 x84 x85 x86 : Value) (w' : World), Below w3.heap.size w3 w' → K ⟨#[ptr pb, l1, l2, l3, l4, l5, ptr kb, l7, .bool ok, l9, l10, l11, l12, l13, l14, l15, l16, l17, l18, l19, l20, l21, l22, l23, l24, l25, l26, l27, l28, l29, l30, l31, l32, l33, l34, l35, l36, l37, l38, l39, l40, l41, l42, l43, l44, l45, l46, l47, l48, l49, l50, l51, l52, l53, l54, l55, l56, l57, l58, l59, l60, l61, x62, x63, x64, x65, x66, x67, x68, x69, x70, x71, x72, x73, x74, x75, x76, x77, x78, x79, x80, x81, x82, x83, x84, x85, x86, .bool g, l88, l89, l90, l91, l92, l93, l94, l95, l96, l97, l98, l99, l100, l101, l102, l103, l104, l105, l106, l107, l108, l109, l110, l111, l112, l113, l114, l115, l116, l117, l118, l119, l120, l121, l122, l123, l124, l125, l126, l127, l128, l129, l130, l131, l132, l133, l134, l135, l136, l137, l138, l139, l140, l141, l142, l143, l144, l145, l146, l147, l148, l149, l150, l151, l152, l153, l154, l155, l156, l157, l158, l159, l160, l161, l162, l163, l164, l165, l166, l167, l168, l169, l170], []⟩ w') :
    Code.wp Tryz.prog reg11C (Exit.then K Q) ⟨#[ptr pb, l1, l2, l3, l4, l5, ptr kb, l7, .bool ok, l9, l10, l11, l12, l13, l14, l15, l16, l17, l18, l19, l20, l21, l22, l23, l24, l25, l26, l27, l28, l29, l30, l31, l32, l33, l34, l35, l36, l37, l38, l39, l40, l41, l42, l43, l44, l45, l46, l47, l48, l49, l50, l51, l52, l53, l54, l55, l56, l57, l58, l59, l60, l61, l62, l63, l64, l65, l66, l67, l68, l69, l70, l71, l72, l73, l74, l75, l76, l77, l78, l79, l80, l81, l82, l83, l84, l85, l86, l87, l88, l89, l90, l91, l92, l93, l94, l95, l96, l97, l98, l99, l100, l101, l102, l103, l104, l105, l106, l107, l108, l109, l110, l111, l112, l113, l114, l115, l116, l117, l118, l119, l120, l121, l122, l123, l124, l125, l126, l127, l128, l129, l130, l131, l132, l133, l134, l135, l136, l137, l138, l139, l140, l141, l142, l143, l144, l145, l146, l147, l148, l149, l150, l151, l152, l153, l154, l155, l156, l157, l158, l159, l160, l161, l162, l163, l164, l165, l166, l167, l168, l169, l170], []⟩ w3 := by
  dsimp only at hK ⊢
  conv => arg 2; whnf
  obtain ⟨⟨c0, c1, c2, c3, c4⟩, f0, f1, f2, f3, f4⟩ := hP3.cells
  obtain ⟨⟨z0, z1, z2, z3⟩, y0, y1, y2, y3⟩ := cells4f hk3
  cases hk1' : (tk.kind == 1) with
  | false =>
    obtain rfl : g = false := by rw [HBD.out, hk1']; rfl
    clear HBD
    go_quiet (fail)
    go_wp2_with fail
    exact below_drewN (Below.refl _ _) _
  | true =>
    cases ok with
    | false =>
      obtain rfl : g = false := by rw [HBD.out, hk1']; rfl
      clear HBD
      go_quiet (fail)
      go_wp2_with fail
      exact below_drewN (Below.refl _ _) _
    | true =>
      by_cases hl : tk.e < s.size
      · have hl' : (tk.e : Int) < (s.size : Int) := by omega
        have hnn : (0 : Int) ≤ (tk.e : Int) := by omega
        have hb : (((s[tk.e].toNat : Nat) : Int) == 58) = g := by
          rw [HBD.out, hk1', nx_in hl, Bool.eq_iff_iff, beq_iff_eq]
          simp
          omega
        clear HBD
        go_quiet (fail)
        go_wp2_with fail
        exact below_drewN (Below.refl _ _) _
      · have hl' : ¬ (tk.e : Int) < (s.size : Int) := by omega
        obtain rfl : g = false := by rw [HBD.out, nx_out hl]; simp
        clear HBD
        go_quiet (fail)
        go_wp2_with fail
        exact below_drewN (Below.refl _ _) _
omit hs in
set_option maxRecDepth 1000000 in
set_option maxHeartbeats 16000000 in
theorem loose_arm (pb ab j D : Nat) (wr0 : Int) (A : Rs T) (w4 : World) (hex : ∀ w1, PD w1 pb s j wr0 0 D → Calls Tryz.prog 53 #[ptr pb, .int .i64 1] w1 (OutR w1 pb s D wr0 A)) (hP4 : PD w4 pb s j wr0 0 D) (hab4 : w4.heap[ab]? = some (.cells NZ 77 (0, 0))) (hap : ab ≠ pb) (hab : ab < w4.heap.size) (l1 l2 l3 l4 l5 l6 l7 l8 l10 l11 l12 l13 l14 l15 l16 l17 l18 l19 l20 l21 l22 l23 l24 l25 l26 l27 l28 l29 l30 l31 l32 l33 l34 l35 l36 l37 l38 l39 l40 l41 l42 l43 l44 l45 l46 l47 l48 l49 l50 l51 l52 l53 l54 l55 l56 l57 l58 l59 l60 l61 l62 l63 l64 l65 l66 l67 l68 l69 l70 l71 l72 l73 l74 l75 l76 l77 l78 l79 l80 l81 l82 l83 l84 l85 l86 l88 l89 l90 l91 l92 l93 l94 l95 l96 l97 l98 l99 l100 l101 l102 l103 l104 l105 l106 l107 l108 l109 l110 l111 l112 l113 l114 l115 l116 l117 l118 l119 l120 l121 l122 l123 l124 l125 l126 l127 l128 l129 l130 l131 l132 l133 l134 l135 l136 l137 l138 l139 l140 l141 l142 l143 l144 l145 l146 l147 l148 l149 l150 l151 l152 l153 l154 l155 l156 l157 l158 l159 l160 l161 l162 l163 l164 l165 l166 l167 l168 l169 l170 : Value) (K : Act → World → Prop) (Q : Exit → Act → World → Prop) (hK : ∀ (x130 x131 : Value) (w' : World), JR w4 pb ab s D wr0 A w' → K ⟨#[ptr pb, l1, l2, l3, l4, l5, l6, l7, l8, .pointer (some ⟨ab, 0, none⟩), l10, l11, l12, l13, l14, l15, l16, l17, l18, l19, l20, l21, l22, l23, l24, l25, l26, l27, l28, l29, l30, l31, l32, l33, l34, l35, l36, l37, l38, l39, l40, l41, l42, l43, l44, l45, l46, l47, l48, l49, l50, l51, l52, l53, l54, l55, l56, l57, l58, l59, l60, l61, l62, l63, l64, l65, l66, l67, l68, l69, l70, l71, l72, l73, l74, l75, l76, l77, l78, l79, l80, l81, l82, l83, l84, l85, l86, .bool false, l88, l89, l90, l91, l92, l93, l94, l95, l96, l97, l98, l99, l100, l101, l102, l103, l104, l105, l106, l107, l108, l109, l110, l111, l112, l113, l114, l115, l116, l117, l118, l119, l120, l121, l122, l123, l124, l125, l126, l127, l128, l129, x130, x131, l132, l133, l134, l135, l136, l137, l138, l139, l140, l141, l142, l143, l144, l145, l146, l147, l148, l149, l150, l151, l152, l153, l154, l155, l156, l157, l158, l159, l160, l161, l162, l163, l164, l165, l166, l167, l168, l169, l170], []⟩ w') :
    Code.wp Tryz.prog boxC (Exit.then K Q) ⟨#[ptr pb, l1, l2, l3, l4, l5, l6, l7, l8, .pointer (some ⟨ab, 0, none⟩), l10, l11, l12, l13, l14, l15, l16, l17, l18, l19, l20, l21, l22, l23, l24, l25, l26, l27, l28, l29, l30, l31, l32, l33, l34, l35, l36, l37, l38, l39, l40, l41, l42, l43, l44, l45, l46, l47, l48, l49, l50, l51, l52, l53, l54, l55, l56, l57, l58, l59, l60, l61, l62, l63, l64, l65, l66, l67, l68, l69, l70, l71, l72, l73, l74, l75, l76, l77, l78, l79, l80, l81, l82, l83, l84, l85, l86, .bool false, l88, l89, l90, l91, l92, l93, l94, l95, l96, l97, l98, l99, l100, l101, l102, l103, l104, l105, l106, l107, l108, l109, l110, l111, l112, l113, l114, l115, l116, l117, l118, l119, l120, l121, l122, l123, l124, l125, l126, l127, l128, l129, l130, l131, l132, l133, l134, l135, l136, l137, l138, l139, l140, l141, l142, l143, l144, l145, l146, l147, l148, l149, l150, l151, l152, l153, l154, l155, l156, l157, l158, l159, l160, l161, l162, l163, l164, l165, l166, l167, l168, l169, l170], []⟩ w4 := by
  dsimp only at hK ⊢
  conv => arg 2; whnf
  have HEX : Hid _ := hex
  clear hex
  go_wp2_with fail
  go_at_call 53
  refine (HEX.out _ hP4).mono ?_
  intro e w5 ho
  obtain ⟨a1, n1, s1, r1, t1, p1, m1, e1, u, j5, wr', bd, rfl, hN, hP5, hj5, hK5, hX⟩ := ho.open
  have HX2 : Hid _ := hX
  clear hX ho
  have hab5 := hK5.blk hab4 hap
  obtain ⟨⟨d0, d1, d2, d3, d4, d5, d6, d7, d8, d9, d10, d11⟩, df⟩ := cells12 hab5
  go_wp2_with fail
  clear d0 d1 d2 d3 d4 d5 d6 d7 d8 d9 d10 d11 df
  refine fin12 hab5 (Q := fun W => JR w4 pb ab s D wr0 A W) ?_
  intro w9 hq9 hk9
  refine ⟨a1, n1, s1, r1, t1, p1, m1, e1, u, j5, wr', bd, hq9, ?_, hP5.keep hk9 (fun e => hap e.symm), hj5, (hK5.mono (fun n _ e => Or.inl e)).trans hk9 (fun n e => .inl (.inr e)), HX2.out⟩
  exact hN.mono (fun n hn => hk9.block n hn.2 (by have := hn.1; omega)) (fun n hn => ⟨hn.1, Nat.lt_of_lt_of_le hn.2 hk9.size⟩)
end
end Go.Proofs.YtomgjjngkffbbaaGreatDoor.fm
