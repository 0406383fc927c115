/- The law EvalLogic, walked: what it returns. Conditions: what lies in its blocks. -/
import Derived.Test.YtoaejcppfmjhdaaGreatDoorQd
import Derived.Test.YtoaejcppfmjhdaaGreatDoorEy
namespace Go.Proofs.YtoaejcppfmjhdaaGreatDoor.ov
open Go.RowKit
open ev (VV b2I LS cells3v findTail)
open fm (NV N12)
noncomputable def tail27C : Code := ((Tryz.f7.body.bind (findTail 27)).getD .skip)
set_option maxRecDepth 1000000 in
set_option maxHeartbeats 16000000 in
theorem tail27 (B : Nat) (w0 : World) (pl pa : Option Addr) (q cl qa ca : Nat) (ak an bk bn rk rn sk sn : Int) (az bz rz sz : ByteArray) (w : World) (hB0 : Below B w0 w) (hBs : B ≤ w.heap.size) (ba bb bA br : Nat)
    (HCase : Hid ((sk = 4 ∧ rk = sk ∧ rn = sn ∧ rz = sz) ∨ (sk = 3 ∧ ((sn = 1 ∧ rk = ak ∧ rn = an ∧ rz = az) ∨ (sn = 0 ∧ rk = bk ∧ rn = bn ∧ rz = bz)))))
    (HWs : Hid (∀ wx, Below w.heap.size w wx → Calls Tryz.prog 14 #[NV 9 0 nmAnd .z .z (.slice pa qa ca), .slice pl (q + 2) cl] wx fun e w' => e = .returned (.tuple #[VV sk sn sz, .bool true]) ∧ Below wx.heap.size wx w'))
    (wb : World) (hS : LS w [(br, #[.int .i64 rk, .int .i64 rn, .string rz], 31), (bA, fm.N12 9 0 nmAnd .z .z (.slice pa qa ca), 28), (ba, #[.int .i64 ak, .int .i64 an, .string az], 31), (bb, #[.int .i64 bk, .int .i64 bn, .string bz], 31)] wb)
    (l0 l1 l2 l3 l6 l7 l8 l9 l10 l11 l13 l14 l15 l16 l17 l18 l20 l21 l22 l23 l26 l27 l28 l29 l30 l31 l32 l33 l34 l35 l36 l37 l38 l39 l40 l41 l42 l43 l44 l45 l46 l47 l48 l49 l50 l51 l52 l53 l54 l55 l56 l57 l58 l59 l60 l61 l62 l63 l64 l65 l66 l67 l68 l69 l70 l71 l72 l73 l74 l75 l76 l77 l78 l79 l80 l81 l82 l83 l84 l85 l86 l87 l88 l89 l90 l91 l92 l93 l94 l95 l96 l97 l98 l99 l100 l101 l102 l103 l104 l105 l106 l107 l108 l109 l110 l111 l112 l113 l114 l115 l116 l117 l118 l119 l120 l121 l122 l123 l124 l125 l126 l127 l128 l129 l130 l131 l132 l133 l134 l135 l136 l137 l138 l139 l140 l141 l142 l143 l144 l145 l146 l147 l148 l149 l150 l151 l152 l153 l154 l155 l156 l157 l158 l159 l160 l161 l162 l163 l164 l165 l166 l167 l168 l169 l170 l171 l172 l173 l174 l175 l176 l177 l178 l179 l180 l181 l182 l183 l184 l185 l186 l187 l188 l189 l190 l191 l192 l193 l194 l195 : Value) :
    Code.wp Tryz.prog tail27C (bodyPost Tryz.prog Tryz.f7 fun e w' => e = .returned (.bool true) ∧ Below B w0 w') ⟨#[l0, l1, l2, l3, .pointer (some ⟨ba, 0, none⟩), .pointer (some ⟨bb, 0, none⟩), l6, l7, l8, l9, l10, l11, .slice pl (q + 2) cl, l13, l14, l15, l16, l17, l18, .pointer (some ⟨bA, 0, none⟩), l20, l21, l22, l23, .pointer (some ⟨br, 0, none⟩), .bool true, l26, l27, l28, l29, l30, l31, l32, l33, l34, l35, l36, l37, l38, l39, l40, l41, l42, l43, l44, l45, l46, l47, l48, l49, l50, l51, l52, l53, l54, l55, l56, l57, l58, l59, l60, l61, l62, l63, l64, l65, l66, l67, l68, l69, l70, l71, l72, l73, l74, l75, l76, l77, l78, l79, l80, l81, l82, l83, l84, l85, l86, l87, l88, l89, l90, l91, l92, l93, l94, l95, l96, l97, l98, l99, l100, l101, l102, l103, l104, l105, l106, l107, l108, l109, l110, l111, l112, l113, l114, l115, l116, l117, l118, l119, l120, l121, l122, l123, l124, l125, l126, l127, l128, l129, l130, l131, l132, l133, l134, l135, l136, l137, l138, l139, l140, l141, l142, l143, l144, l145, l146, l147, l148, l149, l150, l151, l152, l153, l154, l155, l156, l157, l158, l159, l160, l161, l162, l163, l164, l165, l166, l167, l168, l169, l170, l171, l172, l173, l174, l175, l176, l177, l178, l179, l180, l181, l182, l183, l184, l185, l186, l187, l188, l189, l190, l191, l192, l193, l194, l195], []⟩ wb := by
  dsimp only
  conv => arg 2; whnf
  have hg31 : Tryz.prog.eqGuardType Tryz.prog.depth 31 = false := by kernel_rfl
  have HS0 : Hid (LS w [(br, #[.int .i64 rk, .int .i64 rn, .string rz], 31), (bA, fm.N12 9 0 nmAnd .z .z (.slice pa qa ca), 28), (ba, #[.int .i64 ak, .int .i64 an, .string az], 31), (bb, #[.int .i64 bk, .int .i64 bn, .string bz], 31)] wb) := hS
  have HB : Hid (∀ wx, Below w.heap.size w wx → Below B w0 wx) := fun wx h => hB0.trans (h.mono hBs)
  obtain ⟨⟨x0, x1, x2, x3, x4, x5, x6, x7, x8, x9, x10, x11⟩, -⟩ := fm.cells12 (hS.blks (bA, fm.N12 9 0 nmAnd .z .z (.slice pa qa ca), 28) (by simp))
  clear hS hB0 hBs
  go_wp2_with fail
  refine (HWs.out _ HS0.out.below).mono ?_
  clear x0 x1 x2 x3 x4 x5 x6 x7 x8 x9 x10 x11
  rintro e w1 ⟨rfl, hb1⟩
  have HS1 : Hid (LS w ((w1.heap.size, #[.int .i64 sk, .int .i64 sn, .string sz], 31) :: [(br, #[.int .i64 rk, .int .i64 rn, .string rz], 31), (bA, fm.N12 9 0 nmAnd .z .z (.slice pa qa ca), 28), (ba, #[.int .i64 ak, .int .i64 an, .string az], 31), (bb, #[.int .i64 bk, .int .i64 bn, .string bz], 31)]) (w1.alloc (.cells #[.int .i64 sk, .int .i64 sn, .string sz] 31))) := (HS0.out.next hb1).alloc _ _
  have hbl := HS1.out.below
  obtain ⟨s0, s1, s2⟩ := cells3v (HS1.out.blks (w1.heap.size, #[.int .i64 sk, .int .i64 sn, .string sz], 31) (by simp))
  obtain ⟨r0, r1, r2⟩ := cells3v (HS1.out.blks (br, #[.int .i64 rk, .int .i64 rn, .string rz], 31) (by simp))
  obtain ⟨a0, a1, a2⟩ := cells3v (HS1.out.blks (ba, #[.int .i64 ak, .int .i64 an, .string az], 31) (by simp))
  obtain ⟨b0, b1, b2⟩ := cells3v (HS1.out.blks (bb, #[.int .i64 bk, .int .i64 bn, .string bz], 31) (by simp))
  have HBL : Hid (Below B w0 (w1.alloc (.cells #[.int .i64 sk, .int .i64 sn, .string sz] 31))) := HB.out _ hbl
  have e31 : ∀ (k n : Int) (s : ByteArray) (W : World), (binOp BinOp.eql 31 (VV k n s) (VV k n s)).run Tryz.prog W = .ok (.bool true) W := ev.eql31
  clear hb1 HS0 HS1 hbl HB
  rcases HCase.out with ⟨rfl, rfl, rfl, rfl⟩ | ⟨rfl, ⟨rfl, rfl, rfl, rfl⟩ | ⟨rfl, rfl, rfl, rfl⟩⟩
  · clear HCase
    go_wp2_with fail
    go_ret
    exact ⟨rfl, HBL.out⟩
  · clear HCase
    go_wp2_with fail
    go_ret
    exact ⟨rfl, HBL.out⟩
  · clear HCase
    go_wp2_with fail
    go_ret
    exact ⟨rfl, HBL.out⟩
end Go.Proofs.YtoaejcppfmjhdaaGreatDoor.ov
/- The law EvalLogic, walked: what IF chooses. Conditions: what lies in its blocks. -/
namespace Go.Proofs.YtoaejcppfmjhdaaGreatDoor.ov
open Go.RowKit
open ev (VV b2I LS cells3v findTail frz)
open fm (NV N12)
abbrev BL := List (Nat × Array Value × TypeId)
/-- A block that is zero yet, beside others. -/
structure ZB (w : World) (L : BL) (wx : World) (b : Nat) : Prop where
  blk : wx.heap[b]? = some (.cells #[.int .i64 0, .int .i64 0, .string nul] 31 (0, 0))
  le : w.heap.size ≤ b
  ne : ∀ x ∈ L, x.1 < b
theorem zb_here {w X : World} {L : BL} (h : LS w L X) : ZB w L (X.alloc (.cells #[.int .i64 0, .int .i64 0, .string nul] 31)) X.heap.size := ⟨heap_alloc_new _ _, h.below.size, fun x hx => fm.lt_blk (h.blks x hx)⟩
theorem zb_alloc {w X : World} {L : BL} {b : Nat} (h : ZB w L X b) (o : Obj) : ZB w L (X.alloc o) b := ⟨(Below.heap_alloc _ _ _ (fm.lt_blk h.blk)).trans h.blk, h.le, h.ne⟩
theorem zb_next {w X Y : World} {L : BL} {b : Nat} (h : ZB w L X b) (q : Below X.heap.size X Y) : ZB w L Y b := ⟨(q.block _ (fm.lt_blk h.blk)).trans h.blk, h.le, h.ne⟩
theorem zb_nextn {w X Y : World} {L : BL} {b n : Nat} (h : ZB w L X b) (q : Below n X Y) (hn : b < n) : ZB w L Y b := ⟨(q.block _ hn).trans h.blk, h.le, h.ne⟩
theorem ls_setz {w X : World} {L : BL} {b : Nat} (h : LS w L X) (hz : ZB w L X b) (u0 u1 u2 : Value) : LS w ((b, #[u0, u1, u2], 31) :: L) (((X.setCell ⟨b, 0, none⟩ u0).setCell ⟨b, 1, none⟩ u1).setCell ⟨b, 2, none⟩ u2) := by
  obtain ⟨w2, hw2, hq2, hk2, he2, -⟩ := set3_ex hz.blk u0 u1 u2
  rw [hw2]
  refine ⟨fun x hx => ?_, h.below.trans (hk2 _ hz.le)⟩
  rcases List.mem_cons.1 hx with rfl | hx
  · exact hq2
  · rw [he2 x.1 (Nat.ne_of_lt (hz.ne x hx))]; exact h.blks x hx
/-- A block of nodes. -/
def NB (cs : Array Value) (wx : World) (g : Nat) : Prop := wx.heap[g]? = some (.cells cs 28 (0, 0))
theorem nb_here {cs : Array Value} {X : World} : NB cs (X.alloc (.cells cs 28)) X.heap.size := heap_alloc_new _ _
theorem nb_alloc {cs : Array Value} {X : World} {g : Nat} (h : NB cs X g) (o : Obj) : NB cs (X.alloc o) g := (Below.heap_alloc _ _ _ (fm.lt_blk h)).trans h
theorem nb_next {cs : Array Value} {X Y : World} {g : Nat} (h : NB cs X g) (q : Below X.heap.size X Y) : NB cs Y g := (q.block _ (fm.lt_blk h)).trans h
/-- The nodes of IF's call. -/
def b36 (pa : Option Addr) (qa ca : Nat) : Array Value := #[.int .i64 9, .int .i64 0, .string nmAnd, .int .i64 0, .int .i64 0, .bool false, .bool false, .int .i64 0, .int .i64 0, .bool false, .bool false, .slice pa qa ca, .int .i64 5, .int .i64 0, .string nul, .int .i64 2, .int .i64 1, .bool false, .bool false, .int .i64 0, .int .i64 0, .bool false, .bool false, .slice none 0 0, .int .i64 5, .int .i64 0, .string nul, .int .i64 3, .int .i64 1, .bool false, .bool false, .int .i64 0, .int .i64 0, .bool false, .bool false, .slice none 0 0]
theorem nb36 {pa : Option Addr} {qa ca : Nat} {X : World} : NB (b36 pa qa ca) (X.alloc (.cells #[.int .i64 9, .int .i64 0, .string nmAnd, .int .i64 0, .int .i64 0, .bool false, .bool false, .int .i64 0, .int .i64 0, .bool false, .bool false, .slice pa qa ca, .int .i64 5, .int .i64 0, .string nul, .int .i64 2, .int .i64 1, .bool false, .bool false, .int .i64 0, .int .i64 0, .bool false, .bool false, .slice none 0 0, .int .i64 5, .int .i64 0, .string nul, .int .i64 3, .int .i64 1, .bool false, .bool false, .int .i64 0, .int .i64 0, .bool false, .bool false, .slice none 0 0] 28)) X.heap.size := heap_alloc_new _ _
/-- The node AND in its block, opened. -/
abbrev AO (w : World) (L : BL) (bA : Nat) (pa : Option Addr) (qa ca : Nat) (wx : World) : Prop :=
  wx.cell? ⟨bA, 0, none⟩ = some (.int .i64 9) ∧ wx.cell? ⟨bA, 1, none⟩ = some (.int .i64 0) ∧ wx.cell? ⟨bA, 2, none⟩ = some (.string nmAnd) ∧ wx.cell? ⟨bA, 3, none⟩ = some (.int .i64 0) ∧ wx.cell? ⟨bA, 4, none⟩ = some (.int .i64 0) ∧ wx.cell? ⟨bA, 5, none⟩ = some (.bool false) ∧ wx.cell? ⟨bA, 6, none⟩ = some (.bool false) ∧ wx.cell? ⟨bA, 7, none⟩ = some (.int .i64 0) ∧ wx.cell? ⟨bA, 8, none⟩ = some (.int .i64 0) ∧ wx.cell? ⟨bA, 9, none⟩ = some (.bool false) ∧ wx.cell? ⟨bA, 10, none⟩ = some (.bool false) ∧ wx.cell? ⟨bA, 11, none⟩ = some (.slice pa qa ca) ∧ LS w L wx
theorem ao {w : World} {L : BL} {bA : Nat} {pa : Option Addr} {qa ca : Nat} {wx : World} (h : LS w L wx) (hm : (bA, fm.N12 9 0 nmAnd .z .z (.slice pa qa ca), 28) ∈ L) : AO w L bA pa qa ca wx := by
  obtain ⟨⟨x0, x1, x2, x3, x4, x5, x6, x7, x8, x9, x10, x11⟩, -⟩ := fm.cells12 (h.blks _ hm)
  exact ⟨x0, x1, x2, x3, x4, x5, x6, x7, x8, x9, x10, x11, h⟩
theorem aol {w : World} {L : BL} {bA : Nat} {pa : Option Addr} {qa ca : Nat} {wx : World} (h : AO w L bA pa qa ca wx) : LS w L wx := h.2.2.2.2.2.2.2.2.2.2.2.2
theorem ls_al {w wx : World} {L : BL} (h : LS w L wx) (cs : Array Value) (t : TypeId) : LS w L (wx.alloc (.cells cs t)) := (h.alloc cs t).sub (fun _ hx => List.mem_cons_of_mem _ hx)
noncomputable def tail26C : Code := ((Tryz.f7.body.bind (findTail 26)).getD .skip)
set_option maxRecDepth 1000000 in
set_option maxHeartbeats 32000000 in
theorem tail26 (B : Nat) (w0 : World) (pl pa : Option Addr) (q cl qa ca : Nat) (ak an bk bn rk rn sk sn : Int) (az bz rz sz : ByteArray) (w : World) (hB0 : Below B w0 w) (hBs : B ≤ w.heap.size) (ba bb bA : Nat)
    (HCase : Hid ((sk = 4 ∧ rk = sk ∧ rn = sn ∧ rz = sz) ∨ (sk = 3 ∧ ((sn = 1 ∧ rk = ak ∧ rn = an ∧ rz = az) ∨ (sn = 0 ∧ rk = bk ∧ rn = bn ∧ rz = bz)))))
    (HWs : Hid (∀ wx, Below w.heap.size w wx → Calls Tryz.prog 14 #[NV 9 0 nmAnd .z .z (.slice pa qa ca), .slice pl (q + 2) cl] wx fun e w' => e = .returned (.tuple #[VV sk sn sz, .bool true]) ∧ Below wx.heap.size wx w'))
    (HIf : Hid (∀ wx g, Below w.heap.size w wx → NB (b36 pa qa ca) wx g → Calls Tryz.prog 14 #[NV 9 0 nmIf .z .z (.slice (some ⟨g, 0, none⟩) 3 3), .slice pl (q + 2) cl] wx fun e w' => e = .returned (.tuple #[VV rk rn rz, .bool true]) ∧ Below wx.heap.size wx w'))
    (wb : World) (hS : LS w [(bA, fm.N12 9 0 nmAnd .z .z (.slice pa qa ca), 28), (ba, #[.int .i64 ak, .int .i64 an, .string az], 31), (bb, #[.int .i64 bk, .int .i64 bn, .string bz], 31)] wb)
    (l0 l1 l2 l3 l6 l7 l8 l9 l10 l11 l13 l14 l15 l16 l17 l18 l20 l21 l22 l23 l24 l25 l26 l27 l28 l29 l30 l31 l32 l33 l34 l35 l36 l37 l38 l39 l40 l41 l42 l43 l44 l45 l46 l47 l48 l49 l50 l51 l52 l53 l54 l55 l56 l57 l58 l59 l60 l61 l62 l63 l64 l65 l66 l67 l68 l69 l70 l71 l72 l73 l74 l75 l76 l77 l78 l79 l80 l81 l82 l83 l84 l85 l86 l87 l88 l89 l90 l91 l92 l93 l94 l95 l96 l97 l98 l99 l100 l101 l102 l103 l104 l105 l106 l107 l108 l109 l110 l111 l112 l113 l114 l115 l116 l117 l118 l119 l120 l121 l122 l123 l124 l125 l126 l127 l128 l129 l130 l131 l132 l133 l134 l135 l136 l137 l138 l139 l140 l141 l142 l143 l144 l145 l146 l147 l148 l149 l150 l151 l152 l153 l154 l155 l156 l157 l158 l159 l160 l161 l162 l163 l164 l165 l166 l167 l168 l169 l170 l171 l172 l173 l174 l175 l176 l177 l178 l179 l180 l181 l182 l183 l184 l185 l186 l187 l188 l189 l190 l191 l192 l193 l194 l195 : Value) :
    Code.wp Tryz.prog tail26C (bodyPost Tryz.prog Tryz.f7 fun e w' => e = .returned (.bool true) ∧ Below B w0 w') ⟨#[l0, l1, l2, l3, .pointer (some ⟨ba, 0, none⟩), .pointer (some ⟨bb, 0, none⟩), l6, l7, l8, l9, l10, l11, .slice pl (q + 2) cl, l13, l14, l15, l16, l17, l18, .pointer (some ⟨bA, 0, none⟩), l20, l21, l22, l23, l24, l25, l26, l27, l28, l29, l30, l31, l32, l33, l34, l35, l36, l37, l38, l39, l40, l41, l42, l43, l44, l45, l46, l47, l48, l49, l50, l51, l52, l53, l54, l55, l56, l57, l58, l59, l60, l61, l62, l63, l64, l65, l66, l67, l68, l69, l70, l71, l72, l73, l74, l75, l76, l77, l78, l79, l80, l81, l82, l83, l84, l85, l86, l87, l88, l89, l90, l91, l92, l93, l94, l95, l96, l97, l98, l99, l100, l101, l102, l103, l104, l105, l106, l107, l108, l109, l110, l111, l112, l113, l114, l115, l116, l117, l118, l119, l120, l121, l122, l123, l124, l125, l126, l127, l128, l129, l130, l131, l132, l133, l134, l135, l136, l137, l138, l139, l140, l141, l142, l143, l144, l145, l146, l147, l148, l149, l150, l151, l152, l153, l154, l155, l156, l157, l158, l159, l160, l161, l162, l163, l164, l165, l166, l167, l168, l169, l170, l171, l172, l173, l174, l175, l176, l177, l178, l179, l180, l181, l182, l183, l184, l185, l186, l187, l188, l189, l190, l191, l192, l193, l194, l195], []⟩ wb := by
  dsimp only
  conv => arg 2; whnf
  have H19 : Hid (∀ c r wx, Calls Tryz.prog 19 #[.int .i64 c, .int .i64 r] wx fun e w' => e = .returned (.agg #[.int .i64 c, .int .i64 r]) ∧ Below wx.heap.size wx w') := ev.lat
  have H15 : Hid (∀ nm p q c wx, Calls Tryz.prog 15 #[.string nm, .slice p q c] wx fun e w' => e = .returned (NV 9 0 nm .z .z (.slice p q c)) ∧ Below wx.heap.size wx w') := ev.lcall
  obtain ⟨L, hL⟩ : ∃ L : BL, [(bA, fm.N12 9 0 nmAnd .z .z (.slice pa qa ca), 28), (ba, #[.int .i64 ak, .int .i64 an, .string az], 31), (bb, #[.int .i64 bk, .int .i64 bn, .string bz], 31)] = L := ⟨_, rfl⟩
  have HL : Hid ([(bA, fm.N12 9 0 nmAnd .z .z (.slice pa qa ca), 28), (ba, #[.int .i64 ak, .int .i64 an, .string az], 31), (bb, #[.int .i64 bk, .int .i64 bn, .string bz], 31)] = L) := hL
  have HM : Hid ((bA, fm.N12 9 0 nmAnd .z .z (.slice pa qa ca), 28) ∈ L) := by rw [← hL]; exact List.mem_cons_self
  rw [hL] at hS
  have ho : ∀ wx, LS w L wx → AO w L bA pa qa ca wx := fun wx h => ao h HM.out
  have h0d := ho _ (show LS w L wb.drew from ⟨hS.blks, hS.below.drew⟩)
  obtain ⟨y0, y1, y2, y3, y4, y5, y6, y7, y8, y9, y10, y11, -⟩ := ho _ hS
  have HSd : Hid (LS w L wb.drew) := aol h0d
  clear hL hS
  go_upto_region 26 with fail
  go_cut [24, 25] (fun s24 s25 wx => ∃ br, s24 = .pointer (some ⟨br, 0, none⟩) ∧ s25 = .bool true ∧ LS w ((br, #[.int .i64 rk, .int .i64 rn, .string rz], 31) :: L) wx)
  case first =>
    go_region_held3 (fun wx => AO w L bA pa qa ca wx) (first | exact h0d | exact ho _ ((aol (by assumption)).next (by assumption)) | exact ho _ (ls_al (aol (by assumption)) _ _) | exact ho _ (ls_al (Hid.out (p := LS w L _) (by assumption)) _ _) | exact ho _ (ls_al (ls_al (aol (by assumption)) _ _) _ _) | exact ho _ ((ls_setz (Hid.out (p := LS w L _) (by assumption)) (by assumption) _ _ _).sub (fun _ hx => List.mem_cons_of_mem _ hx)) | exact ho _ ((ls_setz (aol (by assumption)) (by assumption) _ _ _).sub (fun _ hx => List.mem_cons_of_mem _ hx)) | exact ho _ ((ls_setz (ls_al (aol (by assumption)) _ _) (zb_here (aol (by assumption))) _ _ _).sub (fun _ hx => List.mem_cons_of_mem _ hx)))
      (first
        | (go_at_call 19; refine (H19.out _ _ _).mono ?_; rintro e w3 ⟨rfl, q3⟩; have K3 : Hid (LS w L w3) := (aol (by assumption)).next q3; (first | (have hz3 := zb_next (L := L) (w := w) (by assumption) q3) | (have hz3 := zb_next (zb_here (aol (by assumption))) q3) | (have hz3 := zb_next (zb_here (Hid.out (p := LS w L _) (by assumption))) q3) | (have hz3 := zb_nextn (zb_here HSd.out) q3 (show wb.heap.size < _ by simp)) | skip))
        | (go_at_call 15; refine (H15.out _ _ _ _ _).mono ?_; rintro e w4 ⟨rfl, q4⟩; have K4 : Hid (LS w L w4) := (aol (by assumption)).next q4; (first | (have hn4 := nb_next nb36 q4) | (have hn4 := nb_next (nb_alloc nb36 _) q4)); (try simp only [World.size_alloc] at hn4); (first | (have hz4 := zb_next (L := L) (w := w) (zb_alloc (by assumption) _) q4) | (have hz4 := zb_next (zb_alloc (zb_here (aol (by assumption))) _) q4) | (have hz4 := zb_next (zb_here (ls_al (aol (by assumption)) _ _)) q4) | (have hz4 := zb_next (zb_alloc (zb_here (Hid.out (p := LS w L _) (by assumption))) _) q4) | (have hz4 := zb_next (zb_here (ls_al (Hid.out (p := LS w L _) (by assumption)) _ _)) q4) | skip))
        | (go_at_call 14; (first | (refine (HIf.out _ _ (aol (by assumption)).below (by assumption)).mono ?_) | (refine (HIf.out _ _ (aol (by assumption)).below (nb_alloc (by assumption) _)).mono ?_)); rintro e w5 ⟨rfl, q5⟩; have K5 : Hid (LS w L w5) := (aol (by assumption)).next q5; (first | (have hz5 := zb_next (L := L) (w := w) (by assumption) q5) | (have hz5 := zb_next (zb_here (aol (by assumption))) q5) | (have hz5 := zb_next (zb_here (Hid.out (p := LS w L _) (by assumption))) q5) | skip); (first | ((try rw [show wb.drew.heap.size = wb.heap.size from rfl] at hz5); (try simp only [World.size_alloc] at hz5); obtain ⟨z0, z1, z2⟩ := cells3v hz5.blk; have zf := frz hz5.blk) | skip)))
    all_goals
      go_wp2_with fail
      go_meet
      case rel => first | exact ⟨_, rfl, rfl, ls_setz K5.out hz5 _ _ _⟩ | exact ⟨_, rfl, rfl, K5.out.alloc _ _⟩
  case rest =>
  clear h0d y0 y1 y2 y3 y4 y5 y6 y7 y8 y9 y10 y11 ho HSd
  obtain ⟨br, rfl, rfl, hs⟩ := hcut
  rw [← HL.out] at hs
  apply_assumption
  exact tail27 B w0 pl pa q cl qa ca ak an bk bn rk rn sk sn az bz rz sz w hB0 hBs ba bb bA br HCase HWs _ hs _ _ _ _ _ _ _ _ _ _ _ _ _ _ _ _ _ _ _ _ _ _ _ _ _ _ _ _ _ _ _ _ _ _ _ _ _ _ _ _ _ _ _ _ _ _ _ _ _ _ _ _ _ _ _ _ _ _ _ _ _ _ _ _ _ _ _ _ _ _ _ _ _ _ _ _ _ _ _ _ _ _ _ _ _ _ _ _ _ _ _ _ _ _ _ _ _ _ _ _ _ _ _ _ _ _ _ _ _ _ _ _ _ _ _ _ _ _ _ _ _ _ _ _ _ _ _ _ _ _ _ _ _ _ _ _ _ _ _ _ _ _ _ _ _ _ _ _ _ _ _ _ _ _ _ _ _ _ _ _ _ _ _ _ _ _ _ _ _ _ _ _ _ _ _ _ _ _ _ _ _ _ _ _ _ _ _ _ _ _
end Go.Proofs.YtoaejcppfmjhdaaGreatDoor.ov
