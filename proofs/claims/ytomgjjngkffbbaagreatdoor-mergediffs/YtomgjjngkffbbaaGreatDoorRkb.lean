
/- The reference's argument where a box stands. Conditions: as the theorem says. -/
import Derived.Test.YtomgjjngkffbbaaGreatDoorRk
import Derived.Test.YtomgjjngkffbbaaGreatDoorRm3
import Derived.Deep.QuietTactic
import Derived.BigQuiet
namespace Go.Proofs.YtomgjjngkffbbaaGreatDoor.fm
open Go.RowKit
section
variable (L : Lex) (s : ByteArray)
theorem XR_more {D j k5 : Nat} {name : ByteArray} {ts : List T} {u : T} (hA : Arg L s D j = .ok u k5) (h44 : nx s (skip s k5) = 44) (hk : k5 ≤ s.size) : XR L s D name ts j = XR L s D name (ts ++ [u]) (skip s k5 + 1) := by
  unfold XR
  rw [hA]
  show (More L s D (ts ++ [u]) k5).bind _ = _
  rw [More_eq L s D (ts ++ [u]) k5 hk, if_pos h44]
theorem XR_end {D j k5 : Nat} {name : ByteArray} {ts : List T} {u : T} (hA : Arg L s D j = .ok u k5) (h41 : nx s (skip s k5) = 41) (hk : k5 ≤ s.size) : XR L s D name ts j = .ok (tCall name (ts ++ [u])) (skip s k5 + 1) := by
  unfold XR
  rw [hA]
  show (More L s D (ts ++ [u]) k5).bind _ = _
  rw [More_eq L s D (ts ++ [u]) k5 hk, if_neg (by omega), if_pos h41]
  rfl
theorem XR_bad {D j k5 : Nat} {name : ByteArray} {ts : List T} {u : T} (hA : Arg L s D j = .ok u k5) (h44 : nx s (skip s k5) ≠ 44) (h41 : nx s (skip s k5) ≠ 41) (hk : k5 ≤ s.size) : XR L s D name ts j = .err (skip s k5) 2 := by
  unfold XR
  rw [hA]
  show (More L s D (ts ++ [u]) k5).bind _ = _
  rw [More_eq L s D (ts ++ [u]) k5 hk, if_neg h44, if_neg h41]
  rfl
theorem XR_err {D j f : Nat} {c : Int} {name : ByteArray} {ts : List T} (hA : Arg L s D j = .err f c) : XR L s D name ts j = .err f c := by
  unfold XR
  rw [hA]
  rfl
end
/-- What holds around the loop over the arguments. -/
def CR (w wl : World) (pb kb : Nat) (s name : ByteArray) (d k : Nat) (wr0 : Int) (RR : Rs T) (wr : World) : Prop :=
  ∃ (sv : Value) (us : List Value) (ts : List T) (j : Nat) (tk0 : Tk), wr.heap[w.heap.size]? = some (.cells NZ 77 (0, 0)) ∧ wr.heap[w.heap.size + 1]? = some (.cells (N12 9 0 name .z .z sv) 77 (0, 0)) ∧ wr.heap[kb]? = some (.cells (K4 tk0) 105 (0, 0)) ∧ PD wr pb s j wr0 0 (d + 1) ∧ j ≤ s.size ∧ k < j ∧ us.length ≤ j ∧ GV wl wr sv us ts ∧ Kp (fun b => b = pb ∨ b = w.heap.size + 1 ∨ b = kb) wl wr ∧
    ∀ e w', OutR w pb s d wr0 (XR lexP s (d + 1) name ts j) e w' → OutR w pb s d wr0 RR e w'
/-- An argument is read, and lies in its block. -/
def JR (wq : World) (pb ab : Nat) (s : ByteArray) (D : Nat) (wr0 : Int) (A : Rs T) (wx : World) : Prop :=
  ∃ (a n : Int) (s1 : ByteArray) (r1 t1 : Rf) (p : Option Addr) (m c : Nat) (u : T) (j : Nat) (wr' bd : Int), wx.heap[ab]? = some (.cells (N12 a n s1 r1 t1 (.slice p m c)) 77 (0, 0)) ∧ Nd wx (Own wq wx) (NV a n s1 r1 t1 (.slice p m c)) u ∧ PD wx pb s j wr' bd D ∧ j ≤ s.size ∧ Kp (fun b => b = pb ∨ b = ab) wq wx ∧
    ((∃ k, A = .ok u k ∧ bd = 0 ∧ wr' = wr0 ∧ skip s j = skip s k) ∨ (∃ k : Nat, A = .err k bd ∧ wr' = k ∧ bd ≠ 0))
/-- The statement that asks a slot. -/
def findCond (n : Nat) : Code → Option Code
  | .cond (.tmp m) a b => if m = n then some (.cond (.tmp m) a b) else match findCond n a with
    | some c => some c
    | none => findCond n b
  | .cond _ a b => match findCond n a with
    | some c => some c
    | none => findCond n b
  | .seq a b => match findCond n a with
    | some c => some c
    | none => findCond n b
  | .loop c => findCond n c
  | .block _ c => findCond n c
  | .scope c => findCond n c
  | _ => none
/-- Where an argument is a box, or not. -/
noncomputable def boxC : Code := ((Tryz.f93.body.bind (findCond 87)).getD .skip)
section
variable {s : ByteArray} (hs : s.size ≤ 200)
include hs
set_option maxRecDepth 1000000 in
set_option maxHeartbeats 16000000 in
theorem box_arm (pb kb rfb j d : Nat) (wr0 : Int) (tk : Tk) (D : adr.Rd) (HRF : Hid (rfOf tk.t = ⟨D.c, D.r, D.fc, D.fr⟩)) (l1 l2 l3 l4 l5 l8 l10 l11 l12 l13 l14 l15 l16 l17 l18 l19 l20 l21 l22 l23 l24 l25 l26 l27 l28 l29 l30 l31 l32 l33 l34 l35 l36 l37 l38 l39 l40 l41 l42 l43 l44 l45 l46 l47 l48 l49 l50 l51 l52 l53 l54 l55 l56 l57 l58 l59 l60 l61 l62 l63 l64 l65 l66 l67 l68 l69 l70 l71 l72 l73 l74 l75 l76 l77 l78 l79 l80 l81 l82 l83 l84 l85 l86 l88 l89 l90 l91 l92 l93 l94 l95 l96 l97 l98 l99 l100 l101 l102 l103 l104 l105 l106 l107 l108 l109 l110 l111 l112 l113 l114 l115 l116 l117 l118 l119 l120 l121 l122 l123 l124 l125 l126 l127 l128 l129 l130 l131 l132 l133 l134 l135 l136 l137 l138 l139 l140 l141 l142 l143 l144 l145 l146 l147 l148 l149 l150 l151 l152 l153 l154 l155 l156 l157 l158 l159 l160 l161 l162 l163 l164 l165 l166 l167 l168 l169 l170 : Value) (w4 : World) (hP4 : PD w4 pb s j wr0 0 (d + 1)) (hk4 : w4.heap[kb]? = some (.cells (K4 tk) 105 (0, 0)))
    (hrf4 : w4.heap[rfb]? = some (.cells #[.int .i64 D.c, .int .i64 D.r, .bool D.fc, .bool D.fr] 74 (0, 0))) (hab4 : w4.heap[rfb + 1]? = some (.cells NZ 77 (0, 0))) (HS4 : Hid (rfb + 2 ≤ w4.heap.size)) (hap : rfb + 1 ≠ pb) (hrp0 : rfb ≠ pb) (hb1 : tk.e < s.size)
    (HB2 : Hid (∀ r2, refOf (tok s (tk.e + 1)) = some r2 → Arg lexP s (d + 1) j = .ok (tBox (rfOf tk.t) r2) (tokEnd s (tk.e + 1)))) (HB3 : Hid (refOf (tok s (tk.e + 1)) = none → Arg lexP s (d + 1) j = .err (tk.e + 1) 2))
    (K : Act → World → Prop) (Q : Exit → Act → World → Prop) (hK : ∀ (x10 x11 x12 x42 x43 x44 x45 x46 x47 x48 x49 x50 x51 x52 x53 x54 x55 x56 x57 x58 x59 x60 x61 x62 x63 x64 x65 x66 x67 x68 x69 x70 x71 x72 x73 x74 x75 x76 x77 x78 x79 x80 x81 x82 x83 x84 x85 x86 x87 x88 x89 x90 x91 x92 x93 x94 x95 x96 x97 x98 x99 x100 x101 x102 x103 x104 x105 x106 x107 x108 x109 x110 x111 x112 x113 x114 x115 x116 x117 x118 x119 x120 x121 x122 x123 x124 x125 x126 x127 x128 x129 x130 x131 x132 x133 x134 x135 x136 x137 x138 x139 x140 x141 x142 x143 x144 x145 x146 x147 x148 x149 x150 x151 x152 x153 x154 x155 x156 x157 x158 x159 x160 x161 x162 x163 x164 x165 x166 x167 x168 x169 : Value) (w' : World), JR w4 pb (rfb + 1) s (d + 1) wr0 (Arg lexP s (d + 1) j) w' → K ⟨#[ptr pb, l1, l2, l3, l4, l5, ptr kb, .pointer (some ⟨rfb, 0, none⟩), l8, .pointer (some ⟨rfb + 1, 0, none⟩), x10, x11, x12, l13, l14, l15, l16, l17, l18, l19, l20, l21, l22, l23, l24, l25, l26, l27, l28, l29, l30, l31, l32, l33, l34, l35, l36, l37, l38, l39, l40, l41, x42, x43, x44, x45, x46, x47, x48, x49, x50, x51, x52, x53, x54, x55, x56, x57, x58, x59, x60, x61, x62, x63, x64, x65, x66, x67, x68, x69, x70, x71, x72, x73, x74, x75, x76, x77, x78, x79, x80, x81, x82, x83, x84, x85, x86, x87, x88, x89, x90, x91, x92, x93, x94, x95, x96, x97, x98, x99, x100, x101, x102, x103, x104, x105, x106, x107, x108, x109, x110, x111, x112, x113, x114, x115, x116, x117, x118, x119, x120, x121, x122, x123, x124, x125, x126, x127, x128, x129, x130, x131, x132, x133, x134, x135, x136, x137, x138, x139, x140, x141, x142, x143, x144, x145, x146, x147, x148, x149, x150, x151, x152, x153, x154, x155, x156, x157, x158, x159, x160, x161, x162, x163, x164, x165, x166, x167, x168, x169, l170], []⟩ w') :
    Code.wp Tryz.prog boxC (Exit.then K Q) ⟨#[ptr pb, l1, l2, l3, l4, l5, ptr kb, .pointer (some ⟨rfb, 0, none⟩), l8, .pointer (some ⟨rfb + 1, 0, none⟩), l10, l11, l12, l13, l14, l15, l16, l17, l18, l19, l20, l21, l22, l23, l24, l25, l26, l27, l28, l29, l30, l31, l32, l33, l34, l35, l36, l37, l38, l39, l40, l41, l42, l43, l44, l45, l46, l47, l48, l49, l50, l51, l52, l53, l54, l55, l56, l57, l58, l59, l60, l61, l62, l63, l64, l65, l66, l67, l68, l69, l70, l71, l72, l73, l74, l75, l76, l77, l78, l79, l80, l81, l82, l83, l84, l85, l86, .bool true, l88, l89, l90, l91, l92, l93, l94, l95, l96, l97, l98, l99, l100, l101, l102, l103, l104, l105, l106, l107, l108, l109, l110, l111, l112, l113, l114, l115, l116, l117, l118, l119, l120, l121, l122, l123, l124, l125, l126, l127, l128, l129, l130, l131, l132, l133, l134, l135, l136, l137, l138, l139, l140, l141, l142, l143, l144, l145, l146, l147, l148, l149, l150, l151, l152, l153, l154, l155, l156, l157, l158, l159, l160, l161, l162, l163, l164, l165, l166, l167, l168, l169, l170], []⟩ w4 := by
  dsimp only at hK ⊢
  conv => arg 2; whnf
  have hq1 : tk.e + 1 ≤ s.size := hb1
  have hle1 : (tk.e : Int) < (s.size : Int) := by omega
  have HT2 : Hid (∀ w, Calls Tryz.prog 54 #[.string s, .int .i64 (IntKind.i64.wrap ((tk.e : Int) + 1))] w fun e w' => e = .returned (KV (tkR s (tk.e + 1)).kind ((tkR s (tk.e + 1)).a : Nat) ((tkR s (tk.e + 1)).e : Nat) (tkR s (tk.e + 1)).t) ∧ Below w.heap.size w w') := fun w => by
    rw [Go.IntWalk.i64_in _ (by omega)]
    exact token_at s (tk.e + 1) w hs hq1
  have hme := (tk_spec s (tk.e + 1) hq1).2.2
  have HMZ : Hid ((tkR s (tk.e + 1)).t.size ≤ 200) := tk_text s (tk.e + 1) hs hq1
  have HMN : Hid (((tkR s (tk.e + 1)).a ≠ tk.e + 1 ∨ (tkR s (tk.e + 1)).kind ≠ 1 ∨ (adr.rdR (tkR s (tk.e + 1)).t).ok = false) → Arg lexP s (d + 1) j = .err (tk.e + 1) 2) := fun q => HB3.out (box_no s _ hq1 q)
  have HMY : Hid ((tkR s (tk.e + 1)).a = tk.e + 1 → (tkR s (tk.e + 1)).kind = 1 → (adr.rdR (tkR s (tk.e + 1)).t).ok = true → Arg lexP s (d + 1) j = .ok (tBox (rfOf tk.t) (rfOf (tkR s (tk.e + 1)).t)) (tkR s (tk.e + 1)).e) := fun q1 q2 q3 => by
    have hy := box_yes s _ hq1 q1 q2 q3
    rw [hy.2]
    exact HB2.out _ hy.1
  clear HB2 HB3
  generalize tkR s (tk.e + 1) = mk at *
  obtain ⟨⟨c0, c1, c2, c3, c4⟩, f0, f1, f2, f3, f4⟩ := hP4.cells
  obtain ⟨⟨z0, z1, z2, z3⟩, y0, y1, y2, y3⟩ := cells4f hk4
  go_upto_region 12 with fail
  go_cut [10] from 42 to 169 (fun s10 wx => ∃ mb, s10 = ptr mb ∧ KS w4 mk mb wx)
  case first =>
    have hlt0 := hP4.lt
    have hltk := lt_blk hk4
    have hne : w4.heap.size ≠ pb := by omega
    have hne' : pb ≠ w4.heap.size := by omega
    have hnk : w4.heap.size ≠ kb := by omega
    have hnk' : kb ≠ w4.heap.size := by omega
    have KK : Hid (∀ wx, Below w4.heap.size w4 wx → wx.cell? ⟨pb, 0, none⟩ = some (.string s) ∧ wx.cell? ⟨kb, 2, none⟩ = some (.int .i64 tk.e)) := fun wx hb => ⟨(hb.cell (p := ⟨pb, 0, none⟩) hlt0).trans c0, (hb.cell (p := ⟨kb, 2, none⟩) hltk).trans z2⟩
    clear c0 c1 c2 c3 c4 f0 f1 f2 f3 f4 z0 z1 z2 z3 y0 y1 y2 y3
    go_region_held3 (fun wx => wx.cell? ⟨pb, 0, none⟩ = some (.string s) ∧ wx.cell? ⟨kb, 2, none⟩ = some (.int .i64 tk.e)) (exact KK.out _ (by (repeat (first | exact Below.refl _ _ | assumption | (refine Below.setCell ?_ (by first | exact Nat.le_refl _ | omega) _) | (refine Below.alloc ?_ (by first | exact Nat.le_refl _ | exact hb'.size | omega | (simp <;> omega)) _) | (refine Below.drew ?_))))) ((go_at_call 54; refine (HT2.out _).mono ?_; rintro e w1 ⟨rfl, hb⟩; have hb' : Below w4.heap.size w4 w1 := (by first | exact kb1 hb | exact kb2 hb); first | (have hz := kz_a hb; have hz4 := cells4f hz; obtain ⟨⟨z0, z1, z2, z3⟩, y0, y1, y2, y3⟩ := hz4) | skip))
    all_goals
      go_wp2_with fail
      go_meet
      case rel => first | exact ⟨_, rfl, ks3 hb⟩ | exact ks2 hb (Q := fun W => ∃ kb, _ = ptr kb ∧ KS w4 mk kb W) (fun w2 h2 => ⟨_, rfl, h2⟩)
  case rest =>
  obtain ⟨mb, rfl, hS5⟩ := hcut
  clear c0 c1 c2 c3 c4 f0 f1 f2 f3 f4 z0 z1 z2 z3 y0 y1 y2 y3 HT2
  have hmlo := hS5.lo
  have q4 := HS4.out
  have hmp : mb ≠ pb := by have := hP4.lt; omega
  have hma : mb ≠ rfb + 1 := by omega
  have hrp : rfb ≠ pb := hrp0
  have hP5 := hP4.below hS5.below
  have hk5 : wc.heap[kb]? = some (.cells (K4 tk) 105 (0, 0)) := by rw [hS5.below.block _ (lt_blk hk4)]; exact hk4
  have hrf5 : wc.heap[rfb]? = some (.cells #[.int .i64 D.c, .int .i64 D.r, .bool D.fc, .bool D.fr] 74 (0, 0)) := by rw [hS5.below.block _ (lt_blk hrf4)]; exact hrf4
  have hab5 : wc.heap[rfb + 1]? = some (.cells NZ 77 (0, 0)) := by rw [hS5.below.block _ (lt_blk hab4)]; exact hab4
  obtain ⟨⟨z0, z1, z2, z3⟩, y0, y1, y2, y3⟩ := cells4f hS5.blk
  go_wp2_with fail
  go_at_call 95
  refine (adr.rref_any mk.t _ (by have := HMZ.out; omega)).mono ?_
  rintro e w6 ⟨rfl, hb6⟩
  have HRM : Hid (rfOf mk.t = ⟨(adr.rdR mk.t).c, (adr.rdR mk.t).r, (adr.rdR mk.t).fc, (adr.rdR mk.t).fr⟩) := rfl
  generalize adr.rdR mk.t = M at *
  clear z0 z1 z2 z3 y0 y1 y2 y3
  have hb7 : Below wc.heap.size wc (w6.alloc (.cells #[.int .i64 M.c, .int .i64 M.r, .bool M.fc, .bool M.fr] 74)) := hb6.alloc hb6.size _
  have hP7 := hP5.below hb7
  have hk7 : (w6.alloc (.cells #[.int .i64 M.c, .int .i64 M.r, .bool M.fc, .bool M.fr] 74)).heap[kb]? = some (.cells (K4 tk) 105 (0, 0)) := by rw [hb7.block _ (lt_blk hk5)]; exact hk5
  have hm7 : (w6.alloc (.cells #[.int .i64 M.c, .int .i64 M.r, .bool M.fc, .bool M.fr] 74)).heap[mb]? = some (.cells (K4 mk) 105 (0, 0)) := by rw [hb7.block _ (lt_blk hS5.blk)]; exact hS5.blk
  have hrf7 : (w6.alloc (.cells #[.int .i64 M.c, .int .i64 M.r, .bool M.fc, .bool M.fr] 74)).heap[rfb]? = some (.cells #[.int .i64 D.c, .int .i64 D.r, .bool D.fc, .bool D.fr] 74 (0, 0)) := by rw [hb7.block _ (lt_blk hrf5)]; exact hrf5
  have hab7 : (w6.alloc (.cells #[.int .i64 M.c, .int .i64 M.r, .bool M.fc, .bool M.fr] 74)).heap[rfb + 1]? = some (.cells NZ 77 (0, 0)) := by rw [hb7.block _ (lt_blk hab5)]; exact hab5
  have hrm7 := blk_new w6 (.cells #[.int .i64 M.c, .int .i64 M.r, .bool M.fc, .bool M.fr] 74)
  have hK7 : Kp (fun b => b = pb ∨ b = rfb + 1) w4 (w6.alloc (.cells #[.int .i64 M.c, .int .i64 M.r, .bool M.fc, .bool M.fr] 74)) := ((Kp.refl _ _).below hS5.below).below hb7
  have hmp7 : w6.heap.size ≠ pb := by have := hP5.lt; have := hb6.size; omega
  go_upto_region 14 with fail
  generalize w6.alloc (.cells #[.int .i64 M.c, .int .i64 M.r, .bool M.fc, .bool M.fr] 74) = w7 at *
  generalize w6.heap.size = rmb at *
  clear hb7 hb6 hP5 hk5 hrf5 hab5 hS5
  obtain ⟨⟨z0, z1, z2, z3⟩, y0, y1, y2, y3⟩ := cells4f hk7
  obtain ⟨⟨x0, x1, x2, x3⟩, v0, v1, v2, v3⟩ := cells4f hm7
  obtain ⟨mok, hmok⟩ : ∃ mok, M.ok = mok := ⟨_, rfl⟩
  rw [hmok] at HMN HMY ⊢
  clear hmok
  obtain ⟨bad, hbad⟩ : ∃ bad : Bool, bad = !(decide (mk.a = tk.e + 1) && (mk.kind == 1) && mok) := ⟨_, rfl⟩
  have HBAD : Hid (bad = !(decide (mk.a = tk.e + 1) && (mk.kind == 1) && mok)) := hbad
  clear hbad
  go_cut [116] from 42 to 169 (fun s116 wx => s116 = .bool bad ∧ w7 = wx)
  case first =>
    by_cases ha : mk.a = tk.e + 1
    · have ha' : (((mk.a : Nat) : Int) != (tk.e : Int) + 1) = false := by rw [bne_eq_false_iff_eq]; omega
      cases hk1 : (mk.kind == 1) with
      | false =>
        have hk2 : (mk.kind != 1) = true := by rw [bne, hk1]; rfl
        have HB4 : Hid (bad = true) := by unfold Hid; rw [HBAD.out, hk1]; simp
        clear HBAD HMN HMY ha hk1
        go_wp2_with fail
        go_meet
        case rel => exact ⟨by rw [HB4.out], rfl⟩
      | true =>
        have hk2 : (mk.kind != 1) = false := by rw [bne, hk1]; rfl
        have HB4 : Hid (bad = !mok) := by unfold Hid; rw [HBAD.out, hk1, decide_eq_true ha]; simp
        clear HBAD HMN HMY ha hk1
        go_wp2_with fail
        go_meet
        case rel => exact ⟨by rw [HB4.out], rfl⟩
    · have ha' : (((mk.a : Nat) : Int) != (tk.e : Int) + 1) = true := by rw [bne_iff_ne]; omega
      have HB4 : Hid (bad = true) := by unfold Hid; rw [HBAD.out, decide_eq_false ha]; rfl
      clear HBAD HMN HMY ha
      go_wp2_with fail
      go_meet
      case rel => exact ⟨by rw [HB4.out], rfl⟩
  case rest =>
  obtain ⟨rfl, hwe⟩ := hcut
  subst hwe
  clear z0 z1 z2 z3 y0 y1 y2 y3 x0 x1 x2 x3 v0 v1 v2 v3
  cases bad with
  | true =>
    have HA : Hid (Arg lexP s (d + 1) j = .err (tk.e + 1) 2) := HMN.out (by
      have hb := HBAD.out
      by_cases ha : mk.a = tk.e + 1
      · cases hk1 : (mk.kind == 1) with
        | false => exact .inr (.inl (beq_eq_false_iff_ne.1 hk1))
        | true =>
          rw [hk1, decide_eq_true ha] at hb
          simp at hb
          exact .inr (.inr hb)
      · exact .inl ha)
    clear HMN HMY HBAD
    obtain ⟨⟨z0, z1, z2, z3⟩, y0, y1, y2, y3⟩ := cells4f hk7
    go_wp2_with fail
    go_at_call 55
    rw [show ((tk.e : Int) + 1) = ((tk.e + 1 : Nat) : Int) from rfl]
    refine (fail_first pb j (d + 1) wr0 s (tk.e + 1) 2 _ hP7).mono ?_
    rintro e w8 ⟨rfl, hP8, hK8⟩
    clear z0 z1 z2 z3 y0 y1 y2 y3
    have hm8 := hK8.blk hm7 hmp
    have hrf8 := hK8.blk hrf7 hrp
    have hrm8 := hK8.blk hrm7 hmp7
    have hab8 := hK8.blk hab7 hap
    have hKw8 := hK7.trans hK8 (fun n e => .inl (.inl e))
    have hPs := hP8.setAt mk.e
    have hKs := kpset w8 pb 1 (.int .i64 mk.e)
    have hrf9 := hKs.blk hrf8 hrp
    have hrm9 := hKs.blk hrm8 hmp7
    have hab9 := hKs.blk hab8 hap
    have hKw9 := hKw8.trans hKs (fun n e => .inl (.inl e))
    obtain ⟨⟨c0, c1, c2, c3, c4⟩, f0, f1, f2, f3, f4⟩ := hP8.cells
    obtain ⟨⟨z0, z1, z2, z3⟩, y0, y1, y2, y3⟩ := cells4f hm8
    obtain ⟨⟨x0, x1, x2, x3⟩, v0, v1, v2, v3⟩ := cells4f hrf9
    obtain ⟨⟨i0, i1, i2, i3⟩, o0, o1, o2, o3⟩ := cells4f hrm9
    obtain ⟨⟨d0, d1, d2, d3, d4, d5, d6, d7, d8, d9, d10, d11⟩, df⟩ := cells12 hab9
    go_wp2_with fail
    clear c0 c1 c2 c3 c4 f0 f1 f2 f3 f4 z0 z1 z2 z3 y0 y1 y2 y3 d0 d1 d2 d3 d4 d5 d6 d7 d8 d9 d10 d11 df x0 x1 x2 x3 v0 v1 v2 v3 i0 i1 i2 i3 o0 o1 o2 o3
    refine fin12 hab9 (Q := fun W => JR w4 pb (rfb + 1) s (d + 1) wr0 (Arg lexP s (d + 1) j) W) ?_
    intro w9 hq9 hk9
    exact ⟨6, 0, nul, ⟨D.c, D.r, D.fc, D.fr⟩, ⟨M.c, M.r, M.fc, M.fr⟩, none, 0, 0, tBox ⟨D.c, D.r, D.fc, D.fr⟩ ⟨M.c, M.r, M.fc, M.fr⟩, mk.e, _, _, hq9, Nd.leaf, hPs.keep hk9 (fun e => hap e.symm), hme, hKw9.trans hk9 (fun n e => .inl (.inr e)), .inr ⟨tk.e + 1, HA.out, rfl, by omega⟩⟩
  | false =>
    have HA : Hid (Arg lexP s (d + 1) j = .ok (tBox (rfOf tk.t) (rfOf mk.t)) mk.e) := by
      have hb := HBAD.out
      simp at hb
      exact HMY.out hb.1.1 hb.1.2 hb.2
    clear HMN HMY HBAD
    have hP8 := hP7
    have hm8 := hm7
    have hrf8 := hrf7
    have hrm8 := hrm7
    have hab8 := hab7
    have hKw8 := hK7
    obtain ⟨w8, rfl⟩ : ∃ w8, w8 = w7 := ⟨_, rfl⟩
    clear hP7 hm7 hrf7 hrm7 hab7 hK7
    have hPs := hP8.setAt mk.e
    have hKs := kpset w8 pb 1 (.int .i64 mk.e)
    have hrf9 := hKs.blk hrf8 hrp
    have hrm9 := hKs.blk hrm8 hmp7
    have hab9 := hKs.blk hab8 hap
    have hKw9 := hKw8.trans hKs (fun n e => .inl (.inl e))
    obtain ⟨⟨c0, c1, c2, c3, c4⟩, f0, f1, f2, f3, f4⟩ := hP8.cells
    obtain ⟨⟨z0, z1, z2, z3⟩, y0, y1, y2, y3⟩ := cells4f hm8
    obtain ⟨⟨x0, x1, x2, x3⟩, v0, v1, v2, v3⟩ := cells4f hrf9
    obtain ⟨⟨i0, i1, i2, i3⟩, o0, o1, o2, o3⟩ := cells4f hrm9
    obtain ⟨⟨d0, d1, d2, d3, d4, d5, d6, d7, d8, d9, d10, d11⟩, df⟩ := cells12 hab9
    go_wp2_with fail
    clear c0 c1 c2 c3 c4 f0 f1 f2 f3 f4 z0 z1 z2 z3 y0 y1 y2 y3 d0 d1 d2 d3 d4 d5 d6 d7 d8 d9 d10 d11 df x0 x1 x2 x3 v0 v1 v2 v3 i0 i1 i2 i3 o0 o1 o2 o3
    refine fin12 hab9 (Q := fun W => JR w4 pb (rfb + 1) s (d + 1) wr0 (Arg lexP s (d + 1) j) W) ?_
    intro w9 hq9 hk9
    exact ⟨6, 0, nul, ⟨D.c, D.r, D.fc, D.fr⟩, ⟨M.c, M.r, M.fc, M.fr⟩, none, 0, 0, tBox ⟨D.c, D.r, D.fc, D.fr⟩ ⟨M.c, M.r, M.fc, M.fr⟩, mk.e, _, _, hq9, Nd.leaf, hPs.keep hk9 (fun e => hap e.symm), hme, hKw9.trans hk9 (fun n e => .inl (.inr e)), .inl ⟨mk.e, by rw [HA.out, HRF.out, HRM.out], rfl, rfl, rfl⟩⟩
end
end Go.Proofs.YtomgjjngkffbbaaGreatDoor.fm
