/- The law RefsBack: its last part, walked: the formula that is moved there and back. Conditions: what its calls answer. -/
import Derived.Test.YtimagcmmaffpjaaGreatDoorQp
namespace Go.Proofs.YtimagcmmaffpjaaGreatDoor.fm
open Go.RowKit
def R15 (w : World) (cs : Array Value) (bm : Nat) (ok : Prop) (T1 : T) (s20 : Value) (wx : World) : Prop :=
  ∃ (k2 n2 : Int) (s2 : ByteArray) (r2 t2 : Rf) (p2 : Option Addr) (m2 e2 : Nat), LB w cs bm (N12 k2 n2 s2 r2 t2 (.slice p2 m2 e2)) wx ∧ ((∃ a : Int, s20 = .iface 40 (.int .i64 a)) ∨ (s20 = .nilIface ∧ ok ∧ In wx (NV k2 n2 s2 r2 t2 (.slice p2 m2 e2)) T1))
def R16 (w : World) (cs : Array Value) (bm : Nat) (ok : Prop) (T1 : T) (z0 : Nat) (s89 : Value) (wx : World) : Prop :=
  ∃ (zb : Bool) (k2 n2 : Int) (s2 : ByteArray) (r2 t2 : Rf) (p2 : Option Addr) (m2 e2 : Nat), s89 = .bool zb ∧ LB w cs bm (N12 k2 n2 s2 r2 t2 (.slice p2 m2 e2)) wx ∧ (zb = true → ok ∧ T1.bads = z0 ∧ In wx (NV k2 n2 s2 r2 t2 (.slice p2 m2 e2)) T1)
def R89 (w : World) (cs : Array Value) (bm : Nat) (wx : World) : Prop := ∃ (k2 n2 : Int) (s2 : ByteArray) (r2 t2 : Rf) (p2 : Option Addr) (m2 e2 : Nat), LB w cs bm (N12 k2 n2 s2 r2 t2 (.slice p2 m2 e2)) wx
def R22 (w : World) (cs : Array Value) (bm : Nat) (T2 : T) (s20 : Value) (wx : World) : Prop :=
  ∃ (k2 n2 : Int) (s2 : ByteArray) (r2 t2 : Rf) (p2 : Option Addr) (m2 e2 : Nat), s20 = .nilIface ∧ LB w cs bm (N12 k2 n2 s2 r2 t2 (.slice p2 m2 e2)) wx ∧ In wx (NV k2 n2 s2 r2 t2 (.slice p2 m2 e2)) T2
def R23 (w : World) (cs : Array Value) (bm : Nat) (ok : Prop) (T2 : T) (s143 : Value) (wx : World) : Prop :=
  ∃ (zb : Bool) (k2 n2 : Int) (s2 : ByteArray) (r2 t2 : Rf) (p2 : Option Addr) (m2 e2 : Nat), s143 = .bool zb ∧ LB w cs bm (N12 k2 n2 s2 r2 t2 (.slice p2 m2 e2)) wx ∧ (zb = false → ok ∧ In wx (NV k2 n2 s2 r2 t2 (.slice p2 m2 e2)) T2)
/-- The statements from a region on. -/
def findTail (n : Nat) : Code → Option Code
  | .seq (.region m ops b) c => if m = n then some (.seq (.region m ops b) c) else findTail n c
  | .seq a b => match findTail n a with
    | some c => some c
    | none => findTail n b
  | .cond _ a b => match findTail n a with
    | some c => some c
    | none => findTail n b
  | .loop c => findTail n c
  | .block _ c => findTail n c
  | .scope c => findTail n c
  | _ => none
noncomputable def tail22C : Code := ((Tryz.f3.body.bind (findTail 22)).getD .skip)
set_option maxRecDepth 1000000 in
set_option maxHeartbeats 16000000 in
theorem tail22 (cols rows : Int) (w : World) (hc : -9223372036854775808 ≤ cols ∧ cols ≤ 9223372036854775807) (hr : -9223372036854775808 ≤ rows ∧ rows ≤ 9223372036854775807) {k n : Int} {s : ByteArray} {r t : Rf} {p : Option Addr} {q c : Nat} (T2 : T) (z0 bm : Nat) (wc : World) (HK0 : Hid (k ≠ 0)) (hcut : R89 w (N12 k n s r t (.slice p q c)) bm wc)
    (HMV : Hid (∀ wx, Below w.heap.size w wx → Calls Tryz.prog 5 #[NV k n s r t (.slice p q c), .int .i64 cols, .int .i64 rows] wx fun e w' => ∃ (k2 n2 : Int) (s2 : ByteArray) (r2 t2 : Rf) (p2 : Option Addr) (m2 e2 : Nat), e = .returned (.tuple #[NV k2 n2 s2 r2 t2 (.slice p2 m2 e2), .nilIface]) ∧ Nd w' (Own wx w') (NV k2 n2 s2 r2 t2 (.slice p2 m2 e2)) T2 ∧ Below wx.heap.size wx w')) (HVB : Hid (∀ wx (k2 n2 : Int) (s2 : ByteArray) (r2 t2 : Rf) (p2 : Option Addr) (m2 e2 : Nat), In wx (NV k2 n2 s2 r2 t2 (.slice p2 m2 e2)) T2 → Calls Tryz.prog 7 #[NV k2 n2 s2 r2 t2 (.slice p2 m2 e2)] wx fun e w' => e = .returned (.int .i64 ((T2.bads : Nat) : Int)) ∧ Below wx.heap.size wx w')) (HVC : Hid (∀ wx (k2 n2 : Int) (s2 : ByteArray) (r2 t2 : Rf) (p2 : Option Addr) (m2 e2 : Nat), Below w.heap.size w wx → In wx (NV k2 n2 s2 r2 t2 (.slice p2 m2 e2)) T2 → Ckd T2 → Calls Tryz.prog 6 #[NV k2 n2 s2 r2 t2 (.slice p2 m2 e2)] wx fun e w' => e = .returned .nilIface ∧ Below wx.heap.size wx w')) (HVCn : Hid (∀ wx (k2 n2 : Int) (s2 : ByteArray) (r2 t2 : Rf) (p2 : Option Addr) (m2 e2 : Nat), Below w.heap.size w wx → In wx (NV k2 n2 s2 r2 t2 (.slice p2 m2 e2)) T2 → ¬ Ckd T2 → Calls Tryz.prog 6 #[NV k2 n2 s2 r2 t2 (.slice p2 m2 e2)] wx fun e w' => (∃ a : Int, e = .returned (.iface 40 (.int .i64 a))) ∧ Below wx.heap.size wx w')) (HVM : Hid (∀ wx (k2 n2 : Int) (s2 : ByteArray) (r2 t2 : Rf) (p2 : Option Addr) (m2 e2 : Nat), Below w.heap.size w wx → In wx (NV k2 n2 s2 r2 t2 (.slice p2 m2 e2)) T2 → Ckd T2 → (-99 ≤ cols ∧ cols ≤ 99) ∧ (-99 ≤ rows ∧ rows ≤ 99) → T2.bads = z0 → Calls Tryz.prog 5 #[NV k2 n2 s2 r2 t2 (.slice p2 m2 e2), .int .i64 (-cols), .int .i64 (-rows)] wx fun e w' => ∃ (k3 n3 : Int) (s3 : ByteArray) (r3 t3 : Rf) (p3 : Option Addr) (m3 e3 : Nat), e = .returned (.tuple #[NV k3 n3 s3 r3 t3 (.slice p3 m3 e3), .nilIface]) ∧ Below wx.heap.size wx w' ∧ ∀ wy, Below w'.heap.size w' wy → Calls Tryz.prog 8 #[NV k3 n3 s3 r3 t3 (.slice p3 m3 e3), NV k n s r t (.slice p q c)] wy fun e w' => e = .returned (.bool true) ∧ Below wy.heap.size wy w')) (HVMn : Hid (∀ wx (k2 n2 : Int) (s2 : ByteArray) (r2 t2 : Rf) (p2 : Option Addr) (m2 e2 : Nat), Below w.heap.size w wx → In wx (NV k2 n2 s2 r2 t2 (.slice p2 m2 e2)) T2 → ¬ Ckd T2 → (-99 ≤ cols ∧ cols ≤ 99) ∧ (-99 ≤ rows ∧ rows ≤ 99) → Calls Tryz.prog 5 #[NV k2 n2 s2 r2 t2 (.slice p2 m2 e2), .int .i64 (-cols), .int .i64 (-rows)] wx fun e w' => (∃ a : Int, e = .returned (.tuple #[NV 0 0 nul .z .z (.slice none 0 0), .iface 40 (.int .i64 a)])) ∧ Below wx.heap.size wx w')) {l0 l1 l2 l3 l7 l8 l9 l10 l11 l12 l13 l14 l15 l16 l17 l20 l21 l22 l23 l24 l25 l26 l27 l28 l29 l30 l31 l32 l33 l34 l35 l36 l37 l38 l39 l40 l41 l42 l43 l44 l45 l46 l47 l48 l49 l50 l51 l52 l53 l54 l55 l56 l57 l58 l59 l60 l61 l62 l63 l64 l65 l66 l67 l68 l69 l70 l71 l72 l73 l74 l75 l76 l77 l78 l79 l80 l81 l82 l83 l84 l85 l86 l87 l88 l89 l90 l91 l92 l93 l94 l95 l96 l97 l98 l99 l100 l101 l102 l103 l104 l105 l106 l107 l108 l109 l110 l111 l112 l113 l114 l115 l116 l117 l118 l119 l120 l121 l122 l123 l124 l125 l126 l127 l128 l129 l130 l131 l132 l133 l134 l135 l136 l137 l138 l139 l140 l141 l142 l143 l144 l145 l146 l147 l148 l149 l150 l151 l152 l153 l154 l155 l156 l157 l158 l159 l160 l161 l162 l163 l164 l165 l166 : Value} :
    Code.wp Tryz.prog tail22C (bodyPost Tryz.prog Tryz.f3 fun e w' => e = .returned (.bool true) ∧ Below w.heap.size w w') ⟨#[l0, l1, l2, l3, .int .i64 cols, .int .i64 rows, .pointer (some ⟨w.heap.size, 0, none⟩), l7, l8, l9, l10, l11, l12, l13, l14, l15, l16, l17, .int .i64 ((z0 : Nat) : Int), .pointer (some ⟨bm, 0, none⟩), l20, l21, l22, l23, l24, l25, l26, l27, l28, l29, l30, l31, l32, l33, l34, l35, l36, l37, l38, l39, l40, l41, l42, l43, l44, l45, l46, l47, l48, l49, l50, l51, l52, l53, l54, l55, l56, l57, l58, l59, l60, l61, l62, l63, l64, l65, l66, l67, l68, l69, l70, l71, l72, l73, l74, l75, l76, l77, l78, l79, l80, l81, l82, l83, l84, l85, l86, l87, l88, l89, l90, l91, l92, l93, l94, l95, l96, l97, l98, l99, l100, l101, l102, l103, l104, l105, l106, l107, l108, l109, l110, l111, l112, l113, l114, l115, l116, l117, l118, l119, l120, l121, l122, l123, l124, l125, l126, l127, l128, l129, l130, l131, l132, l133, l134, l135, l136, l137, l138, l139, l140, l141, l142, l143, l144, l145, l146, l147, l148, l149, l150, l151, l152, l153, l154, l155, l156, l157, l158, l159, l160, l161, l162, l163, l164, l165, l166], []⟩ wc := by
  dsimp only
  conv => arg 2; whnf
  obtain ⟨k2, n2, s2, r2, t2, p2, m2, e2, hL⟩ := hcut
  go_upto_region 22 with fail
  go_cut [20] (fun s20 wx => R22 w (N12 k n s r t (.slice p q c)) bm T2 s20 wx)
  case first =>
    obtain ⟨⟨d0, d1, d2, d3, d4, d5, d6, d7, d8, d9, d10, d11⟩, -⟩ := cells12 hL.a
    have HX := HMV.out _ hL.below
    go_wp2_with fail
    refine HX.mono ?_
    rintro e w7 ⟨k3, n3, s3, r3, t3, p3, m3, e3, rfl, hN7, hb7⟩
    have hL7 := hL.next hb7
    have hlt := lt_blk hL.m
    clear d0 d1 d2 d3 d4 d5 d6 d7 d8 d9 d10 d11
    obtain ⟨⟨a0, a1, a2, a3, a4, a5, a6, a7, a8, a9, a10, a11⟩, af⟩ := cells12 hL7.m
    go_wp2_with fail
    go_meet
    case rel =>
      refine fin12 hL7.m (Q := R22 w (N12 k n s r t (.slice p q c)) bm T2 .nilIface) ?_
      intro w8 hq8 hk8
      exact ⟨k3, n3, s3, r3, t3, p3, m3, e3, rfl, hL7.set hk8 hq8, in_set hN7 hk8 hlt⟩
  case rest =>
  clear hL HMV
  obtain ⟨k2, n2, s2, r2, t2, p2, m2, e2, rfl, hL, hI⟩ := hcut
  have HI : Hid (In wc (NV k2 n2 s2 r2 t2 (.slice p2 m2 e2)) T2) := hI
  clear hI
  go_upto_region 23 with fail
  go_cut [143] (fun s143 wx => R23 w (N12 k n s r t (.slice p q c)) bm ((T2.bads = z0) ∧ (-99 ≤ cols ∧ cols ≤ 99) ∧ (-99 ≤ rows ∧ rows ≤ 99)) T2 s143 wx)
  case first =>
    have HX := HVB.out _ k2 n2 s2 r2 t2 p2 m2 e2 HI.out
    obtain ⟨⟨a0, a1, a2, a3, a4, a5, a6, a7, a8, a9, a10, a11⟩, -⟩ := cells12 hL.m
    by_cases hz : T2.bads = z0
    · rw [hz] at HX
      have HZ : Hid (T2.bads = z0) := hz
      clear hz
      by_cases q1 : cols < -99
      · go_wp2_with fail
        refine HX.mono ?_
        rintro e w7 ⟨rfl, hb7⟩
        go_wp2_with fail
        go_meet
        case rel => exact ⟨true, k2, n2, s2, r2, t2, p2, m2, e2, rfl, hL.next hb7, fun e => by cases e⟩
      · by_cases q2 : 99 < cols
        · go_wp2_with fail
          refine HX.mono ?_
          rintro e w7 ⟨rfl, hb7⟩
          go_wp2_with fail
          go_meet
          case rel => exact ⟨true, k2, n2, s2, r2, t2, p2, m2, e2, rfl, hL.next hb7, fun e => by cases e⟩
        · by_cases q3 : rows < -99
          · go_wp2_with fail
            refine HX.mono ?_
            rintro e w7 ⟨rfl, hb7⟩
            go_wp2_with fail
            go_meet
            case rel => exact ⟨true, k2, n2, s2, r2, t2, p2, m2, e2, rfl, hL.next hb7, fun e => by cases e⟩
          · by_cases q4 : 99 < rows
            · go_wp2_with fail
              refine HX.mono ?_
              rintro e w7 ⟨rfl, hb7⟩
              go_wp2_with fail
              go_meet
              case rel => exact ⟨true, k2, n2, s2, r2, t2, p2, m2, e2, rfl, hL.next hb7, fun e => by cases e⟩
            · go_wp2_with fail
              refine HX.mono ?_
              rintro e w7 ⟨rfl, hb7⟩
              go_wp2_with fail
              go_meet
              case rel => exact ⟨false, k2, n2, s2, r2, t2, p2, m2, e2, by simp [q1, q2, q3, q4], hL.next hb7, fun _ => ⟨⟨HZ.out, ⟨by omega, by omega⟩, ⟨by omega, by omega⟩⟩, HI.out.next hb7⟩⟩
    · have g1 : (((T2.bads : Nat) : Int) == ((z0 : Nat) : Int)) = false := by simp; omega
      have g2 : (((T2.bads : Nat) : Int) != ((z0 : Nat) : Int)) = true := by simp; omega
      generalize hgz : T2.bads = z2 at HX g1 g2
      clear hz
      go_wp2_with fail
      refine HX.mono ?_
      rintro e w7 ⟨rfl, hb7⟩
      go_wp2_with fail
      go_meet
      case rel => exact ⟨true, k2, n2, s2, r2, t2, p2, m2, e2, rfl, hL.next hb7, fun e => by cases e⟩
  case rest =>
  clear hL HVB HI
  obtain ⟨zb, k2, n2, s2, r2, t2, p2, m2, e2, rfl, hL, hI⟩ := hcut
  cases zb
  · obtain ⟨⟨hbd, hcc, hrr⟩, hI⟩ := hI rfl
    obtain ⟨⟨a0, a1, a2, a3, a4, a5, a6, a7, a8, a9, a10, a11⟩, -⟩ := cells12 hL.m
    by_cases hck2 : Ckd T2
    · have HX := HVC.out _ k2 n2 s2 r2 t2 p2 m2 e2 hL.below hI hck2
      have HY : Hid (∀ wy, Below wc.heap.size wc wy → Calls Tryz.prog 5 #[NV k2 n2 s2 r2 t2 (.slice p2 m2 e2), .int .i64 (-cols), .int .i64 (-rows)] wy fun e w' => ∃ (k3 n3 : Int) (s3 : ByteArray) (r3 t3 : Rf) (p3 : Option Addr) (m3 e3 : Nat), e = .returned (.tuple #[NV k3 n3 s3 r3 t3 (.slice p3 m3 e3), .nilIface]) ∧ Below wy.heap.size wy w' ∧ ∀ wz, Below w'.heap.size w' wz → Calls Tryz.prog 8 #[NV k3 n3 s3 r3 t3 (.slice p3 m3 e3), NV k n s r t (.slice p q c)] wz fun e w' => e = .returned (.bool true) ∧ Below wz.heap.size wz w') := fun wy hy => HVM.out wy k2 n2 s2 r2 t2 p2 m2 e2 (hL.next hy).below (hI.next hy) hck2 ⟨hcc, hrr⟩ hbd
      clear hbd hI hck2 HVC HVCn HVM HVMn
      go_wp2_with fail
      refine HX.mono ?_
      rintro e w7 ⟨rfl, hb7⟩
      have hL7 := hL.next hb7
      clear a0 a1 a2 a3 a4 a5 a6 a7 a8 a9 a10 a11
      obtain ⟨⟨a0, a1, a2, a3, a4, a5, a6, a7, a8, a9, a10, a11⟩, -⟩ := cells12 hL7.m
      go_wp2_with fail
      refine (HY.out _ hb7).mono ?_
      rintro e w8 ⟨k3, n3, s3, r3, t3, p3, m3, e3, rfl, hb8, hsm⟩
      have HSM : Hid (∀ wz, Below w8.heap.size w8 wz → Calls Tryz.prog 8 #[NV k3 n3 s3 r3 t3 (.slice p3 m3 e3), NV k n s r t (.slice p q c)] wz fun e w' => e = .returned (.bool true) ∧ Below wz.heap.size wz w') := hsm
      have hba8 : Below w8.heap.size w8 (w8.alloc (.cells (N12 k3 n3 s3 r3 t3 (.slice p3 m3 e3)) 28)) := (Below.refl _ _).alloc (Nat.le_refl _) _
      have hL8 := (hL7.next hb8).next hba8
      clear a0 a1 a2 a3 a4 a5 a6 a7 a8 a9 a10 a11 hsm
      obtain ⟨⟨d0, d1, d2, d3, d4, d5, d6, d7, d8, d9, d10, d11⟩, -⟩ := cells12 hL8.a
      obtain ⟨⟨a0, a1, a2, a3, a4, a5, a6, a7, a8, a9, a10, a11⟩, -⟩ := cells12 (blk_new w8 (.cells (N12 k3 n3 s3 r3 t3 (.slice p3 m3 e3)) 28))
      go_wp2_with fail
      refine (HSM.out _ hba8).mono ?_
      rintro e w9 ⟨rfl, hb9⟩
      have hL9 := hL8.next hb9
      clear a0 a1 a2 a3 a4 a5 a6 a7 a8 a9 a10 a11 d0 d1 d2 d3 d4 d5 d6 d7 d8 d9 d10 d11
      go_wp2_with fail
      go_ret
      exact ⟨rfl, hL9.below⟩
    · have HX := HVCn.out _ k2 n2 s2 r2 t2 p2 m2 e2 hL.below hI hck2
      have HY : Hid (∀ wy, Below wc.heap.size wc wy → Calls Tryz.prog 5 #[NV k2 n2 s2 r2 t2 (.slice p2 m2 e2), .int .i64 (-cols), .int .i64 (-rows)] wy fun e w' => (∃ a : Int, e = .returned (.tuple #[NV 0 0 nul .z .z (.slice none 0 0), .iface 40 (.int .i64 a)])) ∧ Below wy.heap.size wy w') := fun wy hy => HVMn.out wy k2 n2 s2 r2 t2 p2 m2 e2 (hL.next hy).below (hI.next hy) hck2 ⟨hcc, hrr⟩
      clear hbd hI hck2 HVC HVCn HVM HVMn
      go_wp2_with fail
      refine HX.mono ?_
      rintro e w7 ⟨⟨x7, rfl⟩, hb7⟩
      have hL7 := hL.next hb7
      clear a0 a1 a2 a3 a4 a5 a6 a7 a8 a9 a10 a11
      obtain ⟨⟨a0, a1, a2, a3, a4, a5, a6, a7, a8, a9, a10, a11⟩, -⟩ := cells12 hL7.m
      go_wp2_with fail
      refine (HY.out _ hb7).mono ?_
      rintro e w8 ⟨⟨x8, rfl⟩, hb8⟩
      have hba8 : Below w8.heap.size w8 (w8.alloc (.cells NZ 28)) := (Below.refl _ _).alloc (Nat.le_refl _) _
      have hL8 := (hL7.next hb8).next hba8
      clear a0 a1 a2 a3 a4 a5 a6 a7 a8 a9 a10 a11
      obtain ⟨⟨d0, d1, d2, d3, d4, d5, d6, d7, d8, d9, d10, d11⟩, -⟩ := cells12 hL8.a
      obtain ⟨⟨a0, a1, a2, a3, a4, a5, a6, a7, a8, a9, a10, a11⟩, -⟩ := cells12 (blk_new w8 (.cells NZ 28))
      have HZZ := same_zero (n := n) (s := s) (r := r) (t := t) (v := .slice p q c) HK0.out (w8.alloc (.cells NZ 28))
      go_wp2_with fail
      refine HZZ.mono ?_
      rintro e w9 ⟨rfl, hb9⟩
      have hL9 := hL8.next hb9
      clear a0 a1 a2 a3 a4 a5 a6 a7 a8 a9 a10 a11 d0 d1 d2 d3 d4 d5 d6 d7 d8 d9 d10 d11
      go_wp2_with fail
      go_ret
      exact ⟨rfl, hL9.below⟩
  · go_wp2_with fail
    go_ret
    exact ⟨rfl, hL.below⟩
end Go.Proofs.YtimagcmmaffpjaaGreatDoor.fm
