
/- The law FormatWide, from its last part on, by what Number answers. Conditions: as each theorem says. -/
import Derived.Test.YtnelglmbckgbgaaDoorFwb
import Derived.Test.YtnelglmbckgbgaaDoorFwc
namespace Go.Proofs.YtnelglmbckgbgaaDoor.fw
open Go.RowKit Go.Sort
def errV (e : Int) : Value := if e = 0 then .nilIface else .iface 40 (.int .i64 e)
def headR : Code → Option Nat
  | .region n _ _ => some n
  | .seq a _ => headR a
  | _ => none
/-- All from a region on, whatever it is bracketed with. -/
def findSeq (n : Nat) : Code → Option Code
  | .seq a b => if headR a = some n then some (.seq a b) else match findSeq n a with
    | some c => some c
    | none => findSeq n b
  | .cond _ a b => match findSeq n a with
    | some c => some c
    | none => findSeq n b
  | .loop c => findSeq n c
  | .block _ c => findSeq n c
  | .scope c => findSeq n c
  | _ => none
/-- Is a byte a letter? -/
def ltr (b : UInt8) : Bool := decide (65 ≤ b.toNat) && decide (b.toNat ≤ 90)
/-- The number that letters make. -/
def numL (l : List UInt8) : Nat := l.foldl (fun n b => n * 26 + (b.toNat - 64)) 0
theorem numL_snoc (l : List UInt8) (b : UInt8) : numL (l ++ [b]) = numL l * 26 + (b.toNat - 64) := by simp [numL]
/-- Are they the letters of a column? -/
def gdL (l : List UInt8) : Bool := !l.isEmpty && decide (l.length ≤ 5) && l.all ltr
def nmB (l : List UInt8) : Bool := gdL l && decide (numL l ≤ 1000000)
def nmE (l : List UInt8) : Int := if nmB l = true then 0 else 2
def nmN (l : List UInt8) : Int := if nmB l = true then (numL l : Nat) else 0
noncomputable def wtail31C : Code := ((Tryd.f3.body.bind (findSeq 31)).getD .skip)
set_option maxRecDepth 1000000 in
set_option maxHeartbeats 8000000 in
theorem wtail31 (s : ByteArray) (w0 w : World) (HB : Hid (Bw w0 w)) (HN : Hid (∀ wx, Bw w0 wx → Calls Tryd.prog 10 #[.string s] wx fun e w' => e = .returned (.tuple #[.int .i64 (nmN s.toList), errV (nmE s.toList)]) ∧ Bw wx w')) (HE : Hid (∀ wx e, Bw w0 wx → Calls Tryd.prog 7 #[errV e, .int .i64 e] wx fun r w' => r = .returned (.bool true) ∧ Bw wx w'))
    (l1 l2 l3 l4 l5 l6 l7 l8 l10 l11 l12 l13 l15 l16 l17 l18 l19 l20 l21 l22 l23 l24 l25 l26 l27 l28 l29 l30 l31 l32 l33 l34 l35 l36 l37 l38 l39 l40 l41 l42 l43 l44 l45 l46 l47 l48 l49 l50 l51 l52 l53 l54 l55 l56 l57 l58 l59 l60 l61 l62 l63 l64 l65 l66 l67 l68 l69 l70 l71 l72 l73 l74 l75 l76 l77 l78 l79 l80 l81 l82 l83 l84 l85 l86 l87 l88 l89 l90 l91 l92 l93 l94 l95 l96 l97 l98 l99 l100 l101 l102 l103 l104 l105 l106 l107 l108 l109 l110 l111 l112 l113 l114 l115 l116 l117 l118 l119 l120 l121 l122 l123 l124 l125 l126 l127 l128 : Value) :
    Code.wp Tryd.prog wtail31C (bodyPost Tryd.prog Tryd.f3 fun e w' => e = .returned (.bool true) ∧ Bw w0 w') ⟨#[.string s, l1, l2, l3, l4, l5, l6, l7, l8, .int .i64 (nmE s.toList), l10, l11, l12, l13, .int .i64 (nmN s.toList), l15, l16, l17, l18, l19, l20, l21, l22, l23, l24, l25, l26, l27, l28, l29, l30, l31, l32, l33, l34, l35, l36, l37, l38, l39, l40, l41, l42, l43, l44, l45, l46, l47, l48, l49, l50, l51, l52, l53, l54, l55, l56, l57, l58, l59, l60, l61, l62, l63, l64, l65, l66, l67, l68, l69, l70, l71, l72, l73, l74, l75, l76, l77, l78, l79, l80, l81, l82, l83, l84, l85, l86, l87, l88, l89, l90, l91, l92, l93, l94, l95, l96, l97, l98, l99, l100, l101, l102, l103, l104, l105, l106, l107, l108, l109, l110, l111, l112, l113, l114, l115, l116, l117, l118, l119, l120, l121, l122, l123, l124, l125, l126, l127, l128], []⟩ w := by
  dsimp only
  conv => arg 2; whnf
  have hn := HN.out w HB.out
  generalize nmN s.toList = n at *
  generalize nmE s.toList = e at *
  go_upto_region 32 with fail
  refine hn.mono ?_
  clear hn HN
  rintro r w1 ⟨rfl, hb1⟩
  have HB1 : Hid (Bw w0 w1) := HB.out.tr hb1
  have he := HE.out w1 e HB1.out
  clear hb1 HB HE
  generalize errV e = ev at *
  go_upto_region 32 with fail
  go_upto_region 33 with fail
  refine he.mono ?_
  clear he
  rintro r w2 ⟨rfl, hb2⟩
  have HB2 : Hid (Bw w0 w2) := HB1.out.tr hb2
  clear hb2 HB1
  go_wp2_with fail
  go_ret
  exact ⟨rfl, HB2.out⟩
end Go.Proofs.YtnelglmbckgbgaaDoor.fw
