import Derived.Test.YtgifkepklnhddaaGreatDoorQ7Jd
import Derived.Test.YtgifkepklnhddaaGreatDoorQ7Jf
import Derived.Deep.QuietTactic
import Derived.BigQuiet
namespace Go.Proofs.YtgifkepklnhddaaGreatDoor.fm
open Go.RowKit
section
variable (L:Lex) (s:ByteArray)
theorem XR_more {D j k5:Nat} {name:ByteArray} {ts:List T} {u:T} (hA:Arg L s D j=.ok u k5) (h44:nx s (skip s k5)=44) (hk:k5≤s.size):XR L s D name ts j=XR L s D name (ts++[u]) (skip s k5+1):=by
 unfold XR
 rw [hA]
 show (More L s D (ts++[u]) k5).bind _=_
 rw [More_eq L s D (ts++[u]) k5 hk,if_pos h44]
theorem XR_end {D j k5:Nat} {name:ByteArray} {ts:List T} {u:T} (hA:Arg L s D j=.ok u k5) (h41:nx s (skip s k5)=41) (hk:k5≤s.size):XR L s D name ts j=.ok (tCall name (ts++[u])) (skip s k5+1):=by
 unfold XR
 rw [hA]
 show (More L s D (ts++[u]) k5).bind _=_
 rw [More_eq L s D (ts++[u]) k5 hk,if_neg (by omega),if_pos h41]
 rfl
theorem XR_bad {D j k5:Nat} {name:ByteArray} {ts:List T} {u:T} (hA:Arg L s D j=.ok u k5) (h44:nx s (skip s k5)≠44) (h41:nx s (skip s k5)≠41) (hk:k5≤s.size):XR L s D name ts j=.err (skip s k5) 2:=by
 unfold XR
 rw [hA]
 show (More L s D (ts++[u]) k5).bind _=_
 rw [More_eq L s D (ts++[u]) k5 hk,if_neg h44,if_neg h41]
 rfl
theorem XR_err {D j f:Nat} {c:Int} {name:ByteArray} {ts:List T} (hA:Arg L s D j=.err f c):XR L s D name ts j=.err f c:=by
 unfold XR
 rw [hA]
 rfl
end
def CR (w wl:World) (pb kb:Nat) (s name:ByteArray) (d k:Nat) (wr0:Int) (RR:Rs T) (wr:World):Prop :=
 ∃ (sv:Value) (us:List Value) (ts:List T) (j:Nat) (tk0:Tk),wr.heap[w.heap.size]?=some (.cells NZ 57 (0,0))∧wr.heap[w.heap.size+1]?=some (.cells (N12 9 0 name .z .z sv) 57 (0,0))∧wr.heap[kb]?=some (.cells (K4 tk0) 137 (0,0))∧PD wr pb s j wr0 0 (d+1)∧j≤s.size∧k<j∧us.length≤j∧GV wl wr sv us ts∧Kp (fun b=>b=pb∨b=w.heap.size+1∨b=kb) wl wr ∧
  ∀ e w',OutR w pb s d wr0 (XR lexP s (d+1) name ts j) e w'→OutR w pb s d wr0 RR e w'
def JR (wq:World) (pb ab:Nat) (s:ByteArray) (D:Nat) (wr0:Int) (A:Rs T) (wx:World):Prop :=
 ∃ (a n:Int) (s1:ByteArray) (r1 t1:Rf) (p:Option Addr) (m c:Nat) (u:T) (j:Nat) (wr' bd:Int),wx.heap[ab]?=some (.cells (N12 a n s1 r1 t1 (.slice p m c)) 57 (0,0))∧Nd wx (Own wq wx) (NV a n s1 r1 t1 (.slice p m c)) u∧PD wx pb s j wr' bd D∧j≤s.size∧Kp (fun b=>b=pb∨b=ab) wq wx ∧
  ((∃ k,A=.ok u k∧bd=0∧wr'=wr0∧skip s j=skip s k)∨(∃ k:Nat,A=.err k bd∧wr'=k∧bd≠0))
def findCond (n:Nat):Code→Option Code
 | .cond (.tmp m) a b=>if m=n then some (.cond (.tmp m) a b) else match findCond n a with
  | some c=>some c
  | none=>findCond n b
 | .cond _ a b=>match findCond n a with
  | some c=>some c
  | none=>findCond n b
 | .seq a b=>match findCond n a with
  | some c=>some c
  | none=>findCond n b
 | .loop c=>findCond n c
 | .block _ c=>findCond n c
 | .scope c=>findCond n c
 | _=>none
noncomputable def boxC:Code:=((Tryz.f140.body.bind (findCond 87)).getD .skip)
section
variable {s:ByteArray} (hs:s.size≤200)
include hs
set_option maxRecDepth 1000000 in
set_option maxHeartbeats 16000000 in
theorem box_arm (pb kb rfb j d:Nat) (wr0:Int) (tk:Tk) (D:adr.Rd) (HRF:Hid (rfOf tk.t=⟨D.c,D.r,D.fc,D.fr⟩)) (l1 l2 l3 l4 l5 l8 l10 l11 l12 l13 l14 l15 l16 l17 l18 l19 l20 l21 l22 l23 l24 l25 l26 l27 l28 l29 l30 l31 l32 l33 l34 l35 l36 l37 l38 l39 l40 l41 l42 l43 l44 l45 l46 l47 l48 l49 l50 l51 l52 l53 l54 l55 l56 l57 l58 l59 l60 l61 l62 l63 l64 l65 l66 l67 l68 l69 l70 l71 l72 l73 l74 l75 l76 l77 l78 l79 l80 l81 l82 l83 l84 l85 l86 l88 l89 l90 l91 l92 l93 l94 l95 l96 l97 l98 l99 l100 l101 l102 l103 l104 l105 l106 l107 l108 l109 l110 l111 l112 l113 l114 l115 l116 l117 l118 l119 l120 l121 l122 l123 l124 l125 l126 l127 l128 l129 l130 l131 l132 l133 l134 l135 l136 l137 l138 l139 l140 l141 l142 l143 l144 l145 l146 l147 l148 l149 l150 l151 l152 l153 l154 l155 l156 l157 l158 l159 l160 l161 l162 l163 l164 l165 l166 l167 l168 l169 l170:Value) (w4:World) (hP4:PD w4 pb s j wr0 0 (d+1)) (hk4:w4.heap[kb]?=some (.cells (K4 tk) 137 (0,0)))
  (hrf4:w4.heap[rfb]?=some (.cells #[.int .i64 D.c,.int .i64 D.r,.bool D.fc,.bool D.fr] 54 (0,0))) (hab4:w4.heap[rfb+1]?=some (.cells NZ 57 (0,0))) (HS4:Hid (rfb+2≤w4.heap.size)) (hap:rfb+1≠pb) (hrp0:rfb≠pb) (hb1:tk.e<s.size)
  (HB2:Hid (∀ r2,refOf (tok s (tk.e+1))=some r2→Arg lexP s (d+1) j=.ok (tBox (rfOf tk.t) r2) (tokEnd s (tk.e+1)))) (HB3:Hid (refOf (tok s (tk.e+1))=none→Arg lexP s (d+1) j=.err (tk.e+1) 2))
  (K:Act→World→Prop) (Q:Exit→Act→World→Prop) (hK:∀ (x10 x11 x12 x42 x43 x44 x45 x46 x47 x48 x49 x50 x51 x52 x53 x54 x55 x56 x57 x58 x59 x60 x61 x62 x63 x64 x65 x66 x67 x68 x69 x70 x71 x72 x73 x74 x75 x76 x77 x78 x79 x80 x81 x82 x83 x84 x85 x86 x87 x88 x89 x90 x91 x92 x93 x94 x95 x96 x97 x98 x99 x100 x101 x102 x103 x104 x105 x106 x107 x108 x109 x110 x111 x112 x113 x114 x115 x116 x117 x118 x119 x120 x121 x122 x123 x124 x125 x126 x127 x128 x129 x130 x131 x132 x133 x134 x135 x136 x137 x138 x139 x140 x141 x142 x143 x144 x145 x146 x147 x148 x149 x150 x151 x152 x153 x154 x155 x156 x157 x158 x159 x160 x161 x162 x163 x164 x165 x166 x167 x168 x169:Value) (w':World),JR w4 pb (rfb+1) s (d+1) wr0 (Arg lexP s (d+1) j) w'→K ⟨#[ptr pb,l1,l2,l3,l4,l5,ptr kb,.pointer (some ⟨rfb,0,none⟩),l8,.pointer (some ⟨rfb+1,0,none⟩),x10,x11,x12,l13,l14,l15,l16,l17,l18,l19,l20,l21,l22,l23,l24,l25,l26,l27,l28,l29,l30,l31,l32,l33,l34,l35,l36,l37,l38,l39,l40,l41,x42,x43,x44,x45,x46,x47,x48,x49,x50,x51,x52,x53,x54,x55,x56,x57,x58,x59,x60,x61,x62,x63,x64,x65,x66,x67,x68,x69,x70,x71,x72,x73,x74,x75,x76,x77,x78,x79,x80,x81,x82,x83,x84,x85,x86,x87,x88,x89,x90,x91,x92,x93,x94,x95,x96,x97,x98,x99,x100,x101,x102,x103,x104,x105,x106,x107,x108,x109,x110,x111,x112,x113,x114,x115,x116,x117,x118,x119,x120,x121,x122,x123,x124,x125,x126,x127,x128,x129,x130,x131,x132,x133,x134,x135,x136,x137,x138,x139,x140,x141,x142,x143,x144,x145,x146,x147,x148,x149,x150,x151,x152,x153,x154,x155,x156,x157,x158,x159,x160,x161,x162,x163,x164,x165,x166,x167,x168,x169,l170],[]⟩ w') :
  Code.wp Tryz.prog boxC (Exit.then K Q) ⟨#[ptr pb,l1,l2,l3,l4,l5,ptr kb,.pointer (some ⟨rfb,0,none⟩),l8,.pointer (some ⟨rfb+1,0,none⟩),l10,l11,l12,l13,l14,l15,l16,l17,l18,l19,l20,l21,l22,l23,l24,l25,l26,l27,l28,l29,l30,l31,l32,l33,l34,l35,l36,l37,l38,l39,l40,l41,l42,l43,l44,l45,l46,l47,l48,l49,l50,l51,l52,l53,l54,l55,l56,l57,l58,l59,l60,l61,l62,l63,l64,l65,l66,l67,l68,l69,l70,l71,l72,l73,l74,l75,l76,l77,l78,l79,l80,l81,l82,l83,l84,l85,l86,.bool true,l88,l89,l90,l91,l92,l93,l94,l95,l96,l97,l98,l99,l100,l101,l102,l103,l104,l105,l106,l107,l108,l109,l110,l111,l112,l113,l114,l115,l116,l117,l118,l119,l120,l121,l122,l123,l124,l125,l126,l127,l128,l129,l130,l131,l132,l133,l134,l135,l136,l137,l138,l139,l140,l141,l142,l143,l144,l145,l146,l147,l148,l149,l150,l151,l152,l153,l154,l155,l156,l157,l158,l159,l160,l161,l162,l163,l164,l165,l166,l167,l168,l169,l170],[]⟩ w4:=by
 dsimp only at hK ⊢
 conv=>arg 2;whnf
 have hq1:tk.e+1≤s.size:=hb1
 have hle1:(tk.e:Int)<(s.size:Int):=by omega
 have HT2:Hid (∀ w,Calls Tryz.prog 81 #[.string s,.int .i64 (IntKind.i64.wrap ((tk.e:Int)+1))] w fun e w'=>e=.returned (KV (tkR s (tk.e+1)).kind ((tkR s (tk.e+1)).a:Nat) ((tkR s (tk.e+1)).e:Nat) (tkR s (tk.e+1)).t)∧Below w.heap.size w w'):=fun w=>by
  rw [Go.IntWalk.i64_in _ (by omega)]
  exact token_at s (tk.e+1) w hs hq1
 have hme:=(tk_spec s (tk.e+1) hq1).2.2
 have HMZ:Hid ((tkR s (tk.e+1)).t.size≤200):=tk_text s (tk.e+1) hs hq1
 have HMN:Hid (((tkR s (tk.e+1)).a≠tk.e+1∨(tkR s (tk.e+1)).kind≠1∨(adr.rdR (tkR s (tk.e+1)).t).ok=false)→Arg lexP s (d+1) j=.err (tk.e+1) 2):=fun q=>HB3.out (box_no s _ hq1 q)
 have HMY:Hid ((tkR s (tk.e+1)).a=tk.e+1→(tkR s (tk.e+1)).kind=1→(adr.rdR (tkR s (tk.e+1)).t).ok=true→Arg lexP s (d+1) j=.ok (tBox (rfOf tk.t) (rfOf (tkR s (tk.e+1)).t)) (tkR s (tk.e+1)).e):=fun q1 q2 q3=>by
  have hy:=box_yes s _ hq1 q1 q2 q3
  rw [hy.2]
  exact HB2.out _ hy.1
 clear HB2 HB3
 generalize tkR s (tk.e+1)=mk at *
 obtain⟨⟨c0,c1,c2,c3,c4⟩,f0,f1,f2,f3,f4⟩:=hP4.cells
 obtain⟨⟨z0,z1,z2,z3⟩,y0,y1,y2,y3⟩:=cells4f hk4
 go_upto_region 12 with fail
 go_cut [10] from 42 to 169 (fun s10 wx=>∃ mb,s10=ptr mb∧KS w4 mk mb wx)
 case first =>
  have hlt0:=hP4.lt
  have hltk:=lt_blk hk4
  have hne:w4.heap.size≠pb:=by omega
  have hne':pb≠w4.heap.size:=by omega
  have hnk:w4.heap.size≠kb:=by omega
  have hnk':kb≠w4.heap.size:=by omega
  have KK:Hid (∀ wx,Below w4.heap.size w4 wx→wx.cell? ⟨pb,0,none⟩=some (.string s)∧wx.cell? ⟨kb,2,none⟩=some (.int .i64 tk.e)):=fun wx hb=>⟨(hb.cell (p:=⟨pb,0,none⟩) hlt0).trans c0,(hb.cell (p:=⟨kb,2,none⟩) hltk).trans z2⟩
  clear c0 c1 c2 c3 c4 f0 f1 f2 f3 f4 z0 z1 z2 z3 y0 y1 y2 y3
  go_region_held3 (fun wx=>wx.cell? ⟨pb,0,none⟩=some (.string s)∧wx.cell? ⟨kb,2,none⟩=some (.int .i64 tk.e)) (exact KK.out _ (by (repeat (first | exact Below.refl _ _ | assumption | (refine Below.setCell ?_ (by first | exact Nat.le_refl _ | omega) _) | (refine Below.alloc ?_ (by first | exact Nat.le_refl _ | exact hb'.size | omega | (simp<;>omega)) _) | (refine Below.drew ?_))))) ((go_at_call 81;refine (HT2.out _).mono ?_;rintro e w1 ⟨rfl,hb⟩;have hb':Below w4.heap.size w4 w1:=(by first | exact kb1 hb | exact kb2 hb);first | (have hz:=kz_a hb;have hz4:=cells4f hz;obtain⟨⟨z0,z1,z2,z3⟩,y0,y1,y2,y3⟩:=hz4) | skip))
  all_goals
   go_wp2_with fail
   go_meet
   case rel=>first | exact⟨_,rfl,ks3 hb⟩ | exact ks2 hb (Q:=fun W=>∃ kb,_=ptr kb∧KS w4 mk kb W) (fun w2 h2=>⟨_,rfl,h2⟩)
 case rest =>
 obtain⟨mb,rfl,hS5⟩:=hcut
 clear c0 c1 c2 c3 c4 f0 f1 f2 f3 f4 z0 z1 z2 z3 y0 y1 y2 y3 HT2
 have hmlo:=hS5.lo
 have q4:=HS4.out
 have hmp:mb≠pb:=by have:=hP4.lt;omega
 have hma:mb≠rfb+1:=by omega
 have hrp:rfb≠pb:=hrp0
 have hP5:=hP4.below hS5.below
 have hk5:wc.heap[kb]?=some (.cells (K4 tk) 137 (0,0)):=by rw [hS5.below.block _ (lt_blk hk4)];exact hk4
 have hrf5:wc.heap[rfb]?=some (.cells #[.int .i64 D.c,.int .i64 D.r,.bool D.fc,.bool D.fr] 54 (0,0)):=by rw [hS5.below.block _ (lt_blk hrf4)];exact hrf4
 have hab5:wc.heap[rfb+1]?=some (.cells NZ 57 (0,0)):=by rw [hS5.below.block _ (lt_blk hab4)];exact hab4
 obtain⟨⟨z0,z1,z2,z3⟩,y0,y1,y2,y3⟩:=cells4f hS5.blk
 go_wp2_with fail
 go_at_call 142
 refine (adr.rref_any mk.t _ (by have:=HMZ.out;omega)).mono ?_
 rintro e w6 ⟨rfl,hb6⟩
 have HRM:Hid (rfOf mk.t=⟨(adr.rdR mk.t).c,(adr.rdR mk.t).r,(adr.rdR mk.t).fc,(adr.rdR mk.t).fr⟩):=rfl
 generalize adr.rdR mk.t=M at *
 clear z0 z1 z2 z3 y0 y1 y2 y3
 have hb7:Below wc.heap.size wc (w6.alloc (.cells #[.int .i64 M.c,.int .i64 M.r,.bool M.fc,.bool M.fr] 54)):=hb6.alloc hb6.size _
 have hP7:=hP5.below hb7
 have hk7:(w6.alloc (.cells #[.int .i64 M.c,.int .i64 M.r,.bool M.fc,.bool M.fr] 54)).heap[kb]?=some (.cells (K4 tk) 137 (0,0)):=by rw [hb7.block _ (lt_blk hk5)];exact hk5
 have hm7:(w6.alloc (.cells #[.int .i64 M.c,.int .i64 M.r,.bool M.fc,.bool M.fr] 54)).heap[mb]?=some (.cells (K4 mk) 137 (0,0)):=by rw [hb7.block _ (lt_blk hS5.blk)];exact hS5.blk
 have hrf7:(w6.alloc (.cells #[.int .i64 M.c,.int .i64 M.r,.bool M.fc,.bool M.fr] 54)).heap[rfb]?=some (.cells #[.int .i64 D.c,.int .i64 D.r,.bool D.fc,.bool D.fr] 54 (0,0)):=by rw [hb7.block _ (lt_blk hrf5)];exact hrf5
 have hab7:(w6.alloc (.cells #[.int .i64 M.c,.int .i64 M.r,.bool M.fc,.bool M.fr] 54)).heap[rfb+1]?=some (.cells NZ 57 (0,0)):=by rw [hb7.block _ (lt_blk hab5)];exact hab5
 have hrm7:=blk_new w6 (.cells #[.int .i64 M.c,.int .i64 M.r,.bool M.fc,.bool M.fr] 54)
 have hK7:Kp (fun b=>b=pb∨b=rfb+1) w4 (w6.alloc (.cells #[.int .i64 M.c,.int .i64 M.r,.bool M.fc,.bool M.fr] 54)):=((Kp.refl _ _).below hS5.below).below hb7
 have hmp7:w6.heap.size≠pb:=by have:=hP5.lt;have:=hb6.size;omega
 go_upto_region 14 with fail
 generalize w6.alloc (.cells #[.int .i64 M.c,.int .i64 M.r,.bool M.fc,.bool M.fr] 54)=w7 at *
 generalize w6.heap.size=rmb at *
 clear hb7 hb6 hP5 hk5 hrf5 hab5 hS5
 obtain⟨⟨z0,z1,z2,z3⟩,y0,y1,y2,y3⟩:=cells4f hk7
 obtain⟨⟨x0,x1,x2,x3⟩,v0,v1,v2,v3⟩:=cells4f hm7
 obtain⟨mok,hmok⟩:∃ mok,M.ok=mok:=⟨_,rfl⟩
 rw [hmok] at HMN HMY ⊢
 clear hmok
 obtain⟨bad,hbad⟩:∃ bad:Bool,bad=!(decide (mk.a=tk.e+1) && (mk.kind == 1) && mok):=⟨_,rfl⟩
 have HBAD:Hid (bad=!(decide (mk.a=tk.e+1) && (mk.kind == 1) && mok)):=hbad
 clear hbad
 go_cut [116] from 42 to 169 (fun s116 wx=>s116=.bool bad∧w7=wx)
 case first =>
  by_cases ha:mk.a=tk.e+1
  ·have ha':(((mk.a:Nat):Int) != (tk.e:Int)+1)=false:=by rw [bne_eq_false_iff_eq];omega
   cases hk1:(mk.kind == 1) with
   | false =>
    have hk2:(mk.kind != 1)=true:=by rw [bne,hk1];rfl
    have HB4:Hid (bad=true):=by unfold Hid;rw [HBAD.out,hk1];simp
    clear HBAD HMN HMY ha hk1
    go_wp2_with fail
    go_meet
    case rel=>exact⟨by rw [HB4.out],rfl⟩
   | true =>
    have hk2:(mk.kind != 1)=false:=by rw [bne,hk1];rfl
    have HB4:Hid (bad=!mok):=by unfold Hid;rw [HBAD.out,hk1,decide_eq_true ha];simp
    clear HBAD HMN HMY ha hk1
    go_wp2_with fail
    go_meet
    case rel=>exact⟨by rw [HB4.out],rfl⟩
  ·have ha':(((mk.a:Nat):Int) != (tk.e:Int)+1)=true:=by rw [bne_iff_ne];omega
   have HB4:Hid (bad=true):=by unfold Hid;rw [HBAD.out,decide_eq_false ha];rfl
   clear HBAD HMN HMY ha
   go_wp2_with fail
   go_meet
   case rel=>exact⟨by rw [HB4.out],rfl⟩
 case rest =>
 obtain⟨rfl,hwe⟩:=hcut
 subst hwe
 clear z0 z1 z2 z3 y0 y1 y2 y3 x0 x1 x2 x3 v0 v1 v2 v3
 cases bad with
 | true =>
  have HA:Hid (Arg lexP s (d+1) j=.err (tk.e+1) 2):=HMN.out (by
   have hb:=HBAD.out
   by_cases ha:mk.a=tk.e+1
   ·cases hk1:(mk.kind == 1) with
    | false=>exact .inr (.inl (beq_eq_false_iff_ne.1 hk1))
    | true =>
     rw [hk1,decide_eq_true ha] at hb
     simp at hb
     exact .inr (.inr hb)
   ·exact .inl ha)
  clear HMN HMY HBAD
  obtain⟨⟨z0,z1,z2,z3⟩,y0,y1,y2,y3⟩:=cells4f hk7
  go_wp2_with fail
  go_at_call 82
  rw [show ((tk.e:Int)+1)=((tk.e+1:Nat):Int) from rfl]
  refine (fail_first pb j (d+1) wr0 s (tk.e+1) 2 _ hP7).mono ?_
  rintro e w8 ⟨rfl,hP8,hK8⟩
  clear z0 z1 z2 z3 y0 y1 y2 y3
  have hm8:=hK8.blk hm7 hmp
  have hrf8:=hK8.blk hrf7 hrp
  have hrm8:=hK8.blk hrm7 hmp7
  have hab8:=hK8.blk hab7 hap
  have hKw8:=hK7.trans hK8 (fun n e=>.inl (.inl e))
  have hPs:=hP8.setAt mk.e
  have hKs:=kpset w8 pb 1 (.int .i64 mk.e)
  have hrf9:=hKs.blk hrf8 hrp
  have hrm9:=hKs.blk hrm8 hmp7
  have hab9:=hKs.blk hab8 hap
  have hKw9:=hKw8.trans hKs (fun n e=>.inl (.inl e))
  obtain⟨⟨c0,c1,c2,c3,c4⟩,f0,f1,f2,f3,f4⟩:=hP8.cells
  obtain⟨⟨z0,z1,z2,z3⟩,y0,y1,y2,y3⟩:=cells4f hm8
  obtain⟨⟨x0,x1,x2,x3⟩,v0,v1,v2,v3⟩:=cells4f hrf9
  obtain⟨⟨i0,i1,i2,i3⟩,o0,o1,o2,o3⟩:=cells4f hrm9
  obtain⟨⟨d0,d1,d2,d3,d4,d5,d6,d7,d8,d9,d10,d11⟩,df⟩:=cells12 hab9
  go_wp2_with fail
  clear c0 c1 c2 c3 c4 f0 f1 f2 f3 f4 z0 z1 z2 z3 y0 y1 y2 y3 d0 d1 d2 d3 d4 d5 d6 d7 d8 d9 d10 d11 df x0 x1 x2 x3 v0 v1 v2 v3 i0 i1 i2 i3 o0 o1 o2 o3
  refine fin12 hab9 (Q:=fun W=>JR w4 pb (rfb+1) s (d+1) wr0 (Arg lexP s (d+1) j) W) ?_
  intro w9 hq9 hk9
  exact⟨6,0,nul,⟨D.c,D.r,D.fc,D.fr⟩,⟨M.c,M.r,M.fc,M.fr⟩,none,0,0,tBox ⟨D.c,D.r,D.fc,D.fr⟩ ⟨M.c,M.r,M.fc,M.fr⟩,mk.e,_,_,hq9,Nd.leaf,hPs.keep hk9 (fun e=>hap e.symm),hme,hKw9.trans hk9 (fun n e=>.inl (.inr e)),.inr ⟨tk.e+1,HA.out,rfl,by omega⟩⟩
 | false =>
  have HA:Hid (Arg lexP s (d+1) j=.ok (tBox (rfOf tk.t) (rfOf mk.t)) mk.e):=by
   have hb:=HBAD.out
   simp at hb
   exact HMY.out hb.1.1 hb.1.2 hb.2
  clear HMN HMY HBAD
  have hP8:=hP7
  have hm8:=hm7
  have hrf8:=hrf7
  have hrm8:=hrm7
  have hab8:=hab7
  have hKw8:=hK7
  obtain⟨w8,rfl⟩:∃ w8,w8=w7:=⟨_,rfl⟩
  clear hP7 hm7 hrf7 hrm7 hab7 hK7
  have hPs:=hP8.setAt mk.e
  have hKs:=kpset w8 pb 1 (.int .i64 mk.e)
  have hrf9:=hKs.blk hrf8 hrp
  have hrm9:=hKs.blk hrm8 hmp7
  have hab9:=hKs.blk hab8 hap
  have hKw9:=hKw8.trans hKs (fun n e=>.inl (.inl e))
  obtain⟨⟨c0,c1,c2,c3,c4⟩,f0,f1,f2,f3,f4⟩:=hP8.cells
  obtain⟨⟨z0,z1,z2,z3⟩,y0,y1,y2,y3⟩:=cells4f hm8
  obtain⟨⟨x0,x1,x2,x3⟩,v0,v1,v2,v3⟩:=cells4f hrf9
  obtain⟨⟨i0,i1,i2,i3⟩,o0,o1,o2,o3⟩:=cells4f hrm9
  obtain⟨⟨d0,d1,d2,d3,d4,d5,d6,d7,d8,d9,d10,d11⟩,df⟩:=cells12 hab9
  go_wp2_with fail
  clear c0 c1 c2 c3 c4 f0 f1 f2 f3 f4 z0 z1 z2 z3 y0 y1 y2 y3 d0 d1 d2 d3 d4 d5 d6 d7 d8 d9 d10 d11 df x0 x1 x2 x3 v0 v1 v2 v3 i0 i1 i2 i3 o0 o1 o2 o3
  refine fin12 hab9 (Q:=fun W=>JR w4 pb (rfb+1) s (d+1) wr0 (Arg lexP s (d+1) j) W) ?_
  intro w9 hq9 hk9
  exact⟨6,0,nul,⟨D.c,D.r,D.fc,D.fr⟩,⟨M.c,M.r,M.fc,M.fr⟩,none,0,0,tBox ⟨D.c,D.r,D.fc,D.fr⟩ ⟨M.c,M.r,M.fc,M.fr⟩,mk.e,_,_,hq9,Nd.leaf,hPs.keep hk9 (fun e=>hap e.symm),hme,hKw9.trans hk9 (fun n e=>.inl (.inr e)),.inl ⟨mk.e,by rw [HA.out,HRF.out,HRM.out],rfl,rfl,rfl⟩⟩
end
end Go.Proofs.YtgifkepklnhddaaGreatDoor.fm
namespace Go.Proofs.YtgifkepklnhddaaGreatDoor.fm
open Go.RowKit
def findReg (n:Nat):Code→Option Code
 | .region m ops b=>if m=n then some (.region m ops b) else none
 | .cond _ a b=>match findReg n a with
  | some c=>some c
  | none=>findReg n b
 | .seq a b=>match findReg n a with
  | some c=>some c
  | none=>findReg n b
 | .loop c=>findReg n c
 | .block _ c=>findReg n c
 | .scope c=>findReg n c
 | _=>none
noncomputable def reg8C:Code:=((Tryz.f140.body.bind (findReg 8)).getD .skip)
noncomputable def reg11C:Code:=((Tryz.f140.body.bind (findReg 11)).getD .skip)
noncomputable def reg20C:Code:=((Tryz.f140.body.bind (findReg 20)).getD .skip)
noncomputable def reg21C:Code:=((Tryz.f140.body.bind (findReg 21)).getD .skip)
section
variable {s:ByteArray} (hs:s.size≤200)
include hs
set_option maxRecDepth 1000000 in
set_option maxHeartbeats 16000000 in
theorem tok8 (pb kb j D:Nat) (wr0 bd:Int) (tk0:Tk) (wr:World) (hP:PD wr pb s j wr0 bd D) (hj:j≤s.size) (hkb:wr.heap[kb]?=some (.cells (K4 tk0) 137 (0,0))) (hkp:kb≠pb) (l1 l2 l3 l4 l5 l7 l8 l9 l10 l11 l12 l13 l14 l15 l16 l17 l18 l19 l20 l21 l22 l23 l24 l25 l26 l27 l28 l29 l30 l31 l32 l33 l34 l35 l36 l37 l38 l39 l40 l41 l42 l43 l44 l45 l46 l47 l48 l49 l50 l51 l52 l53 l54 l55 l56 l57 l58 l59 l60 l61 l62 l63 l64 l65 l66 l67 l68 l69 l70 l71 l72 l73 l74 l75 l76 l77 l78 l79 l80 l81 l82 l83 l84 l85 l86 l87 l88 l89 l90 l91 l92 l93 l94 l95 l96 l97 l98 l99 l100 l101 l102 l103 l104 l105 l106 l107 l108 l109 l110 l111 l112 l113 l114 l115 l116 l117 l118 l119 l120 l121 l122 l123 l124 l125 l126 l127 l128 l129 l130 l131 l132 l133 l134 l135 l136 l137 l138 l139 l140 l141 l142 l143 l144 l145 l146 l147 l148 l149 l150 l151 l152 l153 l154 l155 l156 l157 l158 l159 l160 l161 l162 l163 l164 l165 l166 l167 l168 l169 l170:Value) (K:Act→World→Prop) (Q:Exit→Act→World→Prop) (hK:∀ (x47 x48 x49 x50 x51 x52 x53 x54 x55:Value) (w':World),KT wr (tkR s j) kb w'→K ⟨#[ptr pb,l1,l2,l3,l4,l5,ptr kb,l7,l8,l9,l10,l11,l12,l13,l14,l15,l16,l17,l18,l19,l20,l21,l22,l23,l24,l25,l26,l27,l28,l29,l30,l31,l32,l33,l34,l35,l36,l37,l38,l39,l40,l41,l42,l43,l44,l45,l46,x47,x48,x49,x50,x51,x52,x53,x54,x55,l56,l57,l58,l59,l60,l61,l62,l63,l64,l65,l66,l67,l68,l69,l70,l71,l72,l73,l74,l75,l76,l77,l78,l79,l80,l81,l82,l83,l84,l85,l86,l87,l88,l89,l90,l91,l92,l93,l94,l95,l96,l97,l98,l99,l100,l101,l102,l103,l104,l105,l106,l107,l108,l109,l110,l111,l112,l113,l114,l115,l116,l117,l118,l119,l120,l121,l122,l123,l124,l125,l126,l127,l128,l129,l130,l131,l132,l133,l134,l135,l136,l137,l138,l139,l140,l141,l142,l143,l144,l145,l146,l147,l148,l149,l150,l151,l152,l153,l154,l155,l156,l157,l158,l159,l160,l161,l162,l163,l164,l165,l166,l167,l168,l169,l170],[]⟩ w') :
  Code.wp Tryz.prog reg8C (Exit.then K Q) ⟨#[ptr pb,l1,l2,l3,l4,l5,ptr kb,l7,l8,l9,l10,l11,l12,l13,l14,l15,l16,l17,l18,l19,l20,l21,l22,l23,l24,l25,l26,l27,l28,l29,l30,l31,l32,l33,l34,l35,l36,l37,l38,l39,l40,l41,l42,l43,l44,l45,l46,l47,l48,l49,l50,l51,l52,l53,l54,l55,l56,l57,l58,l59,l60,l61,l62,l63,l64,l65,l66,l67,l68,l69,l70,l71,l72,l73,l74,l75,l76,l77,l78,l79,l80,l81,l82,l83,l84,l85,l86,l87,l88,l89,l90,l91,l92,l93,l94,l95,l96,l97,l98,l99,l100,l101,l102,l103,l104,l105,l106,l107,l108,l109,l110,l111,l112,l113,l114,l115,l116,l117,l118,l119,l120,l121,l122,l123,l124,l125,l126,l127,l128,l129,l130,l131,l132,l133,l134,l135,l136,l137,l138,l139,l140,l141,l142,l143,l144,l145,l146,l147,l148,l149,l150,l151,l152,l153,l154,l155,l156,l157,l158,l159,l160,l161,l162,l163,l164,l165,l166,l167,l168,l169,l170],[]⟩ wr:=by
 dsimp only at hK ⊢
 conv=>arg 2;whnf
 have HT:Hid (∀ w,Calls Tryz.prog 81 #[.string s,.int .i64 j] w fun e w'=>e=.returned (KV (tkR s j).kind ((tkR s j).a:Nat) ((tkR s j).e:Nat) (tkR s j).t)∧Below w.heap.size w w'):=fun w=>token_at s j w hs hj
 obtain⟨tk,htk⟩:∃ tk,tkR s j=tk:=⟨_,rfl⟩
 rw [htk] at HT hK
 clear htk
 obtain⟨⟨c0,c1,c2,c3,c4⟩,f0,f1,f2,f3,f4⟩:=hP.cells
 have hlt0:=hP.lt
 have hltk:=lt_blk hkb
 have hdr:Below wr.heap.size wr wr.drew:=(Below.refl _ _).drew
 have KK:Hid (∀ wx,Below wr.heap.size wr wx→wx.cell? ⟨pb,0,none⟩=some (.string s)∧wx.cell? ⟨pb,1,none⟩=some (.int .i64 j)):=fun wx hb=>⟨(hb.cell (p:=⟨pb,0,none⟩) hlt0).trans c0,(hb.cell (p:=⟨pb,1,none⟩) hlt0).trans c1⟩
 have K2:Hid (∀ wx,KT wr tk kb wx→wx.cell? ⟨pb,0,none⟩=some (.string s)∧wx.cell? ⟨pb,1,none⟩=some (.int .i64 j)):=fun wx hb=>by
  have:=(hP.keep hb.kp (fun e=>hkp e.symm)).cells.1
  exact⟨this.1,this.2.1⟩
 clear c0 c1 c2 c3 c4 f0 f1 f2 f3 f4
 go_region_held3 (fun wx=>wx.cell? ⟨pb,0,none⟩=some (.string s)∧wx.cell? ⟨pb,1,none⟩=some (.int .i64 j)) (first | with_reducible exact KK.out _ hdr | with_reducible exact KK.out _ hb' | exact kt2 hkb hb' (Q:=fun W=>W.cell? ⟨pb,0,none⟩=some (.string s)∧W.cell? ⟨pb,1,none⟩=some (.int .i64 j)) (fun w2 h2=>K2.out w2 h2)) ((go_at_call 81;refine (HT.out _).mono ?_;rintro e w1 ⟨rfl,hb⟩;have hb':Below wr.heap.size wr w1:=kb1 hb;have hz:w1.heap[kb]?=some (.cells (K4 tk0) 137 (0,0)):=((hb'.block _ hltk).trans hkb);have hz4:=cells4f hz;obtain⟨⟨z0,z1,z2,z3⟩,y0,y1,y2,y3⟩:=hz4))
 all_goals
  go_wp2_with fail
  exact kt2 hkb hb' (Q:=fun W=>KT wr tk kb W) (fun w2 h2=>h2)
set_option maxRecDepth 1000000 in
set_option maxHeartbeats 16000000 in
theorem tok20 (pb kb j D:Nat) (wr0 bd:Int) (tk0:Tk) (wr:World) (hP:PD wr pb s j wr0 bd D) (hj:j≤s.size) (hkb:wr.heap[kb]?=some (.cells (K4 tk0) 137 (0,0))) (hkp:kb≠pb) (l1 l2 l3 l4 l5 l7 l8 l9 l10 l11 l12 l13 l14 l15 l16 l17 l18 l19 l20 l21 l22 l23 l24 l25 l26 l27 l28 l29 l30 l31 l32 l33 l34 l35 l36 l37 l38 l39 l40 l41 l42 l43 l44 l45 l46 l47 l48 l49 l50 l51 l52 l53 l54 l55 l56 l57 l58 l59 l60 l61 l62 l63 l64 l65 l66 l67 l68 l69 l70 l71 l72 l73 l74 l75 l76 l77 l78 l79 l80 l81 l82 l83 l84 l85 l86 l87 l88 l89 l90 l91 l92 l93 l94 l95 l96 l97 l98 l99 l100 l101 l102 l103 l104 l105 l106 l107 l108 l109 l110 l111 l112 l113 l114 l115 l116 l117 l118 l119 l120 l121 l122 l123 l124 l125 l126 l127 l128 l129 l130 l131 l132 l133 l134 l135 l136 l137 l138 l139 l140 l141 l142 l143 l144 l145 l146 l147 l148 l149 l150 l151 l152 l153 l154 l155 l156 l157 l158 l159 l160 l161 l162 l163 l164 l165 l166 l167 l168 l169 l170:Value) (K:Act→World→Prop) (Q:Exit→Act→World→Prop) (hK:∀ (x138 x139 x140 x141 x142 x143 x144 x145 x146:Value) (w':World),KT wr (tkR s j) kb w'→K ⟨#[ptr pb,l1,l2,l3,l4,l5,ptr kb,l7,l8,l9,l10,l11,l12,l13,l14,l15,l16,l17,l18,l19,l20,l21,l22,l23,l24,l25,l26,l27,l28,l29,l30,l31,l32,l33,l34,l35,l36,l37,l38,l39,l40,l41,l42,l43,l44,l45,l46,l47,l48,l49,l50,l51,l52,l53,l54,l55,l56,l57,l58,l59,l60,l61,l62,l63,l64,l65,l66,l67,l68,l69,l70,l71,l72,l73,l74,l75,l76,l77,l78,l79,l80,l81,l82,l83,l84,l85,l86,l87,l88,l89,l90,l91,l92,l93,l94,l95,l96,l97,l98,l99,l100,l101,l102,l103,l104,l105,l106,l107,l108,l109,l110,l111,l112,l113,l114,l115,l116,l117,l118,l119,l120,l121,l122,l123,l124,l125,l126,l127,l128,l129,l130,l131,l132,l133,l134,l135,l136,l137,x138,x139,x140,x141,x142,x143,x144,x145,x146,l147,l148,l149,l150,l151,l152,l153,l154,l155,l156,l157,l158,l159,l160,l161,l162,l163,l164,l165,l166,l167,l168,l169,l170],[]⟩ w') :
  Code.wp Tryz.prog reg20C (Exit.then K Q) ⟨#[ptr pb,l1,l2,l3,l4,l5,ptr kb,l7,l8,l9,l10,l11,l12,l13,l14,l15,l16,l17,l18,l19,l20,l21,l22,l23,l24,l25,l26,l27,l28,l29,l30,l31,l32,l33,l34,l35,l36,l37,l38,l39,l40,l41,l42,l43,l44,l45,l46,l47,l48,l49,l50,l51,l52,l53,l54,l55,l56,l57,l58,l59,l60,l61,l62,l63,l64,l65,l66,l67,l68,l69,l70,l71,l72,l73,l74,l75,l76,l77,l78,l79,l80,l81,l82,l83,l84,l85,l86,l87,l88,l89,l90,l91,l92,l93,l94,l95,l96,l97,l98,l99,l100,l101,l102,l103,l104,l105,l106,l107,l108,l109,l110,l111,l112,l113,l114,l115,l116,l117,l118,l119,l120,l121,l122,l123,l124,l125,l126,l127,l128,l129,l130,l131,l132,l133,l134,l135,l136,l137,l138,l139,l140,l141,l142,l143,l144,l145,l146,l147,l148,l149,l150,l151,l152,l153,l154,l155,l156,l157,l158,l159,l160,l161,l162,l163,l164,l165,l166,l167,l168,l169,l170],[]⟩ wr:=by
 dsimp only at hK ⊢
 conv=>arg 2;whnf
 have HT:Hid (∀ w,Calls Tryz.prog 81 #[.string s,.int .i64 j] w fun e w'=>e=.returned (KV (tkR s j).kind ((tkR s j).a:Nat) ((tkR s j).e:Nat) (tkR s j).t)∧Below w.heap.size w w'):=fun w=>token_at s j w hs hj
 obtain⟨tk,htk⟩:∃ tk,tkR s j=tk:=⟨_,rfl⟩
 rw [htk] at HT hK
 clear htk
 obtain⟨⟨c0,c1,c2,c3,c4⟩,f0,f1,f2,f3,f4⟩:=hP.cells
 have hlt0:=hP.lt
 have hltk:=lt_blk hkb
 have hdr:Below wr.heap.size wr wr.drew:=(Below.refl _ _).drew
 have KK:Hid (∀ wx,Below wr.heap.size wr wx→wx.cell? ⟨pb,0,none⟩=some (.string s)∧wx.cell? ⟨pb,1,none⟩=some (.int .i64 j)):=fun wx hb=>⟨(hb.cell (p:=⟨pb,0,none⟩) hlt0).trans c0,(hb.cell (p:=⟨pb,1,none⟩) hlt0).trans c1⟩
 have K2:Hid (∀ wx,KT wr tk kb wx→wx.cell? ⟨pb,0,none⟩=some (.string s)∧wx.cell? ⟨pb,1,none⟩=some (.int .i64 j)):=fun wx hb=>by
  have:=(hP.keep hb.kp (fun e=>hkp e.symm)).cells.1
  exact⟨this.1,this.2.1⟩
 clear c0 c1 c2 c3 c4 f0 f1 f2 f3 f4
 go_region_held3 (fun wx=>wx.cell? ⟨pb,0,none⟩=some (.string s)∧wx.cell? ⟨pb,1,none⟩=some (.int .i64 j)) (first | with_reducible exact KK.out _ hdr | with_reducible exact KK.out _ hb' | exact kt2 hkb hb' (Q:=fun W=>W.cell? ⟨pb,0,none⟩=some (.string s)∧W.cell? ⟨pb,1,none⟩=some (.int .i64 j)) (fun w2 h2=>K2.out w2 h2)) ((go_at_call 81;refine (HT.out _).mono ?_;rintro e w1 ⟨rfl,hb⟩;have hb':Below wr.heap.size wr w1:=kb1 hb;have hz:w1.heap[kb]?=some (.cells (K4 tk0) 137 (0,0)):=((hb'.block _ hltk).trans hkb);have hz4:=cells4f hz;obtain⟨⟨z0,z1,z2,z3⟩,y0,y1,y2,y3⟩:=hz4))
 all_goals
  go_wp2_with fail
  exact kt2 hkb hb' (Q:=fun W=>KT wr tk kb W) (fun w2 h2=>h2)
omit hs in
set_option maxRecDepth 1000000 in
set_option maxHeartbeats 16000000 in
theorem comma21 (pb kb j D:Nat) (wr0 bd:Int) (tk5:Tk) (cm:Bool) (HCM:Hid (cm=((bd == 0) && (tk5.kind == 4) && (tk5.t.toList == [44])))) (w9:World) (hP9:PD w9 pb s j wr0 bd D) (hk9:w9.heap[kb]?=some (.cells (K4 tk5) 137 (0,0))) (l1 l2 l3 l4 l5 l7 l8 l9 l10 l11 l12 l13 l14 l15 l16 l17 l18 l19 l20 l21 l22 l23 l24 l25 l26 l27 l28 l29 l30 l31 l32 l33 l34 l35 l36 l37 l38 l39 l40 l41 l42 l43 l44 l45 l46 l47 l48 l49 l50 l51 l52 l53 l54 l55 l56 l57 l58 l59 l60 l61 l62 l63 l64 l65 l66 l67 l68 l69 l70 l71 l72 l73 l74 l75 l76 l77 l78 l79 l80 l81 l82 l83 l84 l85 l86 l87 l88 l89 l90 l91 l92 l93 l94 l95 l96 l97 l98 l99 l100 l101 l102 l103 l104 l105 l106 l107 l108 l109 l110 l111 l112 l113 l114 l115 l116 l117 l118 l119 l120 l121 l122 l123 l124 l125 l126 l127 l128 l129 l130 l131 l132 l133 l134 l135 l136 l137 l138 l139 l140 l141 l142 l143 l144 l145 l146 l147 l148 l149 l150 l151 l152 l153 l154 l155 l156 l157 l158 l159 l160 l161 l162 l163 l164 l165 l166 l167 l168 l169 l170:Value) (K:Act→World→Prop) (Q:Exit→Act→World→Prop) (hK:∀ (x147 x148 x149 x150 x151 x152 x153 x154 x155 x156 x157 x158 x159 x160:Value) (w':World),w9=w'→K ⟨#[ptr pb,l1,l2,l3,l4,l5,ptr kb,l7,l8,l9,l10,l11,l12,l13,l14,l15,l16,l17,l18,l19,l20,l21,l22,l23,l24,l25,l26,l27,l28,l29,l30,l31,l32,l33,l34,l35,l36,l37,l38,l39,l40,l41,l42,l43,l44,l45,l46,l47,l48,l49,l50,l51,l52,l53,l54,l55,l56,l57,l58,l59,l60,l61,l62,l63,l64,l65,l66,l67,l68,l69,l70,l71,l72,l73,l74,l75,l76,l77,l78,l79,l80,l81,l82,l83,l84,l85,l86,l87,l88,l89,l90,l91,l92,l93,l94,l95,l96,l97,l98,l99,l100,l101,l102,l103,l104,l105,l106,l107,l108,l109,l110,l111,l112,l113,l114,l115,l116,l117,l118,l119,l120,l121,l122,l123,l124,l125,l126,l127,l128,l129,l130,l131,l132,l133,l134,l135,l136,l137,l138,l139,l140,l141,l142,l143,l144,l145,l146,x147,x148,x149,x150,x151,x152,x153,x154,x155,x156,x157,x158,x159,x160,.bool cm,l162,l163,l164,l165,l166,l167,l168,l169,l170],[]⟩ w') :
  Code.wp Tryz.prog reg21C (Exit.then K Q) ⟨#[ptr pb,l1,l2,l3,l4,l5,ptr kb,l7,l8,l9,l10,l11,l12,l13,l14,l15,l16,l17,l18,l19,l20,l21,l22,l23,l24,l25,l26,l27,l28,l29,l30,l31,l32,l33,l34,l35,l36,l37,l38,l39,l40,l41,l42,l43,l44,l45,l46,l47,l48,l49,l50,l51,l52,l53,l54,l55,l56,l57,l58,l59,l60,l61,l62,l63,l64,l65,l66,l67,l68,l69,l70,l71,l72,l73,l74,l75,l76,l77,l78,l79,l80,l81,l82,l83,l84,l85,l86,l87,l88,l89,l90,l91,l92,l93,l94,l95,l96,l97,l98,l99,l100,l101,l102,l103,l104,l105,l106,l107,l108,l109,l110,l111,l112,l113,l114,l115,l116,l117,l118,l119,l120,l121,l122,l123,l124,l125,l126,l127,l128,l129,l130,l131,l132,l133,l134,l135,l136,l137,l138,l139,l140,l141,l142,l143,l144,l145,l146,l147,l148,l149,l150,l151,l152,l153,l154,l155,l156,l157,l158,l159,l160,l161,l162,l163,l164,l165,l166,l167,l168,l169,l170],[]⟩ w9:=by
 dsimp only at hK ⊢
 conv=>arg 2;whnf
 obtain⟨⟨c0,c1,c2,c3,c4⟩,f0,f1,f2,f3,f4⟩:=hP9.cells
 obtain⟨⟨z0,z1,z2,z3⟩,y0,y1,y2,y3⟩:=cells4f hk9
 cases h1:(bd == 0) with
 | false =>
  obtain rfl:cm=false:=by rw [HCM.out,h1];rfl
  clear HCM
  go_wp2_with fail
  rfl
 | true =>
  cases h2:(tk5.kind == 4) with
  | false =>
   obtain rfl:cm=false:=by rw [HCM.out,h1,h2];rfl
   clear HCM
   go_wp2_with fail
   rfl
  | true =>
   cases h3:(tk5.t.toList == [44]) with
   | false =>
    obtain rfl:cm=false:=by rw [HCM.out,h1,h2,h3];rfl
    clear HCM
    go_wp2_with fail
    rfl
   | true =>
    obtain rfl:cm=true:=by rw [HCM.out,h1,h2,h3];rfl
    clear HCM
    go_wp2_with fail
    rfl
end
end Go.Proofs.YtgifkepklnhddaaGreatDoor.fm
namespace Go.Proofs.YtgifkepklnhddaaGreatDoor.fm
open Go.RowKit
section
variable {s:ByteArray} (hs:s.size≤200)
include hs
omit hs in
set_option maxRecDepth 1000000 in
set_option maxHeartbeats 16000000 in
theorem guard11 (pb kb j D:Nat) (wr0 bd:Int) (tk:Tk) (ok g:Bool) (HBD:Hid (g=((tk.kind == 1) && ok && decide (nx s tk.e=58)))) (w3:World) (hP3:PD w3 pb s j wr0 bd D) (hk3:w3.heap[kb]?=some (.cells (K4 tk) 137 (0,0))) (l1 l2 l3 l4 l5 l7 l9 l10 l11 l12 l13 l14 l15 l16 l17 l18 l19 l20 l21 l22 l23 l24 l25 l26 l27 l28 l29 l30 l31 l32 l33 l34 l35 l36 l37 l38 l39 l40 l41 l42 l43 l44 l45 l46 l47 l48 l49 l50 l51 l52 l53 l54 l55 l56 l57 l58 l59 l60 l61 l62 l63 l64 l65 l66 l67 l68 l69 l70 l71 l72 l73 l74 l75 l76 l77 l78 l79 l80 l81 l82 l83 l84 l85 l86 l87 l88 l89 l90 l91 l92 l93 l94 l95 l96 l97 l98 l99 l100 l101 l102 l103 l104 l105 l106 l107 l108 l109 l110 l111 l112 l113 l114 l115 l116 l117 l118 l119 l120 l121 l122 l123 l124 l125 l126 l127 l128 l129 l130 l131 l132 l133 l134 l135 l136 l137 l138 l139 l140 l141 l142 l143 l144 l145 l146 l147 l148 l149 l150 l151 l152 l153 l154 l155 l156 l157 l158 l159 l160 l161 l162 l163 l164 l165 l166 l167 l168 l169 l170:Value) (K:Act→World→Prop) (Q:Exit→Act→World→Prop) (hK:∀ (x62 x63 x64 x65 x66 x67 x68 x69 x70 x71 x72 x73 x74 x75 x76 x77 x78 x79 x80 x81 x82 x83 x84 x85 x86:Value) (w':World),Below w3.heap.size w3 w'→K ⟨#[ptr pb,l1,l2,l3,l4,l5,ptr kb,l7,.bool ok,l9,l10,l11,l12,l13,l14,l15,l16,l17,l18,l19,l20,l21,l22,l23,l24,l25,l26,l27,l28,l29,l30,l31,l32,l33,l34,l35,l36,l37,l38,l39,l40,l41,l42,l43,l44,l45,l46,l47,l48,l49,l50,l51,l52,l53,l54,l55,l56,l57,l58,l59,l60,l61,x62,x63,x64,x65,x66,x67,x68,x69,x70,x71,x72,x73,x74,x75,x76,x77,x78,x79,x80,x81,x82,x83,x84,x85,x86,.bool g,l88,l89,l90,l91,l92,l93,l94,l95,l96,l97,l98,l99,l100,l101,l102,l103,l104,l105,l106,l107,l108,l109,l110,l111,l112,l113,l114,l115,l116,l117,l118,l119,l120,l121,l122,l123,l124,l125,l126,l127,l128,l129,l130,l131,l132,l133,l134,l135,l136,l137,l138,l139,l140,l141,l142,l143,l144,l145,l146,l147,l148,l149,l150,l151,l152,l153,l154,l155,l156,l157,l158,l159,l160,l161,l162,l163,l164,l165,l166,l167,l168,l169,l170],[]⟩ w') :
  Code.wp Tryz.prog reg11C (Exit.then K Q) ⟨#[ptr pb,l1,l2,l3,l4,l5,ptr kb,l7,.bool ok,l9,l10,l11,l12,l13,l14,l15,l16,l17,l18,l19,l20,l21,l22,l23,l24,l25,l26,l27,l28,l29,l30,l31,l32,l33,l34,l35,l36,l37,l38,l39,l40,l41,l42,l43,l44,l45,l46,l47,l48,l49,l50,l51,l52,l53,l54,l55,l56,l57,l58,l59,l60,l61,l62,l63,l64,l65,l66,l67,l68,l69,l70,l71,l72,l73,l74,l75,l76,l77,l78,l79,l80,l81,l82,l83,l84,l85,l86,l87,l88,l89,l90,l91,l92,l93,l94,l95,l96,l97,l98,l99,l100,l101,l102,l103,l104,l105,l106,l107,l108,l109,l110,l111,l112,l113,l114,l115,l116,l117,l118,l119,l120,l121,l122,l123,l124,l125,l126,l127,l128,l129,l130,l131,l132,l133,l134,l135,l136,l137,l138,l139,l140,l141,l142,l143,l144,l145,l146,l147,l148,l149,l150,l151,l152,l153,l154,l155,l156,l157,l158,l159,l160,l161,l162,l163,l164,l165,l166,l167,l168,l169,l170],[]⟩ w3:=by
 dsimp only at hK ⊢
 conv=>arg 2;whnf
 obtain⟨⟨c0,c1,c2,c3,c4⟩,f0,f1,f2,f3,f4⟩:=hP3.cells
 obtain⟨⟨z0,z1,z2,z3⟩,y0,y1,y2,y3⟩:=cells4f hk3
 cases hk1':(tk.kind == 1) with
 | false =>
  obtain rfl:g=false:=by rw [HBD.out,hk1'];rfl
  clear HBD
  go_quiet (fail)
  go_wp2_with fail
  exact below_drewN (Below.refl _ _) _
 | true =>
  cases ok with
  | false =>
   obtain rfl:g=false:=by rw [HBD.out,hk1'];rfl
   clear HBD
   go_quiet (fail)
   go_wp2_with fail
   exact below_drewN (Below.refl _ _) _
  | true =>
   by_cases hl:tk.e<s.size
   ·have hl':(tk.e:Int)<(s.size:Int):=by omega
    have hnn:(0:Int)≤(tk.e:Int):=by omega
    have hb:(((s[tk.e].toNat:Nat):Int) == 58)=g:=by
     rw [HBD.out,hk1',nx_in hl,Bool.eq_iff_iff,beq_iff_eq]
     simp
     omega
    clear HBD
    go_quiet (fail)
    go_wp2_with fail
    exact below_drewN (Below.refl _ _) _
   ·have hl':¬ (tk.e:Int)<(s.size:Int):=by omega
    obtain rfl:g=false:=by rw [HBD.out,nx_out hl];simp
    clear HBD
    go_quiet (fail)
    go_wp2_with fail
    exact below_drewN (Below.refl _ _) _
omit hs in
set_option maxRecDepth 1000000 in
set_option maxHeartbeats 16000000 in
theorem loose_arm (pb ab j D:Nat) (wr0:Int) (A:Rs T) (w4:World) (hex:∀ w1,PD w1 pb s j wr0 0 D→Calls Tryz.prog 80 #[ptr pb,.int .i64 1] w1 (OutR w1 pb s D wr0 A)) (hP4:PD w4 pb s j wr0 0 D) (hab4:w4.heap[ab]?=some (.cells NZ 57 (0,0))) (hap:ab≠pb) (hab:ab<w4.heap.size) (l1 l2 l3 l4 l5 l6 l7 l8 l10 l11 l12 l13 l14 l15 l16 l17 l18 l19 l20 l21 l22 l23 l24 l25 l26 l27 l28 l29 l30 l31 l32 l33 l34 l35 l36 l37 l38 l39 l40 l41 l42 l43 l44 l45 l46 l47 l48 l49 l50 l51 l52 l53 l54 l55 l56 l57 l58 l59 l60 l61 l62 l63 l64 l65 l66 l67 l68 l69 l70 l71 l72 l73 l74 l75 l76 l77 l78 l79 l80 l81 l82 l83 l84 l85 l86 l88 l89 l90 l91 l92 l93 l94 l95 l96 l97 l98 l99 l100 l101 l102 l103 l104 l105 l106 l107 l108 l109 l110 l111 l112 l113 l114 l115 l116 l117 l118 l119 l120 l121 l122 l123 l124 l125 l126 l127 l128 l129 l130 l131 l132 l133 l134 l135 l136 l137 l138 l139 l140 l141 l142 l143 l144 l145 l146 l147 l148 l149 l150 l151 l152 l153 l154 l155 l156 l157 l158 l159 l160 l161 l162 l163 l164 l165 l166 l167 l168 l169 l170:Value) (K:Act→World→Prop) (Q:Exit→Act→World→Prop) (hK:∀ (x130 x131:Value) (w':World),JR w4 pb ab s D wr0 A w'→K ⟨#[ptr pb,l1,l2,l3,l4,l5,l6,l7,l8,.pointer (some ⟨ab,0,none⟩),l10,l11,l12,l13,l14,l15,l16,l17,l18,l19,l20,l21,l22,l23,l24,l25,l26,l27,l28,l29,l30,l31,l32,l33,l34,l35,l36,l37,l38,l39,l40,l41,l42,l43,l44,l45,l46,l47,l48,l49,l50,l51,l52,l53,l54,l55,l56,l57,l58,l59,l60,l61,l62,l63,l64,l65,l66,l67,l68,l69,l70,l71,l72,l73,l74,l75,l76,l77,l78,l79,l80,l81,l82,l83,l84,l85,l86,.bool false,l88,l89,l90,l91,l92,l93,l94,l95,l96,l97,l98,l99,l100,l101,l102,l103,l104,l105,l106,l107,l108,l109,l110,l111,l112,l113,l114,l115,l116,l117,l118,l119,l120,l121,l122,l123,l124,l125,l126,l127,l128,l129,x130,x131,l132,l133,l134,l135,l136,l137,l138,l139,l140,l141,l142,l143,l144,l145,l146,l147,l148,l149,l150,l151,l152,l153,l154,l155,l156,l157,l158,l159,l160,l161,l162,l163,l164,l165,l166,l167,l168,l169,l170],[]⟩ w') :
  Code.wp Tryz.prog boxC (Exit.then K Q) ⟨#[ptr pb,l1,l2,l3,l4,l5,l6,l7,l8,.pointer (some ⟨ab,0,none⟩),l10,l11,l12,l13,l14,l15,l16,l17,l18,l19,l20,l21,l22,l23,l24,l25,l26,l27,l28,l29,l30,l31,l32,l33,l34,l35,l36,l37,l38,l39,l40,l41,l42,l43,l44,l45,l46,l47,l48,l49,l50,l51,l52,l53,l54,l55,l56,l57,l58,l59,l60,l61,l62,l63,l64,l65,l66,l67,l68,l69,l70,l71,l72,l73,l74,l75,l76,l77,l78,l79,l80,l81,l82,l83,l84,l85,l86,.bool false,l88,l89,l90,l91,l92,l93,l94,l95,l96,l97,l98,l99,l100,l101,l102,l103,l104,l105,l106,l107,l108,l109,l110,l111,l112,l113,l114,l115,l116,l117,l118,l119,l120,l121,l122,l123,l124,l125,l126,l127,l128,l129,l130,l131,l132,l133,l134,l135,l136,l137,l138,l139,l140,l141,l142,l143,l144,l145,l146,l147,l148,l149,l150,l151,l152,l153,l154,l155,l156,l157,l158,l159,l160,l161,l162,l163,l164,l165,l166,l167,l168,l169,l170],[]⟩ w4:=by
 dsimp only at hK ⊢
 conv=>arg 2;whnf
 have HEX:Hid _:=hex
 clear hex
 go_wp2_with fail
 go_at_call 80
 refine (HEX.out _ hP4).mono ?_
 intro e w5 ho
 obtain⟨a1,n1,s1,r1,t1,p1,m1,e1,u,j5,wr',bd,rfl,hN,hP5,hj5,hK5,hX⟩:=ho.open
 have HX2:Hid _:=hX
 clear hX ho
 have hab5:=hK5.blk hab4 hap
 obtain⟨⟨d0,d1,d2,d3,d4,d5,d6,d7,d8,d9,d10,d11⟩,df⟩:=cells12 hab5
 go_wp2_with fail
 clear d0 d1 d2 d3 d4 d5 d6 d7 d8 d9 d10 d11 df
 refine fin12 hab5 (Q:=fun W=>JR w4 pb ab s D wr0 A W) ?_
 intro w9 hq9 hk9
 refine⟨a1,n1,s1,r1,t1,p1,m1,e1,u,j5,wr',bd,hq9,?_,hP5.keep hk9 (fun e=>hap e.symm),hj5,(hK5.mono (fun n _ e=>Or.inl e)).trans hk9 (fun n e=>.inl (.inr e)),HX2.out⟩
 exact hN.mono (fun n hn=>hk9.block n hn.2 (by have:=hn.1;omega)) (fun n hn=>⟨hn.1,Nat.lt_of_lt_of_le hn.2 hk9.size⟩)
end
end Go.Proofs.YtgifkepklnhddaaGreatDoor.fm
namespace Go.Proofs.YtgifkepklnhddaaGreatDoor.fm
open Go.RowKit
section
variable {s:ByteArray} (hs:s.size≤200)
include hs
set_option maxRecDepth 100000 in
set_option maxHeartbeats 16000000 in
theorem rcall_some (pb k d:Nat) (wr0:Int) (name:ByteArray) (w:World) (h:PD w pb s k wr0 0 (d+1)) (hk:k<s.size) (hd:d≤30) (h41:nx s (skip s (k+1))≠41)
  (hex:∀ j w1,k<j→j≤s.size→PD w1 pb s j wr0 0 (d+1)→Calls Tryz.prog 80 #[ptr pb,.int .i64 1] w1 (OutR w1 pb s (d+1) wr0 (Expr lexP s 1 (d+1) j))) :
  Calls Tryz.prog 140 #[ptr pb,.string name] w (OutR w pb s d wr0 ((Args lexP s (d+1) (k+1)).bind fun l k'=>.ok (tCall name l) k')):=by
 have HEX:Hid (∀ j w1,k<j→j≤s.size→PD w1 pb s j wr0 0 (d+1)→Calls Tryz.prog 80 #[ptr pb,.int .i64 1] w1 (OutR w1 pb s (d+1) wr0 (Expr lexP s 1 (d+1) j))):=hex
 clear hex
 obtain⟨RR,hRR⟩:∃ RR,(Args lexP s (d+1) (k+1)).bind (fun l k'=>.ok (tCall name l) k')=RR:=⟨_,rfl⟩
 rw [hRR]
 have HRR:Hid (XR lexP s (d+1) name [] (k+1)=RR):=by
  unfold Hid
  rw [← hRR,Args_eq lexP s (d+1) (k+1) hk,if_neg h41]
  unfold XR
  rw [Arg_skip lexP s (a:=skip s (k+1)) (b:=k+1) ((skip_spec s (k+1)).2.2 hk) hk (skip_skip s (k+1))]
  rfl
 clear hRR
 have hlt:=h.lt
 obtain⟨⟨c0,c1,c2,c3,c4⟩,f0,f1,f2,f3,f4⟩:=h.cells
 go_enter Tryz.func140,Tryz.ntmps140
 go_upto_region 3 with fail
 clear c0 c1 c2 c3 c4 f0 f1 f2 f3 f4
 rw [show ((k:Int)+1)=((k+1:Nat):Int) from rfl]
 have hP1:=h.setAt (k+1)
 have hK1:=kpset w pb 1 (.int .i64 ((k+1:Nat):Int))
 have hsz1:(w.setCell ⟨pb,1,none⟩ (.int .i64 ((k+1:Nat):Int))).heap.size=w.heap.size:=by simp [World.setCell]
 generalize w.setCell ⟨pb,1,none⟩ (.int .i64 ((k+1:Nat):Int))=v1 at *
 have hPa:=(hP1.alloc (.cells NZ 57)).alloc (.cells (N12 9 0 name .z .z (.slice none 0 0)) 57)
 have hKa:Kp (·=pb) w ((v1.alloc (.cells NZ 57)).alloc (.cells (N12 9 0 name .z .z (.slice none 0 0)) 57)):=(hK1.alloc _).alloc _
 have hra:((v1.alloc (.cells NZ 57)).alloc (.cells (N12 9 0 name .z .z (.slice none 0 0)) 57)).heap[w.heap.size]?=some (.cells NZ 57 (0,0)):=by rw [Below.heap_alloc _ _ _ (by simp;omega),← hsz1];exact blk_new _ _
 have hna:((v1.alloc (.cells NZ 57)).alloc (.cells (N12 9 0 name .z .z (.slice none 0 0)) 57)).heap[w.heap.size+1]?=some (.cells (N12 9 0 name .z .z (.slice none 0 0)) 57 (0,0)):=by
  have:=blk_new (v1.alloc (.cells NZ 57)) (.cells (N12 9 0 name .z .z (.slice none 0 0)) 57)
  simpa [hsz1] using this
 have hsa:((v1.alloc (.cells NZ 57)).alloc (.cells (N12 9 0 name .z .z (.slice none 0 0)) 57)).heap.size=w.heap.size+2:=by simp [hsz1]
 generalize ((v1.alloc (.cells NZ 57)).alloc (.cells (N12 9 0 name .z .z (.slice none 0 0)) 57))=wa at *
 have HSA:Hid (wa.heap.size=w.heap.size+2):=hsa
 clear hP1 hK1 hsz1 hsa
 have hk1:k+1≤s.size:=hk
 have HT:Hid (∀ w,Calls Tryz.prog 81 #[.string s,.int .i64 ((k+1:Nat):Int)] w fun e w'=>e=.returned (KV (tkR s (k+1)).kind ((tkR s (k+1)).a:Nat) ((tkR s (k+1)).e:Nat) (tkR s (k+1)).t)∧Below w.heap.size w w'):=fun w=>token_at s (k+1) w hs hk1
 have HBY:Hid _:=tk_byte s (k+1) 41 (.inr (.inl rfl)) hk1
 generalize tkR s (k+1)=tk0 at *
 obtain⟨⟨c0,c1,c2,c3,c4⟩,f0,f1,f2,f3,f4⟩:=hPa.cells
 go_cut [6] (fun s6 wx=>∃ kb,s6=ptr kb∧KS wa tk0 kb wx)
 case first =>
  have hlt0:=hPa.lt
  have hne:wa.heap.size≠pb:=by omega
  have hne':pb≠wa.heap.size:=by omega
  have KK:Hid (∀ wx,Below wa.heap.size wa wx→wx.cell? ⟨pb,0,none⟩=some (.string s)∧wx.cell? ⟨pb,1,none⟩=some (.int .i64 ((k+1:Nat):Int))):=fun wx hb=>⟨(hb.cell (p:=⟨pb,0,none⟩) hlt0).trans c0,(hb.cell (p:=⟨pb,1,none⟩) hlt0).trans c1⟩
  clear c0 c1 c2 c3 c4 f0 f1 f2 f3 f4
  go_region_held3 (fun wx=>wx.cell? ⟨pb,0,none⟩=some (.string s)∧wx.cell? ⟨pb,1,none⟩=some (.int .i64 ((k+1:Nat):Int))) (exact KK.out _ (by (repeat (first | exact Below.refl _ _ | assumption | (refine Below.setCell ?_ (by first | exact Nat.le_refl _ | omega) _) | (refine Below.alloc ?_ (by first | exact Nat.le_refl _ | exact hb'.size | omega | (simp<;>omega)) _) | (refine Below.drew ?_))))) ((go_at_call 81;refine (HT.out _).mono ?_;rintro e w1 ⟨rfl,hb⟩;have hb':Below wa.heap.size wa w1:=(by first | exact kb1 hb | exact kb2 hb);first | (have hz:=kz_a hb;have hz4:=cells4f hz;obtain⟨⟨z0,z1,z2,z3⟩,y0,y1,y2,y3⟩:=hz4) | skip))
  all_goals
   go_wp2_with fail
   go_meet
   case rel=>first | exact⟨_,rfl,ks3 hb⟩ | exact ks2 hb (Q:=fun W=>∃ kb,_=ptr kb∧KS wa tk0 kb W) (fun w2 h2=>⟨_,rfl,h2⟩)
 case rest =>
 obtain⟨kb,rfl,hS⟩:=hcut
 clear c0 c1 c2 c3 c4 f0 f1 f2 f3 f4 HT
 have hlo:=hS.lo
 have hsa:=HSA.out
 have hPc:PD wc pb s (k+1) wr0 0 (d+1):=hPa.below hS.below
 have hrc:wc.heap[w.heap.size]?=some (.cells NZ 57 (0,0)):=by rw [hS.below.block _ (by omega)];exact hra
 have hnc:wc.heap[w.heap.size+1]?=some (.cells (N12 9 0 name .z .z (.slice none 0 0)) 57 (0,0)):=by rw [hS.below.block _ (by omega)];exact hna
 have hKc:Kp (·=pb) w wc:=hKa.below hS.below
 have hkp:kb≠pb:=by omega
 have hkw:w.heap.size+2≤kb:=by omega
 have hkr:kb≠w.heap.size:=by omega
 have hkn:kb≠w.heap.size+1:=by omega
 have hkc:=hS.blk
 clear hra hna hPa hKa hS hsa hlo HSA
 obtain⟨⟨z0,z1,z2,z3⟩,y0,y1,y2,y3⟩:=cells4f hkc
 go_upto_region 4 with fail
 have HN41:Hid (¬ (tk0.kind=4∧(tk0.t.toList == [41])=true)):=fun q=>h41 (HBY.out.1.1 q)
 clear HBY h41
 go_cut [38] (fun s38 wx=>s38=.bool false∧wc=wx)
 case first =>
  by_cases c4:tk0.kind=4
  ·have hx:(tk0.t.toList == [41])=false:=by
    cases hq:(tk0.t.toList == [41]) with
    | true=>exact absurd ⟨c4,hq⟩ HN41.out
    | false=>rfl
   have hc':(tk0.kind == 4)=true:=beq_iff_eq.2 c4
   clear c4 HN41
   go_wp2_with fail
   go_meet
   case rel=>exact⟨rfl,rfl⟩
  ·have hc':(tk0.kind == 4)=false:=beq_eq_false_iff_ne.2 c4
   clear c4 HN41
   go_wp2_with fail
   go_meet
   case rel=>exact⟨rfl,rfl⟩
 case rest =>
 obtain⟨rfl,hwc⟩:=hcut
 subst hwc
 clear HN41 z0 z1 z2 z3 y0 y1 y2 y3
 go_wp2_with fail
 obtain⟨wl,rfl⟩:∃ wl,wl=wc:=⟨_,rfl⟩
 have hwl:w.heap.size+2≤wl.heap.size:=by have:=lt_blk hnc;omega
 have hkl:kb<wl.heap.size:=lt_blk hkc
 have hpl:pb<wl.heap.size:=hPc.lt
 have hCR:CR w wl pb kb s name d k wr0 RR wl:=⟨_,[],[],k+1,tk0,hrc,hnc,hkc,hPc,hk1,by omega,by simp,.inl ⟨rfl,rfl,rfl⟩,Kp.refl _ _,fun e w' hh=>by rw [← HRR.out];exact hh⟩
 have hKl:=hKc
 clear hrc hnc hkc hPc HRR hKc
 go_loopw [7,8,9,10,11,12] (fun _ _ _ _ _ _ wr=>CR w wl pb kb s name d k wr0 RR wr) (fun _ _ _ _ _ _ wr=>mOf wr pb s)
 case atStart=>exact hCR
 case round =>
  clear hCR tk0
  obtain⟨sv,us,ts,j,tk0,hr,hn,hkb,hP,hj,hkj,hlen,hG,hK,hx⟩:=hrel
  have HXR:Hid (∀ e w',OutR w pb s d wr0 (XR lexP s (d+1) name ts j) e w'→OutR w pb s d wr0 RR e w'):=hx
  have HM:Hid (mOf wr pb s=s.size - skip s j+1):=mOf_ok hP
  clear hx
  obtain⟨⟨c0,c1,c2,c3,c4⟩,f0,f1,f2,f3,f4⟩:=hP.cells
  have hte:=(tk_spec s j hj).2.2
  have HTZ:Hid ((tkR s j).t.size≤200):=tk_text s j hs hj
  have HAP:Hid _:=arg_plain s j (d+1) hj
  have HAB:Hid _:=arg_box s j (d+1) hj
  obtain⟨tk,htk⟩:∃ tk,tkR s j=tk:=⟨_,rfl⟩
  rw [htk] at hte HTZ HAP HAB
  have HTK:Hid (tkR s j=tk):=htk
  clear htk
  go_upto_region 8 with fail
  go_cut [6] (fun s6 wx=>s6=ptr kb∧KT wr tk kb wx)
  case first =>
   refine tok8 hs pb kb j (d+1) wr0 0 tk0 wr hP hj hkb hkp _ _ _ _ _ _ _ _ _ _ _ _ _ _ _ _ _ _ _ _ _ _ _ _ _ _ _ _ _ _ _ _ _ _ _ _ _ _ _ _ _ _ _ _ _ _ _ _ _ _ _ _ _ _ _ _ _ _ _ _ _ _ _ _ _ _ _ _ _ _ _ _ _ _ _ _ _ _ _ _ _ _ _ _ _ _ _ _ _ _ _ _ _ _ _ _ _ _ _ _ _ _ _ _ _ _ _ _ _ _ _ _ _ _ _ _ _ _ _ _ _ _ _ _ _ _ _ _ _ _ _ _ _ _ _ _ _ _ _ _ _ _ _ _ _ _ _ _ _ _ _ _ _ _ _ _ _ _ _ _ _ _ _ _ _ _ _ _ _ _ _ ?_
   intros
   dsimp only
   go_wp2_with fail
   go_meet
   case rel=>exact⟨rfl,by rw [← HTK.out];assumption⟩
  case rest =>
  obtain⟨rfl,hT⟩:=hcut
  clear c0 c1 c2 c3 c4 f0 f1 f2 f3 f4
  obtain⟨wt,rfl⟩:∃ wt,wt=wc:=⟨_,rfl⟩
  have hP1:=hP.keep hT.kp (fun e=>hkp e.symm)
  have hr1:=hT.kp.blk hr (fun e=>hkr e.symm)
  have hn1:=hT.kp.blk hn (fun e=>hkn e.symm)
  have hG1:=hG.next hT.kp (fun n e=>by left;omega)
  have hK1:=hK.trans hT.kp (fun n e=>.inl (.inr (.inr e)))
  have hkb1:=hT.blk
  clear hP hr hn hG hK hkb hT tk0
  obtain⟨⟨z0,z1,z2,z3⟩,y0,y1,y2,y3⟩:=cells4f hkb1
  go_wp2_with fail
  go_at_call 142
  refine (adr.rref_any tk.t _ (by have:=HTZ.out;omega)).mono ?_
  rintro e w2 ⟨rfl,hb2⟩
  have HBD:Hid (boxG s tk=((tk.kind == 1) && (adr.rdR tk.t).ok && decide (nx s tk.e=58))):=rfl
  have HRF:Hid (rfOf tk.t=⟨(adr.rdR tk.t).c,(adr.rdR tk.t).r,(adr.rdR tk.t).fc,(adr.rdR tk.t).fr⟩):=rfl
  generalize adr.rdR tk.t=D at *
  clear z0 z1 z2 z3 y0 y1 y2 y3
  have hw3:Below w2.heap.size w2 ((w2.alloc (.cells #[.int .i64 D.c,.int .i64 D.r,.bool D.fc,.bool D.fr] 54)).alloc (.cells NZ 57)):=((Below.refl _ _).alloc (Nat.le_refl _) _).alloc (by simp) _
  have hP3:=(hP1.below hb2).below hw3
  have hr3:((w2.alloc (.cells #[.int .i64 D.c,.int .i64 D.r,.bool D.fc,.bool D.fr] 54)).alloc (.cells NZ 57)).heap[w.heap.size]?=some (.cells NZ 57 (0,0)):=by
   have q:=lt_blk hr1
   rw [hw3.block _ (Nat.lt_of_lt_of_le q hb2.size),hb2.block _ q];exact hr1
  have hn3:((w2.alloc (.cells #[.int .i64 D.c,.int .i64 D.r,.bool D.fc,.bool D.fr] 54)).alloc (.cells NZ 57)).heap[w.heap.size+1]?=some (.cells (N12 9 0 name .z .z sv) 57 (0,0)):=by
   have q:=lt_blk hn1
   rw [hw3.block _ (Nat.lt_of_lt_of_le q hb2.size),hb2.block _ q];exact hn1
  have hk3:((w2.alloc (.cells #[.int .i64 D.c,.int .i64 D.r,.bool D.fc,.bool D.fr] 54)).alloc (.cells NZ 57)).heap[kb]?=some (.cells (K4 tk) 137 (0,0)):=by
   have q:=lt_blk hkb1
   rw [hw3.block _ (Nat.lt_of_lt_of_le q hb2.size),hb2.block _ q];exact hkb1
  have hG3:=(hG1.below hb2).below hw3
  have hbt:Below wt.heap.size wt ((w2.alloc (.cells #[.int .i64 D.c,.int .i64 D.r,.bool D.fc,.bool D.fr] 54)).alloc (.cells NZ 57)):=hb2.trans (hw3.mono hb2.size)
  have HTL:Hid (wt.heap.size≤w2.heap.size):=hb2.size
  have hK3:=(hK1.below hb2).below hw3
  have hrf3:((w2.alloc (.cells #[.int .i64 D.c,.int .i64 D.r,.bool D.fc,.bool D.fr] 54)).alloc (.cells NZ 57)).heap[w2.heap.size]?=some (.cells #[.int .i64 D.c,.int .i64 D.r,.bool D.fc,.bool D.fr] 54 (0,0)):=by rw [Below.heap_alloc _ _ _ (by simp)];exact blk_new _ _
  have hab3:((w2.alloc (.cells #[.int .i64 D.c,.int .i64 D.r,.bool D.fc,.bool D.fr] 54)).alloc (.cells NZ 57)).heap[w2.heap.size+1]?=some (.cells NZ 57 (0,0)):=by
   have:=blk_new (w2.alloc (.cells #[.int .i64 D.c,.int .i64 D.r,.bool D.fc,.bool D.fr] 54)) (.cells NZ 57)
   simpa using this
  have HZ3:Hid (((w2.alloc (.cells #[.int .i64 D.c,.int .i64 D.r,.bool D.fc,.bool D.fr] 54)).alloc (.cells NZ 57)).heap.size=w2.heap.size+2):=by unfold Hid;simp
  have HL2:Hid (wl.heap.size≤w2.heap.size):=Nat.le_trans hK1.size hb2.size
  go_upto_region 11 with fail
  generalize ((w2.alloc (.cells #[.int .i64 D.c,.int .i64 D.r,.bool D.fc,.bool D.fr] 54)).alloc (.cells NZ 57))=w3 at *
  generalize w2.heap.size=rfb at *
  clear hw3 hP1 hr1 hn1 hkb1 hb2
  obtain⟨⟨c0,c1,c2,c3,c4⟩,f0,f1,f2,f3,f4⟩:=hP3.cells
  obtain⟨⟨z0,z1,z2,z3⟩,y0,y1,y2,y3⟩:=cells4f hk3
  obtain⟨g,hg⟩:∃ g,boxG s tk=g:=⟨_,rfl⟩
  rw [hg] at HBD
  have HG:Hid (boxG s tk=g):=hg
  clear hg
  obtain⟨ok,hok⟩:∃ ok,D.ok=ok:=⟨_,rfl⟩
  rw [hok] at HBD ⊢
  clear hok
  go_cut [87] (fun s87 wx=>s87=.bool g∧Below w3.heap.size w3 wx)
  case first =>
   refine guard11 pb kb j (d+1) wr0 0 tk ok g HBD w3 hP3 hk3 _ _ _ _ _ _ _ _ _ _ _ _ _ _ _ _ _ _ _ _ _ _ _ _ _ _ _ _ _ _ _ _ _ _ _ _ _ _ _ _ _ _ _ _ _ _ _ _ _ _ _ _ _ _ _ _ _ _ _ _ _ _ _ _ _ _ _ _ _ _ _ _ _ _ _ _ _ _ _ _ _ _ _ _ _ _ _ _ _ _ _ _ _ _ _ _ _ _ _ _ _ _ _ _ _ _ _ _ _ _ _ _ _ _ _ _ _ _ _ _ _ _ _ _ _ _ _ _ _ _ _ _ _ _ _ _ _ _ _ _ _ _ _ _ _ _ _ _ _ _ _ _ _ _ _ _ _ _ _ _ _ _ _ _ _ _ _ _ _ _ ?_
   intros
   dsimp only
   go_wp2_with fail
   go_meet
   case rel=>exact⟨rfl,by assumption⟩
  case rest =>
  obtain⟨rfl,hb4⟩:=hcut
  clear HBD c0 c1 c2 c3 c4 f0 f1 f2 f3 f4 z0 z1 z2 z3 y0 y1 y2 y3
  have hP4:=hP3.below hb4
  have hr4:wc.heap[w.heap.size]?=some (.cells NZ 57 (0,0)):=by rw [hb4.block _ (lt_blk hr3)];exact hr3
  have hn4:wc.heap[w.heap.size+1]?=some (.cells (N12 9 0 name .z .z sv) 57 (0,0)):=by rw [hb4.block _ (lt_blk hn3)];exact hn3
  have hk4:wc.heap[kb]?=some (.cells (K4 tk) 137 (0,0)):=by rw [hb4.block _ (lt_blk hk3)];exact hk3
  have hrf4:wc.heap[rfb]?=some (.cells #[.int .i64 D.c,.int .i64 D.r,.bool D.fc,.bool D.fr] 54 (0,0)):=by rw [hb4.block _ (lt_blk hrf3)];exact hrf3
  have hab4:wc.heap[rfb+1]?=some (.cells NZ 57 (0,0)):=by rw [hb4.block _ (lt_blk hab3)];exact hab3
  have hG4:=hG3.below hb4
  have hbt4:Below wt.heap.size wt wc:=hbt.trans (hb4.mono hbt.size)
  have hK4:=hK3.below hb4
  have HS4:Hid (rfb+2≤wc.heap.size):=by have:=hb4.size;have:=HZ3.out;unfold Hid;omega
  have HL4:=HL2.out
  clear hP3 hr3 hn3 hk3 hrf3 hab3 hG3 hK3 HZ3 HL2 hb4 hbt
  obtain⟨w4,rfl⟩:∃ w4,w4=wc:=⟨_,rfl⟩
  have hap:rfb+1≠pb:=by omega
  go_upto_if 87 with fail
  go_cut [10,11,12] (fun _ _ _ wx=>JR w4 pb (rfb+1) s (d+1) wr0 (Arg lexP s (d+1) j) wx)
  case first =>
   cases g with
   | false =>
    refine loose_arm pb (rfb+1) j (d+1) wr0 (Arg lexP s (d+1) j) w4 (fun w1 hP=>by rw [HAP.out HG.out];exact HEX.out j w1 hkj hj hP) hP4 hab4 hap (by have:=HS4.out;omega) _ _ _ _ _ _ _ _ _ _ _ _ _ _ _ _ _ _ _ _ _ _ _ _ _ _ _ _ _ _ _ _ _ _ _ _ _ _ _ _ _ _ _ _ _ _ _ _ _ _ _ _ _ _ _ _ _ _ _ _ _ _ _ _ _ _ _ _ _ _ _ _ _ _ _ _ _ _ _ _ _ _ _ _ _ _ _ _ _ _ _ _ _ _ _ _ _ _ _ _ _ _ _ _ _ _ _ _ _ _ _ _ _ _ _ _ _ _ _ _ _ _ _ _ _ _ _ _ _ _ _ _ _ _ _ _ _ _ _ _ _ _ _ _ _ _ _ _ _ _ _ _ _ _ _ _ _ _ _ _ _ _ _ _ _ _ _ _ _ _ ?_
    intros
    dsimp only
    go_wp2_with fail
    go_meet
    case rel=>assumption
   | true =>
    obtain⟨hb1,hb2,hb3⟩:=HAB.out HG.out
    refine box_arm hs pb kb rfb j d wr0 tk D HRF _ _ _ _ _ _ _ _ _ _ _ _ _ _ _ _ _ _ _ _ _ _ _ _ _ _ _ _ _ _ _ _ _ _ _ _ _ _ _ _ _ _ _ _ _ _ _ _ _ _ _ _ _ _ _ _ _ _ _ _ _ _ _ _ _ _ _ _ _ _ _ _ _ _ _ _ _ _ _ _ _ _ _ _ _ _ _ _ _ _ _ _ _ _ _ _ _ _ _ _ _ _ _ _ _ _ _ _ _ _ _ _ _ _ _ _ _ _ _ _ _ _ _ _ _ _ _ _ _ _ _ _ _ _ _ _ _ _ _ _ _ _ _ _ _ _ _ _ _ _ _ _ _ _ _ _ _ _ _ _ _ _ _ _ _ _ w4 hP4 hk4 hrf4 hab4 HS4 hap (by omega) hb1 hb2 hb3 _ _ ?_
    intros
    dsimp only
    go_wp2_with fail
    go_meet
    case rel=>assumption
  case rest =>
  obtain⟨a1,n1,s1,r1,t1,p1,m1,e1,u,j5,wr',bd,hab5,hN5,hP5,hj5,hK5,hX⟩:=hcut
  have HX2:Hid _:=hX
  clear hX
  obtain⟨w5,rfl⟩:∃ w5,w5=wc:=⟨_,rfl⟩
  have q4:=HS4.out
  have hr5:=hK5.blk hr4 (by omega)
  have hn5:=hK5.blk hn4 (by omega)
  have hk5:=hK5.blk hk4 (by omega)
  have hKt5:Kp (·=pb) wt w5:=Kp.trans ((Kp.refl (·=pb) wt).below hbt4) hK5 (fun n e=>by
   have:=HTL.out
   omega)
  have hG5:=hG1.next hKt5 (fun n e=>by left;omega)
  have hKw5:=hK4.trans hK5 (fun n e=>by omega)
  have HL5:Hid (w4.heap.size≤w5.heap.size):=hK5.size
  have HLT:Hid (wl.heap.size≤w4.heap.size):=by unfold Hid;omega
  clear hKt5 hr4 hn4 hk4 hrf4 hab4 hP4 hK4 hbt4 hK5 HS4 q4
  obtain⟨p0,m0,c0',rfl⟩:=hG5.slice
  have hKa:Kp (fun _=>False) w5 (w5.alloc (.cells (N12 a1 n1 s1 r1 t1 (.slice p1 m1 e1)) 57)):=(Kp.refl _ _).alloc _
  have hr6:=hKa.blk hr5 id
  have hn6:=hKa.blk hn5 id
  have hk6:=hKa.blk hk5 id
  have hP6:=hP5.alloc (.cells (N12 a1 n1 s1 r1 t1 (.slice p1 m1 e1)) 57)
  have hG6:=hG5.next hKa (fun n e=>e.elim)
  have hN6:=hN5.next hKa (fun n e=>e.elim)
  have hb6:=blk_new w5 (.cells (N12 a1 n1 s1 r1 t1 (.slice p1 m1 e1)) 57)
  have hKw6:=hKw5.alloc (.cells (N12 a1 n1 s1 r1 t1 (.slice p1 m1 e1)) 57)
  obtain⟨sv',w7,hrun,hG7,hk7⟩:=appV hG4 hG6 hN6 HLT.out (Nat.le_trans HL5.out hKa.size) hb6 (by omega)
  obtain⟨p',m',c',rfl⟩:=hG7.slice
  have HR:Hid ((Builtin.append_ #[55,55] 55 #[.slice p0 m0 c0',.slice (some ⟨w5.heap.size,0,none⟩) 1 1]).run Tryz.prog (w5.alloc (.cells (N12 a1 n1 s1 r1 t1 (.slice p1 m1 e1)) 57))=.ok (.slice p' m' c') w7):=hrun
  have hr7:=hk7.blk hr6 (by omega)
  have hn7:=hk7.blk hn6 (by omega)
  have hkb7:=hk7.blk hk6 (by omega)
  have hP7:=hP6.keep hk7 (by omega)
  have hKw7:=hKw6.trans hk7 (fun n e=>.inr e)
  clear hrun hk7 hr6 hk6 hP6 hG6 hN6 hb6 hKw6 hKa hn6
  obtain⟨⟨b0,b1,b2,b3,b4,b5,b6,b7,b8,b9,b10,b11⟩,bf⟩:=cells12 hn5
  obtain⟨⟨d0,d1,d2,d3,d4,d5,d6,d7,d8,d9,d10,d11⟩,df⟩:=cells12 hab5
  obtain⟨⟨g0,g1,g2,g3,g4,g5,g6,g7,g8,g9,g10,g11⟩,gf⟩:=cells12 hn7
  go_upto_region 20 with (first | (at_builtin;refine wpList_append_eq rfl _ _ 55 rfl _ _ _ _ rfl rfl HR.out ?_))
  clear b0 b1 b2 b3 b4 b5 b6 b7 b8 b9 b10 b11 bf d0 d1 d2 d3 d4 d5 d6 d7 d8 d9 d10 d11 df g0 g1 g2 g3 g4 g5 g6 g7 g8 g9 g10 g11 gf HR
  have hKs:=kpset w7 (w.heap.size+1) 11 (.slice p' m' c')
  have hn8:(w7.setCell ⟨w.heap.size+1,11,none⟩ (.slice p' m' c')).heap[w.heap.size+1]?=some (.cells (N12 9 0 name .z .z (.slice p' m' c')) 57 (0,0)):=by rw [blk_set hn7];rfl
  have hr8:=hKs.blk hr7 (by omega)
  have hk8:=hKs.blk hkb7 (by omega)
  have hP8:=hP7.keep hKs (by omega)
  have hG8:=hG7.next hKs (fun n e=>by left;omega)
  have hKw8:=hKw7.trans hKs (fun n e=>.inl (.inr (.inl e)))
  generalize w7.setCell ⟨w.heap.size+1,11,none⟩ (.slice p' m' c')=w8 at *
  clear hKs hn7 hr7 hkb7 hP7 hG7 hKw7 hn5 hr5 hk5 hP5 hG5 hKw5 hab5 hN5
  have hte5:=(tk_spec s j5 hj5).2.2
  have H44:Hid _:=tk_byte s j5 44 (.inr (.inr (.inl rfl))) hj5
  obtain⟨tk5,htk5⟩:∃ tk5,tkR s j5=tk5:=⟨_,rfl⟩
  rw [htk5] at hte5 H44
  have HTK5:Hid (tkR s j5=tk5):=htk5
  clear htk5
  obtain⟨⟨c0,c1,c2,c3,c4⟩,f0,f1,f2,f3,f4⟩:=hP8.cells
  go_cut [6] (fun s6 wx=>s6=ptr kb∧KT w8 tk5 kb wx)
  case first =>
   refine tok20 hs pb kb j5 (d+1) wr' bd tk w8 hP8 hj5 hk8 hkp _ _ _ _ _ _ _ _ _ _ _ _ _ _ _ _ _ _ _ _ _ _ _ _ _ _ _ _ _ _ _ _ _ _ _ _ _ _ _ _ _ _ _ _ _ _ _ _ _ _ _ _ _ _ _ _ _ _ _ _ _ _ _ _ _ _ _ _ _ _ _ _ _ _ _ _ _ _ _ _ _ _ _ _ _ _ _ _ _ _ _ _ _ _ _ _ _ _ _ _ _ _ _ _ _ _ _ _ _ _ _ _ _ _ _ _ _ _ _ _ _ _ _ _ _ _ _ _ _ _ _ _ _ _ _ _ _ _ _ _ _ _ _ _ _ _ _ _ _ _ _ _ _ _ _ _ _ _ _ _ _ _ _ _ _ _ _ _ _ _ _ ?_
   intros
   dsimp only
   go_wp2_with fail
   go_meet
   case rel=>exact⟨rfl,by rw [← HTK5.out];assumption⟩
  case rest =>
  obtain⟨rfl,hT9⟩:=hcut
  clear c0 c1 c2 c3 c4 f0 f1 f2 f3 f4
  obtain⟨w9,rfl⟩:∃ w9,w9=wc:=⟨_,rfl⟩
  have hP9:=hP8.keep hT9.kp (fun e=>hkp e.symm)
  have hr9:=hT9.kp.blk hr8 (fun e=>hkr e.symm)
  have hn9:=hT9.kp.blk hn8 (fun e=>hkn e.symm)
  have hG9:=hG8.next hT9.kp (fun n e=>by left;omega)
  have hKw9:=hKw8.trans hT9.kp (fun n e=>.inl (.inr (.inr e)))
  have hk9:=hT9.blk
  clear hP8 hr8 hn8 hG8 hKw8 hT9 hk8
  obtain⟨⟨c0,c1,c2,c3,c4⟩,f0,f1,f2,f3,f4⟩:=hP9.cells
  obtain⟨⟨z0,z1,z2,z3⟩,y0,y1,y2,y3⟩:=cells4f hk9
  obtain⟨cm,hcm⟩:∃ cm:Bool,cm=((bd == 0) && (tk5.kind == 4) && (tk5.t.toList == [44])):=⟨_,rfl⟩
  have HCM:Hid (cm=((bd == 0) && (tk5.kind == 4) && (tk5.t.toList == [44]))):=hcm
  clear hcm
  go_upto_region 21 with fail
  go_cut [161] (fun s161 wx=>s161=.bool cm∧w9=wx)
  case first =>
   refine comma21 pb kb j5 (d+1) wr' bd tk5 cm HCM w9 hP9 hk9 _ _ _ _ _ _ _ _ _ _ _ _ _ _ _ _ _ _ _ _ _ _ _ _ _ _ _ _ _ _ _ _ _ _ _ _ _ _ _ _ _ _ _ _ _ _ _ _ _ _ _ _ _ _ _ _ _ _ _ _ _ _ _ _ _ _ _ _ _ _ _ _ _ _ _ _ _ _ _ _ _ _ _ _ _ _ _ _ _ _ _ _ _ _ _ _ _ _ _ _ _ _ _ _ _ _ _ _ _ _ _ _ _ _ _ _ _ _ _ _ _ _ _ _ _ _ _ _ _ _ _ _ _ _ _ _ _ _ _ _ _ _ _ _ _ _ _ _ _ _ _ _ _ _ _ _ _ _ _ _ _ _ _ _ _ _ _ _ _ _ _ ?_
   intros
   dsimp only
   go_wp2_with fail
   go_meet
   case rel=>exact⟨rfl,by assumption⟩
  case rest =>
  obtain⟨rfl,hwe⟩:=hcut
  subst hwe
  have hpl9:=hP9.lt
  cases cm with
  | true =>
   have hq:=HCM.out
   simp at hq
   obtain⟨⟨hq1,hq2⟩,hq3⟩:=hq
   have h44:nx s (skip s j5)=44:=H44.out.1.1 ⟨hq2,by rw [hq3];rfl⟩
   have he5:tk5.e=skip s j5+1:=H44.out.2 h44
   have HQ:Hid (bd=0∧nx s (skip s j5)=44∧tk5.e=skip s j5+1):=⟨hq1,h44,he5⟩
   clear HCM H44 hq1 hq2 hq3 h44 he5
   go_wp2_with fail
   have hP10:=hP9.setAt tk5.e
   have hKs:=kpset w9 pb 1 (.int .i64 tk5.e)
   have hr10:=hKs.blk hr9 (by omega)
   have hn10:=hKs.blk hn9 (by omega)
   have hk10:=hKs.blk hk9 hkp
   have hG10:=hG9.next hKs (fun n e=>by left;omega)
   have hKw10:=hKw9.trans hKs (fun n e=>.inl (.inl e))
   obtain⟨hq1,h44,he5⟩:=HQ.out
   have hj5s:=(skip_spec s j5).1
   have hjs:=(skip_spec s j).1
   rcases HX2.out with ⟨k5,hA,_,hwr,hsk⟩ | ⟨f,_,_,hb⟩
   ·subst hq1
    subst hwr
    have hpg:=Arg_prog lexP s hj hA
    have hmono:=skip_mono (s:=s) (a:=j) (b:=k5) (by omega)
    have hs5:=(skip_spec s k5).1
    have hse:=(skip_spec s tk5.e).1
    refine⟨⟨_,us++[NV a1 n1 s1 r1 t1 (.slice p1 m1 e1)],ts++[u],tk5.e,tk5,hr10,hn10,hk10,hP10,hte5,by omega,by simp;omega,hG10,hKw10,fun e w' hh=>HXR.out _ _ ?_⟩,?_⟩
    ·rw [XR_more lexP s hA (by rw [← hsk];exact h44) hpg.2,← hsk,← he5];exact hh
    ·rw [HM.out,mOf_ok hP10];omega
   ·exact absurd hq1 hb
  | false =>
   have HQ:Hid (bd=0→nx s (skip s j5)≠44):=fun hb h44=>by
    have hq:=HCM.out
    obtain⟨h1,h2⟩:=H44.out.1.2 h44
    rw [hb,beq_iff_eq.2 h1,h2] at hq
    simp at hq
   clear HCM H44 c0 c1 c2 c3 c4 f0 f1 f2 f3 f4 z0 z1 z2 z3 y0 y1 y2 y3
   go_wp2_with fail
   go_at_call 144
   refine (rclose_any pb j5 d wr' bd s hs _ hP9 hj5 hd).mono ?_
   rintro e wA ⟨rfl,⟨jA,wrA,bdA,hPA,hjA,hsh⟩,hKA⟩
   have HSH:Hid _:=hsh
   clear hsh
   have hrA:=hKA.blk hr9 (by omega)
   have hnA:=hKA.blk hn9 (by omega)
   have hGA:=hG9.next hKA (fun n e=>by left;omega)
   have hKwA:=hKw9.trans hKA (fun n e=>.inl (.inl e))
   obtain⟨⟨g0,g1,g2,g3,g4,g5,g6,g7,g8,g9,g10,g11⟩,gf⟩:=cells12 hnA
   obtain⟨⟨d0,d1,d2,d3,d4,d5,d6,d7,d8,d9,d10,d11⟩,df⟩:=cells12 hrA
   go_wp2_with fail
   clear g0 g1 g2 g3 g4 g5 g6 g7 g8 g9 g10 g11 gf d0 d1 d2 d3 d4 d5 d6 d7 d8 d9 d10 d11 df
   refine fin12 hrA (Q:=bodyPost _ _ _ _ _) ?_
   intro wB hqB hkB
   obtain⟨⟨b0,b1,b2,b3,b4,b5,b6,b7,b8,b9,b10,b11⟩,bf⟩:=cells12 hqB
   refine bodyPost_ret (v:=NV 9 0 name .z .z (.slice p' m' c')) (by simp [results,Tryz.results140,go_sem,b0,b1,b2,b3,b4,b5,b6,b7,b8,b9,b10,b11]) rfl ?_
   have hPB:=hPA.keep hkB (by omega)
   have hGB:=hGA.next hkB (fun n e=>by left;omega)
   have hNB:Nd wB (Own w wB) (NV 9 0 name .z .z (.slice p' m' c')) (tCall name (ts++[u])):=hGB.node (by omega)
   have hKB:Kp (·=pb) w wB:=hKl.trans ((hKwA.mono (Y:=fun b=>b=pb∨b=w.heap.size+1∨b=kb∨b=w.heap.size) (fun n _ e=>by omega)).trans hkB (fun n e=>by left;omega)) (fun n e=>by omega)
   refine HXR.out _ _ ?_
   rcases HX2.out with ⟨k5,hA,hbd,hwr,hsk⟩ | ⟨f,hA,hwr,hb⟩
   ·have hpg:=Arg_prog lexP s hj hA
    have hn44:=HQ.out hbd
    rcases HSH.out with ⟨hn,_⟩ | ⟨_,h41,rfl,rfl,rfl⟩ | ⟨_,h41,rfl,rfl⟩
    ·exact absurd hbd hn
    ·rw [XR_end lexP s hA (by rw [← hsk];exact h41) hpg.2]
     subst hwr
     exact⟨_,_,rfl,hNB,hPB,hjA,by rw [hsk],hKB⟩
    ·rw [XR_bad lexP s hA (by rw [← hsk];exact hn44) (by rw [← hsk];exact h41) hpg.2,← hsk]
     exact⟨_,_,_,rfl,hNB,hPB,hjA,by omega,hKB⟩
   ·rw [XR_err lexP s hA]
    rcases HSH.out with ⟨_,rfl,rfl⟩ | ⟨hn,_⟩ | ⟨hn,_⟩
    ·subst hwr
     exact⟨_,_,_,rfl,hNB,hPB,hjA,hb,hKB⟩
    ·exact absurd hn hb
    ·exact absurd hn hb
end
end Go.Proofs.YtgifkepklnhddaaGreatDoor.fm
