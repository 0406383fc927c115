import Derived.Test.YtgifkepklnhddaaGreatDoorQ7Jj
import Derived.Test.YtgifkepklnhddaaGreatDoorQ7Jc
import Derived.Test.YtgifkepklnhddaaGreatDoorQ7Je
import Derived.Test.YtgifkepklnhddaaGreatDoorQ7Pa
import Derived.Test.YtgifkepklnhddaaGreatDoorQ7Fit
import Derived.Test.YtgifkepklnhddaaGreatDoorQ7Num
import Derived.Test.YtgifkepklnhddaaGreatDoorQ7Int
import Derived.Test.YtgifkepklnhddaaGreatDoorQ7Neg
import Derived.LoopN
namespace Go.Proofs.YtgifkepklnhddaaGreatDoor.fm
open Go.RowKit
structure CO (w:World) (C cs:Array Value) (wx:World):Prop where
 a:wx.heap[w.heap.size]?=some (.cells C 49 (0,0))
 b:wx.heap[w.heap.size+1]?=some (.cells cs 57 (0,0))
 c:wx.heap[w.heap.size+1+1]?=some (.cells NZ 57 (0,0))
 below:Below w.heap.size w wx
theorem CO.start (w:World) (C cs:Array Value):CO w C cs (((w.alloc (.cells C 49)).alloc (.cells cs 57)).alloc (.cells NZ 57)):=by
 obtain⟨h1,h2,h3⟩:=three w (.cells C 49) (.cells cs 57) (.cells NZ 57)
 exact⟨h1,h2,h3,(((Below.refl _ _).alloc (Nat.le_refl _) _).alloc (by simp) _).alloc (by simp;omega) _⟩
theorem CO.lt {w wx:World} {C cs:Array Value} (h:CO w C cs wx):w.heap.size+2<wx.heap.size:=by have:=lt_blk h.c;omega
theorem CO.next {w wx wy:World} {C cs:Array Value} (h:CO w C cs wx) (hb:Below wx.heap.size wx wy):CO w C cs wy :=
 ⟨(hb.block _ (lt_blk h.a)).trans h.a,(hb.block _ (lt_blk h.b)).trans h.b,(hb.block _ (lt_blk h.c)).trans h.c,h.below.trans (hb.mono h.below.size)⟩
def SRef (D:Chg) (r:Rf) (e:Ending):Prop:=∃ (q:Rf) (ok:Bool),e=.returned (.tuple #[RV q,.bool ok])∧D.ref r=if ok=true then some q else none
def SBox (D:Chg) (r t:Rf) (e:Ending):Prop:=∃ (q q2:Rf) (ok:Bool),e=.returned (.tuple #[RV q,RV q2,.bool ok])∧D.box r t=if ok=true then some (q,q2) else none
theorem nd_nv {w:World} {P:Nat→Prop} {v:Value} {t:T} (h:Nd w P v t):∃ (k n:Int) (s:ByteArray) (r u:Rf) (p:Option Addr) (m c:Nat),v=NV k n s r u (.slice p m c):=by
 cases h with | mk _ _ _=>exact⟨_,_,_,_,_,_,_,_,rfl⟩
abbrev OG (wr:World) (bc bn g o:Nat) (kk:Int) (row:Bool) (at' many cs rs fx fy tx ty:Int) (kv:Value) (k1 n1:Int) (s1:ByteArray) (ra rb:Rf) (p1:Option Addr) (m1 q1:Nat) (wx:World):Prop:=wx.cell? ⟨bc,0,none⟩=some (.int .i64 kk)∧wx.cell? ⟨bc,1,none⟩=some (.bool row)∧wx.cell? ⟨bc,2,none⟩=some (.int .i64 at')∧wx.cell? ⟨bc,3,none⟩=some (.int .i64 many)∧wx.cell? ⟨bc,4,none⟩=some (.int .i64 cs)∧wx.cell? ⟨bc,5,none⟩=some (.int .i64 rs)∧wx.cell? ⟨bc,6,none⟩=some (.int .i64 fx)∧wx.cell? ⟨bc,7,none⟩=some (.int .i64 fy)∧wx.cell? ⟨bc,8,none⟩=some (.int .i64 tx)∧wx.cell? ⟨bc,9,none⟩=some (.int .i64 ty)∧wx.cell? ⟨bn,11,none⟩=some kv∧wx.cell? ⟨g,o,none⟩=some (.int .i64 k1)∧wx.cell? ⟨g,o+1,none⟩=some (.int .i64 n1)∧wx.cell? ⟨g,o+2,none⟩=some (.string s1)∧wx.cell? ⟨g,o+3,none⟩=some (.int .i64 ra.c)∧wx.cell? ⟨g,o+4,none⟩=some (.int .i64 ra.r)∧wx.cell? ⟨g,o+5,none⟩=some (.bool ra.fc)∧wx.cell? ⟨g,o+6,none⟩=some (.bool ra.fr)∧wx.cell? ⟨g,o+7,none⟩=some (.int .i64 rb.c)∧wx.cell? ⟨g,o+8,none⟩=some (.int .i64 rb.r)∧wx.cell? ⟨g,o+9,none⟩=some (.bool rb.fc)∧wx.cell? ⟨g,o+10,none⟩=some (.bool rb.fr)∧wx.cell? ⟨g,o+11,none⟩=some (.slice p1 m1 q1)∧Below wr.heap.size wr wx
theorem ogb {wr:World} {bc bn g o:Nat} {kk:Int} {row:Bool} {at' many cs rs fx fy tx ty:Int} {kv:Value} {k1 n1:Int} {s1:ByteArray} {ra rb:Rf} {p1:Option Addr} {m1 q1:Nat} {wx:World} (h:OG wr bc bn g o kk row at' many cs rs fx fy tx ty kv k1 n1 s1 ra rb p1 m1 q1 wx):Below wr.heap.size wr wx:=by
 obtain⟨-,-,-,-,-,-,-,-,-,-,-,-,-,-,-,-,-,-,-,-,-,-,-,h⟩:=h
 exact h
theorem og_on {wr:World} {bc bn g o:Nat} {kk:Int} {row:Bool} {at' many cs rs fx fy tx ty:Int} {kv:Value} {k1 n1:Int} {s1:ByteArray} {ra rb:Rf} {p1:Option Addr} {m1 q1:Nat} (h:OG wr bc bn g o kk row at' many cs rs fx fy tx ty kv k1 n1 s1 ra rb p1 m1 q1 wr) (h1:bc<wr.heap.size) (h2:bn<wr.heap.size) (h3:g<wr.heap.size) (wx:World) (hb:Below wr.heap.size wr wx):OG wr bc bn g o kk row at' many cs rs fx fy tx ty kv k1 n1 s1 ra rb p1 m1 q1 wx:=by
 obtain⟨f0,f1,f2,f3,f4,f5,f6,f7,f8,f9,f10,f11,f12,f13,f14,f15,f16,f17,f18,f19,f20,f21,f22,-⟩:=h
 exact⟨(hb.cell (p:=⟨bc,_,none⟩) h1).trans f0,(hb.cell (p:=⟨bc,_,none⟩) h1).trans f1,(hb.cell (p:=⟨bc,_,none⟩) h1).trans f2,(hb.cell (p:=⟨bc,_,none⟩) h1).trans f3,(hb.cell (p:=⟨bc,_,none⟩) h1).trans f4,(hb.cell (p:=⟨bc,_,none⟩) h1).trans f5,(hb.cell (p:=⟨bc,_,none⟩) h1).trans f6,(hb.cell (p:=⟨bc,_,none⟩) h1).trans f7,(hb.cell (p:=⟨bc,_,none⟩) h1).trans f8,(hb.cell (p:=⟨bc,_,none⟩) h1).trans f9,(hb.cell (p:=⟨bn,_,none⟩) h2).trans f10,(hb.cell (p:=⟨g,_,none⟩) h3).trans f11,(hb.cell (p:=⟨g,_,none⟩) h3).trans f12,(hb.cell (p:=⟨g,_,none⟩) h3).trans f13,(hb.cell (p:=⟨g,_,none⟩) h3).trans f14,(hb.cell (p:=⟨g,_,none⟩) h3).trans f15,(hb.cell (p:=⟨g,_,none⟩) h3).trans f16,(hb.cell (p:=⟨g,_,none⟩) h3).trans f17,(hb.cell (p:=⟨g,_,none⟩) h3).trans f18,(hb.cell (p:=⟨g,_,none⟩) h3).trans f19,(hb.cell (p:=⟨g,_,none⟩) h3).trans f20,(hb.cell (p:=⟨g,_,none⟩) h3).trans f21,(hb.cell (p:=⟨g,_,none⟩) h3).trans f22,hb⟩
theorem set12_below {B:Nat} {w wy:World} {b:Nat} (h:Below B w wy) (hb:B≤b) (u0 u1 u2 u3 u4 u5 u6 u7 u8 u9 u10 u11:Value):Below B w ((((((((((((wy.setCell ⟨b,0,none⟩ u0).setCell ⟨b,1,none⟩ u1).setCell ⟨b,2,none⟩ u2).setCell ⟨b,3,none⟩ u3).setCell ⟨b,4,none⟩ u4).setCell ⟨b,5,none⟩ u5).setCell ⟨b,6,none⟩ u6).setCell ⟨b,7,none⟩ u7).setCell ⟨b,8,none⟩ u8).setCell ⟨b,9,none⟩ u9).setCell ⟨b,10,none⟩ u10).setCell ⟨b,11,none⟩ u11):=((((((((((((h.setCell hb _).setCell hb _).setCell hb _).setCell hb _).setCell hb _).setCell hb _).setCell hb _).setCell hb _).setCell hb _).setCell hb _).setCell hb _).setCell hb _)
theorem ordA {wr w3:World} {k' n':Int} {s':ByteArray} {r' t':Rf} {p':Option Addr} {m' q':Nat} {tc:T} (hN:Nd w3 (Own wr.drew w3) (NV k' n' s' r' t' (.slice p' m' q')) tc) (hw:Below wr.heap.size wr w3) :
  (w3.alloc (.cells (N12 k' n' s' r' t' (.slice p' m' q')) 57)).heap[w3.heap.size]?=some (.cells (N12 k' n' s' r' t' (.slice p' m' q')) 57 (0,0))∧Nd (w3.alloc (.cells (N12 k' n' s' r' t' (.slice p' m' q')) 57)) (Own wr (w3.alloc (.cells (N12 k' n' s' r' t' (.slice p' m' q')) 57))) (NV k' n' s' r' t' (.slice p' m' q')) tc∧Below wr.heap.size wr (w3.alloc (.cells (N12 k' n' s' r' t' (.slice p' m' q')) 57)):=by
 have hba:Below w3.heap.size w3 (w3.alloc (.cells (N12 k' n' s' r' t' (.slice p' m' q')) 57)):=(Below.refl _ _).alloc (Nat.le_refl _) _
 exact⟨blk_new w3 _,hN.mono (fun b hb=>hba.block b hb.2) (fun b hb=>⟨hb.1,Nat.lt_of_lt_of_le hb.2 hba.size⟩),hw.alloc hw.size _⟩
theorem ordB {wr w3:World} {k' n':Int} {s':ByteArray} {r' t':Rf} {p':Option Addr} {m' q':Nat} {tc:T} (h3:w3.heap[wr.heap.size]?=some (.cells NZ 57 (0,0))) (hN:Nd w3 (Own (wr.alloc (.cells NZ 57)).drew w3) (NV k' n' s' r' t' (.slice p' m' q')) tc) (hw:Below wr.heap.size wr w3) {Q:World→Prop}
  (hq:∀ wx,wx.heap[wr.heap.size]?=some (.cells (N12 k' n' s' r' t' (.slice p' m' q')) 57 (0,0))→Nd wx (Own wr wx) (NV k' n' s' r' t' (.slice p' m' q')) tc→Below wr.heap.size wr wx→Q wx) :
  Q ((((((((((((w3.setCell ⟨wr.heap.size,0,none⟩ (.int .i64 k')).setCell ⟨wr.heap.size,1,none⟩ (.int .i64 n')).setCell ⟨wr.heap.size,2,none⟩ (.string s')).setCell ⟨wr.heap.size,3,none⟩ (.int .i64 r'.c)).setCell ⟨wr.heap.size,4,none⟩ (.int .i64 r'.r)).setCell ⟨wr.heap.size,5,none⟩ (.bool r'.fc)).setCell ⟨wr.heap.size,6,none⟩ (.bool r'.fr)).setCell ⟨wr.heap.size,7,none⟩ (.int .i64 t'.c)).setCell ⟨wr.heap.size,8,none⟩ (.int .i64 t'.r)).setCell ⟨wr.heap.size,9,none⟩ (.bool t'.fc)).setCell ⟨wr.heap.size,10,none⟩ (.bool t'.fr)).setCell ⟨wr.heap.size,11,none⟩ (.slice p' m' q')):=by
 refine fin12 h3 (Q:=Q) (fun w2 h1 h2=>hq w2 h1 (hN.mono (fun b hb=>h2.block b hb.2 (fun e=>?_)) (fun b hb=>⟨?_,Nat.lt_of_lt_of_le hb.2 h2.size⟩)) (hw.trans (h2.toBelow hw.size (fun n hn e=>by omega))))
 ·have:=hb.1
  simp at this
  omega
 ·have:=hb.1
  simp at this
  omega
set_option maxRecDepth 100000 in
set_option maxHeartbeats 8000000 in
theorem ron_any (kk:Int) (row:Bool) (at' many cs rs fx fy tx ty:Int) (D:Chg)
  (hr:∀ r,isK r→∀ wx,Calls Tryz.prog 83 #[.agg (C10 kk row at' many cs rs fx fy tx ty),RV r] wx fun e w'=>SRef D r e∧Below wx.heap.size wx w')
  (hx:∀ a b,isK a→isK b→∀ wx,Calls Tryz.prog 84 #[.agg (C10 kk row at' many cs rs fx fy tx ty),RV a,RV b] wx fun e w'=>SBox D a b e∧Below wx.heap.size wx w')
  {w0:World} {Q:Nat→Prop} {v:Value} {t:T} (h:Nd w0 Q v t):Gp t→Bd 200 t→∀ w,Below w0.heap.size w0 w →
  Calls Tryz.prog 50 #[.agg (C10 kk row at' many cs rs fx fy tx ty),v] w fun e w'=>∃ v',e=.returned v'∧Nd w' (Own w w') v' (chg D t)∧Below w.heap.size w w':=by
 induction h with
 | @mk k n s r t p m c us ts hk hl hs ih =>
 intro hF hB w hb0
 have hm:m=ts.length:=by rw [hk.1,hl]
 have hB1:ts.length≤200:=by cases hB with | mk h1 h2=>exact h1
 have hB2:∀ (i:Nat) u,ts[i]?=some u→Bd 200 u:=by cases hB with | mk h1 h2=>exact h2
 have hF5:k=5→n=0∧s=nul∧t=.z∧ts=[]∧isK r:=by cases hF with | mk h1 h2 h3=>exact h1
 have hF6:k=6→n=0∧s=nul∧ts=[]∧isK r∧isK t:=by cases hF with | mk h1 h2 h3=>exact h2
 have hF3:∀ (i:Nat) u,ts[i]?=some u→Gp u:=by cases hF with | mk h1 h2 h3=>exact h3
 have HRc:Hid (∀ r,isK r→∀ wx,Calls Tryz.prog 83 #[.agg (C10 kk row at' many cs rs fx fy tx ty),RV r] wx fun e w'=>SRef D r e∧Below wx.heap.size wx w'):=hr
 have HXc:Hid (∀ a b,isK a→isK b→∀ wx,Calls Tryz.prog 84 #[.agg (C10 kk row at' many cs rs fx fy tx ty),RV a,RV b] wx fun e w'=>SBox D a b e∧Below wx.heap.size wx w'):=hx
 have hS:=CO.start w (C10 kk row at' many cs rs fx fy tx ty) (N12 k n s r t (.slice p m c))
 obtain⟨⟨a0,a1,a2,a3,a4,a5,a6,a7,a8,a9,a10,a11⟩,af⟩:=cells12 hS.b
 clear hr hx hB
 by_cases h5:k=5
 ·obtain⟨rfl,rfl,rfl,rfl,hK⟩:=hF5 h5
  subst h5
  obtain⟨tr,htr⟩:∃ tr,chg D (.nd 5 0 nul r .z [])=tr:=⟨_,rfl⟩
  have HE:Hid (∀ q ok,D.ref r=(if ok=true then some q else none)→tr=if ok=true then .nd 5 0 nul q .z [] else badN):=by
   intro q ok h
   rw [← htr,chg_eq];unfold chgN;rw [if_pos rfl,h]
   cases ok<;>rfl
  rw [htr]
  have HCc:Hid (∀ wx,Calls Tryz.prog 83 #[.agg (C10 kk row at' many cs rs fx fy tx ty),RV r] wx fun e w'=>SRef D r e∧Below wx.heap.size wx w'):=HRc.out r hK
  clear hF5 hF6 hF3 HRc HXc hk hl hs ih hm hB1 hB2 hF htr
  obtain⟨c0,c1,c2,c3,c4,c5,c6,c7,c8,c9⟩:=cells10 hS.a
  go_enter Tryz.func50,Tryz.ntmps50
  go_upto_block 0 with fail
  generalize hw0:((w.alloc _).alloc _).alloc _=wa at *
  clear hw0
  have HS:Hid (CO w (C10 kk row at' many cs rs fx fy tx ty) (N12 5 0 nul r .z (.slice p m c)) wa):=hS
  clear hS
  go_upto_region 4 with (first | (go_at_call 83;refine (HCc.out _).mono ?_;rintro e w1 ⟨⟨q,ok,rfl,hD⟩,hb1⟩))
  have hT0:=HE.out q ok hD
  have hS1:=(HS.out.next hb1).next ((Below.refl _ _).alloc (Nat.le_refl _) (.cells (R4 q) 54))
  obtain⟨⟨x0,x1,x2,x3⟩,-⟩:=cellsR (blk_new w1 (.cells (R4 q) 54))
  obtain⟨⟨z0,z1,z2,z3,z4,z5,z6,z7,z8,z9,z10,z11⟩,zf⟩:=cells12 hS1.c
  have hc:=hS1.c
  have hlt1:=hS1.lt
  have HBS:Hid (Below w.heap.size w (w1.alloc (.cells (R4 q) 54))):=hS1.below
  clear c0 c1 c2 c3 c4 c5 c6 c7 c8 c9 a0 a1 a2 a3 a4 a5 a6 a7 a8 a9 a10 a11 af HE HCc hD hb1 HS hS1
  dsimp only [R4] at x0 x1 x2 x3 hc z0 z1 z2 z3 z4 z5 z6 z7 z8 z9 z10 z11 zf HBS hlt1
  generalize hW1:w1.alloc (.cells #[.int .i64 q.c,.int .i64 q.r,.bool q.fc,.bool q.fr] 54)=W1 at *
  clear hW1
  cases ok with
  | false =>
   have HT:Hid (tr=badN):=hT0
   clear hT0
   go_wp2_with fail
   refine fin12 hc (Q:=bodyPost _ _ _ _ _) ?_
   clear z0 z1 z2 z3 z4 z5 z6 z7 z8 z9 z10 z11 zf x0 x1 x2 x3 hc
   intro w2 hq2 hk2
   obtain⟨⟨b0,b1,b2,b3,b4,b5,b6,b7,b8,b9,b10,b11⟩,bf'⟩:=cells12 hq2
   refine bodyPost_ret (v:=NV 4 3 nul .z .z (.slice none 0 0)) (by simp [results,Tryz.results50,go_sem,b0,b1,b2,b3,b4,b5,b6,b7,b8,b9,b10,b11]) rfl ⟨_,rfl,?_,?_⟩
   ·rw [HT.out];exact Nd.leaf
   ·exact HBS.out.trans (hk2.toBelow HBS.out.size (fun n hn e=>by omega))
  | true =>
   have HT:Hid (tr=.nd 5 0 nul q .z []):=hT0
   clear hT0
   go_wp2_with fail
   refine fin12 hc (Q:=bodyPost _ _ _ _ _) ?_
   clear z0 z1 z2 z3 z4 z5 z6 z7 z8 z9 z10 z11 zf x0 x1 x2 x3 hc
   intro w2 hq2 hk2
   obtain⟨⟨b0,b1,b2,b3,b4,b5,b6,b7,b8,b9,b10,b11⟩,bf'⟩:=cells12 hq2
   refine bodyPost_ret (v:=NV 5 0 nul q .z (.slice none 0 0)) (by simp [results,Tryz.results50,go_sem,b0,b1,b2,b3,b4,b5,b6,b7,b8,b9,b10,b11]) rfl ⟨_,rfl,?_,?_⟩
   ·rw [HT.out];exact Nd.leaf
   ·exact HBS.out.trans (hk2.toBelow HBS.out.size (fun n hn e=>by omega))
 by_cases h6:k=6
 ·obtain⟨rfl,rfl,rfl,hK,hK2⟩:=hF6 h6
  subst h6
  obtain⟨tr,htr⟩:∃ tr,chg D (.nd 6 0 nul r t [])=tr:=⟨_,rfl⟩
  have HE:Hid (∀ q q2 ok,D.box r t=(if ok=true then some (q,q2) else none)→tr=if ok=true then .nd 6 0 nul q q2 [] else badN):=by
   intro q q2 ok h
   rw [← htr,chg_eq];unfold chgN;rw [if_neg (by decide),if_pos rfl,h]
   cases ok<;>rfl
  rw [htr]
  have HCc:Hid (∀ wx,Calls Tryz.prog 84 #[.agg (C10 kk row at' many cs rs fx fy tx ty),RV r,RV t] wx fun e w'=>SBox D r t e∧Below wx.heap.size wx w'):=HXc.out r t hK hK2
  clear hF5 hF6 hF3 HRc HXc hk hl hs ih hm hB1 hB2 hF htr h5
  obtain⟨c0,c1,c2,c3,c4,c5,c6,c7,c8,c9⟩:=cells10 hS.a
  go_enter Tryz.func50,Tryz.ntmps50
  go_upto_block 0 with fail
  generalize hw0:((w.alloc _).alloc _).alloc _=wa at *
  clear hw0
  have HS:Hid (CO w (C10 kk row at' many cs rs fx fy tx ty) (N12 6 0 nul r t (.slice p m c)) wa):=hS
  clear hS
  go_upto_region 9 with (first | (go_at_call 84;refine (HCc.out _).mono ?_;rintro e w1 ⟨⟨q,q2,ok,rfl,hD⟩,hb1⟩))
  have hT0:=HE.out q q2 ok hD
  have hS1:=((HS.out.next hb1).next ((Below.refl _ _).alloc (Nat.le_refl _) (.cells (R4 q) 54))).next ((Below.refl _ _).alloc (Nat.le_refl _) (.cells (R4 q2) 54))
  have hbq:=blk_new w1 (.cells (R4 q) 54)
  obtain⟨⟨x0,x1,x2,x3⟩,-⟩:=cellsR ((((Below.refl _ _).alloc (Nat.le_refl _) (.cells (R4 q2) 54)).block _ (lt_blk hbq)).trans hbq)
  have hbq2:=blk_new (w1.alloc (.cells (R4 q) 54)) (.cells (R4 q2) 54)
  rw [World.size_alloc] at hbq2
  obtain⟨⟨y0,y1,y2,y3⟩,-⟩:=cellsR hbq2
  obtain⟨⟨z0,z1,z2,z3,z4,z5,z6,z7,z8,z9,z10,z11⟩,zf⟩:=cells12 hS1.c
  have hc:=hS1.c
  have hlt1:=hS1.lt
  have HBS:Hid (Below w.heap.size w ((w1.alloc (.cells (R4 q) 54)).alloc (.cells (R4 q2) 54))):=hS1.below
  clear c0 c1 c2 c3 c4 c5 c6 c7 c8 c9 a0 a1 a2 a3 a4 a5 a6 a7 a8 a9 a10 a11 af HE HCc hD hb1 HS hS1 hbq hbq2
  dsimp only [R4] at x0 x1 x2 x3 y0 y1 y2 y3 hc z0 z1 z2 z3 z4 z5 z6 z7 z8 z9 z10 z11 zf HBS hlt1
  generalize hW1:(w1.alloc (.cells #[.int .i64 q.c,.int .i64 q.r,.bool q.fc,.bool q.fr] 54)).alloc (.cells #[.int .i64 q2.c,.int .i64 q2.r,.bool q2.fc,.bool q2.fr] 54)=W1 at *
  clear hW1
  cases ok with
  | false =>
   have HT:Hid (tr=badN):=hT0
   clear hT0
   go_wp2_with fail
   refine fin12 hc (Q:=bodyPost _ _ _ _ _) ?_
   clear z0 z1 z2 z3 z4 z5 z6 z7 z8 z9 z10 z11 zf x0 x1 x2 x3 y0 y1 y2 y3 hc
   intro w2 hq2 hk2
   obtain⟨⟨b0,b1,b2,b3,b4,b5,b6,b7,b8,b9,b10,b11⟩,bf'⟩:=cells12 hq2
   refine bodyPost_ret (v:=NV 4 3 nul .z .z (.slice none 0 0)) (by simp [results,Tryz.results50,go_sem,b0,b1,b2,b3,b4,b5,b6,b7,b8,b9,b10,b11]) rfl ⟨_,rfl,?_,?_⟩
   ·rw [HT.out];exact Nd.leaf
   ·exact HBS.out.trans (hk2.toBelow HBS.out.size (fun n hn e=>by omega))
  | true =>
   have HT:Hid (tr=.nd 6 0 nul q q2 []):=hT0
   clear hT0
   go_wp2_with fail
   refine fin12 hc (Q:=bodyPost _ _ _ _ _) ?_
   clear z0 z1 z2 z3 z4 z5 z6 z7 z8 z9 z10 z11 zf x0 x1 x2 x3 y0 y1 y2 y3 hc
   intro w2 hq2 hk2
   obtain⟨⟨b0,b1,b2,b3,b4,b5,b6,b7,b8,b9,b10,b11⟩,bf'⟩:=cells12 hq2
   refine bodyPost_ret (v:=NV 6 0 nul q q2 (.slice none 0 0)) (by simp [results,Tryz.results50,go_sem,b0,b1,b2,b3,b4,b5,b6,b7,b8,b9,b10,b11]) rfl ⟨_,rfl,?_,?_⟩
   ·rw [HT.out];exact Nd.leaf
   ·exact HBS.out.trans (hk2.toBelow HBS.out.size (fun n hn e=>by omega))
 have HE:Hid (chg D (.nd k n s r t ts)=.nd k n s r t (chgL D ts)):=by
  unfold Hid;rw [chg_eq];unfold chgN;rw [if_neg h5,if_neg h6]
 rw [HE.out]
 have g5:(k == 5)=false:=by simp [h5]
 have g6:(k == 6)=false:=by simp [h6]
 have HK:Hid (Kids w0 Q p m c us):=hk
 have HL:Hid (us.length=ts.length):=hl
 have HS:Hid (∀ (i:Nat) u t',us[i]?=some u→ts[i]?=some t'→Nd w0 Q u t'):=hs
 have HI:Hid (∀ (i:Nat) u t',us[i]?=some u→ts[i]?=some t'→Gp t'→Bd 200 t'→∀ w,Below w0.heap.size w0 w→Calls Tryz.prog 50 #[.agg (C10 kk row at' many cs rs fx fy tx ty),u] w fun e w'=>∃ v',e=.returned v'∧Nd w' (Own w w') v' (chg D t')∧Below w.heap.size w w'):=ih
 have HB2:Hid (∀ (i:Nat) u,ts[i]?=some u→Bd 200 u):=hB2
 have HF3:Hid (∀ (i:Nat) u,ts[i]?=some u→Gp u):=hF3
 have HM:Hid (m=ts.length):=hm
 have HB0:Hid (Below w0.heap.size w0 w):=hb0
 have hB3:m≤200:=by omega
 clear hk hl hs ih hm hB1 hB2 hF3 hb0 HE hF5 hF6 HRc HXc hF h5 h6
 obtain⟨c0,c1,c2,c3,c4,c5,c6,c7,c8,c9⟩:=cells10 hS.a
 go_enter Tryz.func50,Tryz.ntmps50
 go_upto_block 0 with fail
 generalize hw0:((w.alloc _).alloc _).alloc _=wc0 at *
 clear hw0
 have hlt3:=hS.lt
 have HSC:Hid (∀ wx,Below wc0.heap.size wc0 wx→CO w (C10 kk row at' many cs rs fx fy tx ty) (N12 k n s r t (.slice p m c)) wx):=fun wx hb=>hS.next hb
 go_wp2_with fail
 clear hS a0 a1 a2 a3 a4 a5 a6 a7 a8 a9 a10 a11 af c0 c1 c2 c3 c4 c5 c6 c7 c8 c9 g5 g6
 go_loopw [10,11] (fun sv i wr=>∃ (j:Nat) (us':List Value) (p6:Option Addr) (m6 c6:Nat),i=.int .i64 j∧sv=.slice p6 m6 c6∧j≤m∧us'.length=j∧GV wc0 wr (.slice p6 m6 c6) us' ((chgL D ts).take j)∧Below wc0.heap.size wc0 wr) (fun _ i _=>m - (intOf i).toNat)
 case atStart=>exact⟨0,[],none,0,0,rfl,rfl,Nat.zero_le _,rfl,.inl ⟨rfl,by simp,rfl⟩,Below.refl _ _⟩
 case round =>
  obtain⟨j,us',p6,m6,c6,rfl,rfl,hj,hlen,hG,hbw⟩:=hrel
  have hSr:=HSC.out wr hbw
  obtain⟨⟨a0,a1,a2,a3,a4,a5,a6,a7,a8,a9,a10,a11⟩,af⟩:=cells12 hSr.b
  by_cases hlt:j<m
  ·obtain⟨g,o,u,tk,rfl,hg,hu,htk,hc⟩:=kid_at HK.out HL.out HS.out j hlt
   have hN:=HS.out j u tk hu htk
   have HC:Hid (∀ wx,Below w0.heap.size w0 wx→Calls Tryz.prog 50 #[.agg (C10 kk row at' many cs rs fx fy tx ty),u] wx fun e w'=>∃ v',e=.returned v'∧Nd w' (Own wx w') v' (chg D tk)∧Below wx.heap.size wx w'):=HI.out j u tk hu htk (HF3.out j tk htk) (HB2.out j tk htk)
   have HTK:Hid ((chgL D ts).take (j+1)=(chgL D ts).take j++[chg D tk]):=by
    unfold Hid
    rw [List.take_add_one,chgL_at,htk]
    rfl
   have hbr:Below w0.heap.size w0 wr:=HB0.out.trans (hSr.below.mono HB0.out.size)
   have e1:∀ jj x,u.cells.toList[jj]?=some x→wr.cell? ⟨g,o+j*12+jj,none⟩=some x:=fun jj x hx=>by rw [hbr.cell (p:=⟨g,_,none⟩) hg];exact hc jj x hx
   obtain⟨tc,htc⟩:∃ tc,chg D tk=tc:=⟨_,rfl⟩
   rw [htc] at HC HTK
   have HBR:Hid (Below w0.heap.size w0 wr):=hbr
   clear hc hu htk hbr htc HI HF3 HB2
   cases hN with
   | @mk k1 n1 s1 ra rb p1 m1 q1 us1 ts1 _ _ _ =>
   have hlt':(j:Int)<(m:Int):=by omega
   have hj':(0:Int)≤(j:Int):=by omega
   have x0:=e1 0 _ rfl
   have x1:=e1 1 _ rfl
   have x2:=e1 2 _ rfl
   have x3:=e1 3 _ rfl
   have x4:=e1 4 _ rfl
   have x5:=e1 5 _ rfl
   have x6:=e1 6 _ rfl
   have x7:=e1 7 _ rfl
   have x8:=e1 8 _ rfl
   have x9:=e1 9 _ rfl
   have x10:=e1 10 _ rfl
   have x11:=e1 11 _ rfl
   simp only [Nat.add_zero] at x0
   obtain⟨c0,c1,c2,c3,c4,c5,c6',c7,c8,c9⟩:=cells10 hSr.a
   have HGr:Hid (GV wc0 wr (.slice p6 m6 c6) us' ((chgL D ts).take j)∧Below wc0.heap.size wc0 wr):=⟨hG,hbw⟩
   have hgr:g<wr.heap.size:=Nat.lt_of_lt_of_le hg (Nat.le_trans HB0.out.size (Nat.le_trans (by omega) hbw.size))
   have hlr:=hSr.lt
   have SOF:Hid (∀ wx,Below wr.heap.size wr wx→OG wr w.heap.size (w.heap.size+1) g (o+j*12) kk row at' many cs rs fx fy tx ty (.slice (some ⟨g,o,none⟩) m c) k1 n1 s1 ra rb p1 m1 q1 wx):=og_on ⟨c0,c1,c2,c3,c4,c5,c6',c7,c8,c9,a11,x0,x1,x2,x3,x4,x5,x6,x7,x8,x9,x10,x11,Below.refl _ _⟩ (by omega) (by omega) hgr
   have h0d:OG wr w.heap.size (w.heap.size+1) g (o+j*12) kk row at' many cs rs fx fy tx ty (.slice (some ⟨g,o,none⟩) m c) k1 n1 s1 ra rb p1 m1 q1 wr.drew:=SOF.out _ (Below.refl _ _).drew
   clear e1 hSr hG hbw hgr hlr
   go_upto_region 16 with fail
   clear x0 x1 x2 x3 x4 x5 x6 x7 x8 x9 x10 x11 c0 c1 c2 c3 c4 c5 c6' c7 c8 c9 a0 a1 a2 a3 a4 a5 a6 a7 a8 a9 a10 a11 af
   have HAL:∀ (wy:World) (x:Obj),OG wr w.heap.size (w.heap.size+1) g (o+j*12) kk row at' many cs rs fx fy tx ty (.slice (some ⟨g,o,none⟩) m c) k1 n1 s1 ra rb p1 m1 q1 wy→OG wr w.heap.size (w.heap.size+1) g (o+j*12) kk row at' many cs rs fx fy tx ty (.slice (some ⟨g,o,none⟩) m c) k1 n1 s1 ra rb p1 m1 q1 (wy.alloc x):=fun wy x h=>SOF.out _ ((ogb h).alloc (ogb h).size _)
   have HDR:∀ (wy:World),OG wr w.heap.size (w.heap.size+1) g (o+j*12) kk row at' many cs rs fx fy tx ty (.slice (some ⟨g,o,none⟩) m c) k1 n1 s1 ra rb p1 m1 q1 wy→OG wr w.heap.size (w.heap.size+1) g (o+j*12) kk row at' many cs rs fx fy tx ty (.slice (some ⟨g,o,none⟩) m c) k1 n1 s1 ra rb p1 m1 q1 wy.drew:=fun wy h=>SOF.out _ (ogb h).drew
   have HBL:∀ (wy wz:World),OG wr w.heap.size (w.heap.size+1) g (o+j*12) kk row at' many cs rs fx fy tx ty (.slice (some ⟨g,o,none⟩) m c) k1 n1 s1 ra rb p1 m1 q1 wy→Below wy.heap.size wy wz→OG wr w.heap.size (w.heap.size+1) g (o+j*12) kk row at' many cs rs fx fy tx ty (.slice (some ⟨g,o,none⟩) m c) k1 n1 s1 ra rb p1 m1 q1 wz:=fun wy wz h hb=>SOF.out _ (bnext (ogb h) hb (ogb h).size)
   have HA2:Hid (∀ (wy:World) (x:Obj),Below wr.heap.size wr wy→OG wr w.heap.size (w.heap.size+1) g (o+j*12) kk row at' many cs rs fx fy tx ty (.slice (some ⟨g,o,none⟩) m c) k1 n1 s1 ra rb p1 m1 q1 (wy.alloc x)):=fun wy x h=>SOF.out _ (h.alloc h.size _)
   have HS2:Hid (∀ (wy:World) (b q:Nat) (x:Value),Below wr.heap.size wr wy→wr.heap.size≤b→OG wr w.heap.size (w.heap.size+1) g (o+j*12) kk row at' many cs rs fx fy tx ty (.slice (some ⟨g,o,none⟩) m c) k1 n1 s1 ra rb p1 m1 q1 (wy.setCell ⟨b,q,none⟩ x)):=fun wy b q x h hb=>SOF.out _ (h.setCell hb _)
   have HAL:Hid (∀ (wy:World) (x:Obj),OG wr w.heap.size (w.heap.size+1) g (o+j*12) kk row at' many cs rs fx fy tx ty (.slice (some ⟨g,o,none⟩) m c) k1 n1 s1 ra rb p1 m1 q1 wy→OG wr w.heap.size (w.heap.size+1) g (o+j*12) kk row at' many cs rs fx fy tx ty (.slice (some ⟨g,o,none⟩) m c) k1 n1 s1 ra rb p1 m1 q1 (wy.alloc x)):=HAL
   have HDR:Hid (∀ (wy:World),OG wr w.heap.size (w.heap.size+1) g (o+j*12) kk row at' many cs rs fx fy tx ty (.slice (some ⟨g,o,none⟩) m c) k1 n1 s1 ra rb p1 m1 q1 wy→OG wr w.heap.size (w.heap.size+1) g (o+j*12) kk row at' many cs rs fx fy tx ty (.slice (some ⟨g,o,none⟩) m c) k1 n1 s1 ra rb p1 m1 q1 wy.drew):=HDR
   have HBL:Hid (∀ (wy wz:World),OG wr w.heap.size (w.heap.size+1) g (o+j*12) kk row at' many cs rs fx fy tx ty (.slice (some ⟨g,o,none⟩) m c) k1 n1 s1 ra rb p1 m1 q1 wy→Below wy.heap.size wy wz→OG wr w.heap.size (w.heap.size+1) g (o+j*12) kk row at' many cs rs fx fy tx ty (.slice (some ⟨g,o,none⟩) m c) k1 n1 s1 ra rb p1 m1 q1 wz):=HBL
   have HNW:Hid (∀ w3,Below (wr.alloc (.cells NZ 57)).drew.heap.size (wr.alloc (.cells NZ 57)).drew w3→w3.heap[wr.heap.size]?=some (.cells NZ 57 (0,0))):=fun w3 hb=>by
    have h1:(wr.alloc (.cells NZ 57)).drew.heap[wr.heap.size]?=some (.cells NZ 57 (0,0)):=blk_new wr (.cells NZ 57)
    exact (hb.block _ (lt_blk h1)).trans h1
   go_cut [12] (fun s12 wx=>∃ h k' n' s' r' t' p' m' q',s12=ptr h∧wx.heap[h]?=some (.cells (N12 k' n' s' r' t' (.slice p' m' q')) 57 (0,0))∧Nd wx (Own wr wx) (NV k' n' s' r' t' (.slice p' m' q')) tc∧Below wr.heap.size wr wx)
   case first =>
    go_region_held3 (fun wx=>OG wr w.heap.size (w.heap.size+1) g (o+j*12) kk row at' many cs rs fx fy tx ty (.slice (some ⟨g,o,none⟩) m c) k1 n1 s1 ra rb p1 m1 q1 wx) (first | with_reducible exact h0d | with_reducible assumption | with_reducible exact SOF.out _ (by assumption) | with_reducible exact HA2.out _ _ (by assumption) | with_reducible exact HDR.out _ (HA2.out _ _ (Below.refl _ _)) | with_reducible exact SOF.out _ (set12_below (by assumption) (Nat.le_refl _) _ _ _ _ _ _ _ _ _ _ _ _) | with_reducible exact HDR.out _ (by assumption)) (first | (go_at_call 50;refine (HC.out _ (bnext HBR.out (ogb (by assumption)) HBR.out.size)).mono ?_;rintro e w3 ⟨v',rfl,hN3,hb3⟩;obtain⟨k',n',s',r',t',p',m',q',rfl⟩:=nd_nv hN3;have hw3:=bnext (ogb (by assumption)) hb3 (ogb (by assumption)).size;first | (refine (fun (h7:Below (wr.alloc (.cells NZ 57)).drew.heap.size (wr.alloc (.cells NZ 57)).drew w3)=>?_) ?_;rotate_left;with_reducible assumption;obtain⟨⟨z0,z1,z2,z3,z4,z5,z6,z7,z8,z9,z10,z11⟩,zf⟩:=cells12 (HNW.out _ h7);have zf0:=zf 0;have zf1:=zf 1;have zf2:=zf 2;have zf3:=zf 3;have zf4:=zf 4;have zf5:=zf 5;have zf6:=zf 6;have zf7:=zf 7;have zf8:=zf 8;have zf9:=zf 9;have zf10:=zf 10;have zf11:=zf 11) | skip))
    all_goals
     go_wp2_with fail
     go_meet
     case rel =>
      first
      | (have hA:=ordA hN3 hw3;exact⟨_,k',n',s',r',t',p',m',q',rfl,hA.1,hA.2.1,hA.2.2⟩)
      | exact ordB (HNW.out _ h7) hN3 hw3 (Q:=fun wx=>∃ h k' n' s' r' t' p' m' q',ptr wr.heap.size=ptr h∧wx.heap[h]?=some (.cells (N12 k' n' s' r' t' (.slice p' m' q')) 57 (0,0))∧Nd wx (Own wr wx) (NV k' n' s' r' t' (.slice p' m' q')) tc∧Below wr.heap.size wr wx) (fun wx g1 g2 g3=>⟨_,k',n',s',r',t',p',m',q',rfl,g1,g2,g3⟩)
   case rest =>
   obtain⟨h,k',n',s',r',t',p',m',q',rfl,hbx,hN3,hw3⟩:=hcut
   obtain⟨⟨x0,x1,x2,x3,x4,x5,x6,x7,x8,x9,x10,x11⟩,-⟩:=cells12 hbx
   have hba:Below wc.heap.size wc (wc.alloc (.cells (N12 k' n' s' r' t' (.slice p' m' q')) 57)):=(Below.refl _ _).alloc (Nat.le_refl _) _
   have hb5:=blk_new wc (.cells (N12 k' n' s' r' t' (.slice p' m' q')) 57)
   have hN4:=hN3.mono (w':=wc.alloc (.cells (N12 k' n' s' r' t' (.slice p' m' q')) 57)) (Q:=Own wr (wc.alloc (.cells (N12 k' n' s' r' t' (.slice p' m' q')) 57))) (fun b hb=>hba.block b hb.2) (fun b hb=>⟨hb.1,Nat.lt_of_lt_of_le hb.2 hba.size⟩)
   obtain⟨sv',w5,hr,hG5,hk5⟩:=appV HGr.out.1 ((HGr.out.1.below hw3).below hba) hN4 HGr.out.2.size (Nat.le_trans hw3.size hba.size) hb5 (by omega)
   have hbz:=(bnext (bnext HGr.out.2 hw3 HGr.out.2.size) hba (Nat.le_trans HGr.out.2.size hw3.size)).trans (hk5.toBelow (Nat.le_trans (Nat.le_trans HGr.out.2.size hw3.size) hba.size) (fun n hn e=>by omega))
   obtain⟨p7,m7,c7,rfl⟩:=hG5.slice
   have HR5:Hid ((Builtin.append_ #[55,55] 55 #[.slice p6 m6 c6,.slice (some ⟨wc.heap.size,0,none⟩) 1 1]).run Tryz.prog (wc.alloc (.cells (N12 k' n' s' r' t' (.slice p' m' q')) 57))=.ok (.slice p7 m7 c7) w5):=hr
   have HG5:Hid (GV wc0 w5 (.slice p7 m7 c7) (us'++[NV k' n' s' r' t' (.slice p' m' q')]) ((chgL D ts).take (j+1))∧Below wc0.heap.size wc0 w5):=by
    unfold Hid
    rw [HTK.out]
    exact⟨hG5,hbz⟩
   clear hr hG5 hk5 hN3 hN4 hbx hb5 hba hw3 hbz HGr HBR HC SOF h0d HAL HDR HBL HA2 HS2 HNW
   go_wp2_with (first | (at_builtin;refine wpList_append_eq rfl _ _ 55 rfl _ _ _ _ rfl rfl HR5.out ?_))
   exact⟨⟨j+1,us'++[NV k' n' s' r' t' (.slice p' m' q')],p7,m7,c7,by simp,rfl,hlt,by simp [hlen],HG5.out.1,HG5.out.2⟩,by simp [intOf];omega⟩
  ·have hjm:j=m:=by omega
   subst hjm
   have HG:Hid (GV wc0 wr (.slice p6 m6 c6) us' (chgL D ts)):=by
    have h1:=hG
    rw [List.take_of_length_le (by rw [chgL_len,← HM.out];exact Nat.le_refl _)] at h1
    exact h1
   obtain⟨⟨z0,z1,z2,z3,z4,z5,z6,z7,z8,z9,z10,z11⟩,zf⟩:=cells12 hSr.c
   have hks:=kpset wr (w.heap.size+1) 11 (.slice p6 m6 c6)
   have hc2:=hks.blk hSr.c (by omega)
   have HSR:Hid (CO w (C10 kk row at' many cs rs fx fy tx ty) (N12 k n s r t (.slice p j c)) wr):=hSr
   clear hSr hG HI HF3 HB2 HS HK HL
   go_wp2_with fail
   refine fin12 hc2 (Q:=bodyPost _ _ _ _ _) ?_
   clear z0 z1 z2 z3 z4 z5 z6 z7 z8 z9 z10 z11 zf a0 a1 a2 a3 a4 a5 a6 a7 a8 a9 a10 a11 af hc2
   intro w2 hq2 hk2
   obtain⟨⟨b0,b1,b2,b3,b4,b5,b6,b7,b8,b9,b10,b11⟩,bf'⟩:=cells12 hq2
   have hbs:=hbw.size
   have hkk:∀ b,wc0.heap.size≤b→b<wr.heap.size→w2.heap[b]?=wr.heap[b]?:=fun b h1 h2=>by
    rw [hk2.block b (by have:=hks.size;omega) (by omega),hks.block b h2 (by omega)]
   refine bodyPost_ret (v:=NV k n s r t (.slice p6 m6 c6)) (by simp [results,Tryz.results50,go_sem,b0,b1,b2,b3,b4,b5,b6,b7,b8,b9,b10,b11]) rfl ⟨_,rfl,?_,?_⟩
   ·refine (HG.out.node (w0:=wc0) (Nat.le_refl _)).mono (fun b hb=>hkk b hb.1 hb.2) (fun b hb=>⟨by have:=hb.1;omega,Nat.lt_of_lt_of_le hb.2 (Nat.le_trans hks.size hk2.size)⟩)
   ·exact (HSR.out.below.trans (hks.toBelow HSR.out.below.size (fun n hn e=>by omega))).trans (hk2.toBelow (Nat.le_trans HSR.out.below.size hks.size) (fun n hn e=>by omega))
end Go.Proofs.YtgifkepklnhddaaGreatDoor.fm
namespace Go.Proofs.YtgifkepklnhddaaGreatDoor.fm
open Go.RowKit
def sameR (a b:Rf):Bool:=decide (a.c=b.c) && decide (a.r=b.r) && (a.fc == b.fc) && (a.fr == b.fr)
theorem sameR_iff {a b:Rf}:sameR a b=true↔a=b:=by
 obtain⟨ac,ar,af,ag⟩:=a
 obtain⟨bc,br,bf,bg⟩:=b
 unfold sameR
 simp [and_assoc]
abbrev RV4 (r:Rf):Value:=.agg #[.int .i64 r.c,.int .i64 r.r,.bool r.fc,.bool r.fr]
theorem eqInR (a b:Rf) (m:Nat) (W:World):(Op.equalIn (m+4) 54 (RV4 a) (RV4 b)).run Tryz.prog W=.ok (sameR a b) W:=by
 have hS:Tryz.prog.underlying 54=some (.struct (Tryz.prog.fieldsOf 54)):=by kernel_rfl
 have hp:Tryz.prog.stoodInHeld 54=false:=by kernel_rfl
 rw [run_equalIn_struct W (m+3) 54 _ _ hS hp]
 simp only [Program.fieldsOf,Tryz.underlying54]
 unfold sameR
 cases h1:(decide (a.c=b.c) && decide (a.r=b.r)) with
 | false=>simp [Op.eqFields,go_sem,ps.eqIn30,h1]
 | true =>
  cases h2:(a.fc == b.fc) with
  | false=>simp [Op.eqFields,go_sem,ps.eqIn30,h1,h2]
  | true =>
   cases h3:(a.fr == b.fr) with
   | false=>simp [Op.eqFields,go_sem,ps.eqIn30,h1,h2,h3]
   | true=>simp [Op.eqFields,go_sem,ps.eqIn30,h1,h2,h3]
theorem neqR (a b:Rf) (W:World):(binOp BinOp.neq 54 (RV4 a) (RV4 b)).run Tryz.prog W=.ok (.bool (!sameR a b)) W:=by
 rw [run_neq_struct,show (10000:Nat)=9996+4 from rfl,eqInR];rfl
theorem toList_inj {s t:ByteArray} (h:s.toList=t.toList):s=t:=by
 have e:s.data.toList=t.data.toList:=by
  have:=congrArg List.toArray h
  simpa [ByteArray.toList_eq] using h
 obtain⟨⟨l⟩⟩:=s
 obtain⟨⟨m⟩⟩:=t
 simp at e
 rw [e]
def SO (t t':T) (e:Ending):Prop:=(t=t'∧e=.returned (.bool true))∨(t≠t'∧e=.returned (.bool false))
theorem SO.bool {t t':T} {e:Ending} (h:SO t t' e):∃ b:Bool,e=.returned (.bool b)∧(b=true↔t=t'):=by
 rcases h with ⟨h1,h2⟩ | ⟨h1,h2⟩
 ·exact⟨true,h2,fun _=>h1,fun _=>rfl⟩
 ·exact⟨false,h2,⟨fun e=>absurd e (by decide),fun e=>absurd e h1⟩⟩
set_option maxRecDepth 100000 in
set_option maxHeartbeats 8000000 in
theorem same_exact {w:World} {P P':Nat→Prop} {v:Value} {t0:T} (h:Nd w P v t0):Bd 200 t0→∀ v' t',Nd w P' v' t'→∀ w1,Below w.heap.size w w1 →
  Calls Tryz.prog 51 #[v,v'] w1 fun e w'=>SO t0 t' e∧Below w1.heap.size w1 w':=by
 induction h with
 | @mk k n s r t p m c us ts hk hl hs ih =>
 intro hB v' t0' h' w1 hb1
 cases h' with
 | @mk k' n' s' r' t' p' m' c' us' ts' hk' hl' hs' =>
 have hm:m=ts.length:=by rw [hk.1,hl]
 have hm':m'=ts'.length:=by rw [hk'.1,hl']
 have hB1:ts.length≤200:=by cases hB with | mk h1 h2=>exact h1
 have hB2:∀ (i:Nat) u,ts[i]?=some u→Bd 200 u:=by cases hB with | mk h1 h2=>exact h2
 have hS0:=SB.start hb1 (N12 k n s r t (.slice p m c)) (N12 k' n' s' r' t' (.slice p' m' c'))
 have HBe:Hid (Below w1.heap.size w1 ((w1.alloc (.cells (N12 k n s r t (.slice p m c)) 57)).alloc (.cells (N12 k' n' s' r' t' (.slice p' m' c')) 57))):=hS0.below1
 clear hB
 have HM:Hid (m=ts.length∧m'=ts'.length):=⟨hm,hm'⟩
 have hm200:m≤200:=by omega
 clear hm hm' hB1
 obtain⟨⟨a0,a1,a2,a3,a4,a5,a6,a7,a8,a9,a10,a11⟩,-⟩:=cells12 hS0.a
 obtain⟨⟨b0,b1,b2,b3,b4,b5,b6,b7,b8,b9,b10,b11⟩,-⟩:=cells12 hS0.b
 by_cases hk0:k=k'
 ·subst hk0
  by_cases hn0:n=n'
  ·subst hn0
   cases hs0:(s.toList == s'.toList) with
   | true =>
    obtain rfl:s=s':=toList_inj (by simpa using hs0)
    clear hs0
    have er:=fun W=>neqR r r' W
    cases hr0:sameR r r' with
    | true =>
     obtain rfl:=sameR_iff.1 hr0
     have et:=fun W=>neqR t t' W
     cases ht0:sameR t t' with
     | true =>
      obtain rfl:=sameR_iff.1 ht0
      by_cases hmm:m=m'
      ·subst hmm
       have HL:Hid (us.length=ts.length∧m=ts.length):=⟨hl,HM.out.1⟩
       have HL':Hid (us'.length=ts'.length∧m=ts'.length):=⟨hl',HM.out.2⟩
       have HK:Hid (Kids w P p m c us):=hk
       have HK':Hid (Kids w P' p' m c' us'):=hk'
       have HS:Hid (∀ (i:Nat) u t',us[i]?=some u→ts[i]?=some t'→Nd w P u t'):=hs
       have HS':Hid (∀ (i:Nat) u t',us'[i]?=some u→ts'[i]?=some t'→Nd w P' u t'):=hs'
       have HI:Hid (∀ (i:Nat) u t',us[i]?=some u→ts[i]?=some t'→Bd 200 t'→∀ v' t2,Nd w P' v' t2→∀ w1,Below w.heap.size w w1→Calls Tryz.prog 51 #[u,v'] w1 fun e w'=>SO t' t2 e∧Below w1.heap.size w1 w'):=fun i u t' h1 h2=>ih i u t' h1 h2
       have HB2:Hid (∀ (i:Nat) u,ts[i]?=some u→Bd 200 u):=hB2
       clear hl hl' hk hk' hs hs' ih hB2 HM
       go_enter Tryz.func51,Tryz.ntmps51
       go_wp2_with fail
       clear a0 a1 a2 a3 a4 a5 a6 a7 a8 a9 a10 a11 b0 b1 b2 b3 b4 b5 b6 b7 b8 b9 b10 b11 er et hr0 ht0 HBe
       generalize ((w1.alloc _).alloc _)=w2 at *
       go_loopw [5,6] (fun i _ wr=>∃ j:Nat,i=.int .i64 j∧j≤m∧Hid (ts.take j=ts'.take j)∧SB w w1 (N12 k n s r t (.slice p m c)) (N12 k n s r t (.slice p' m c')) wr) (fun i _ _=>m - (intOf i).toNat)
       case atStart=>exact⟨0,rfl,Nat.zero_le _,by simp [Hid],hS0⟩
       case round =>
        clear hS0
        obtain⟨j,rfl,hj,HTK,hS⟩:=hrel
        have a11:=(cells12 hS.a).1.2.2.2.2.2.2.2.2.2.2.2
        have b11:=(cells12 hS.b).1.2.2.2.2.2.2.2.2.2.2.2
        by_cases hlt:j<m
        ·obtain⟨g,o,u,t1,rfl,hg,hu,ht1,hc⟩:=kid_at HK.out HL.out.1 HS.out j hlt
         obtain⟨g',o',u',t2,rfl,hg',hu',ht2,hc'⟩:=kid_at HK'.out HL'.out.1 HS'.out j hlt
         have hN:=HS.out j u t1 hu ht1
         have hN':=HS'.out j u' t2 hu' ht2
         have HC:Hid (∀ wr,Below w.heap.size w wr→Calls Tryz.prog 51 #[u,u'] wr fun e w'=>SO t1 t2 e∧Below wr.heap.size wr w'):=fun wr hb=>HI.out j u t1 hu ht1 (HB2.out j t1 ht1) u' t2 hN' wr hb
         have HT12:Hid (ts[j]?=some t1∧ts'[j]?=some t2):=⟨ht1,ht2⟩
         have e1:∀ jj x,u.cells.toList[jj]?=some x→wr.cell? ⟨g,o+j*12+jj,none⟩=some x:=fun jj x hx=>by rw [hS.below.cell (p:=⟨g,_,none⟩) hg];exact hc jj x hx
         have e2:∀ jj x,u'.cells.toList[jj]?=some x→wr.cell? ⟨g',o'+j*12+jj,none⟩=some x:=fun jj x hx=>by rw [hS.below.cell (p:=⟨g',_,none⟩) hg'];exact hc' jj x hx
         clear HI HK HK' HS HS' HB2 hu hu' ht1 ht2 hc hc'
         cases hN with
         | @mk k1 n1 s1 ra rb p1 m1 q1 us1 ts1 _ _ _ =>
         cases hN' with
         | @mk k2 n2 s2 rc rd p2 m2 q2 us2 ts2 _ _ _ =>
         generalize T.nd k1 n1 s1 ra rb ts1=T1 at *
         generalize T.nd k2 n2 s2 rc rd ts2=T2 at *
         have hlt':(j:Int)<(m:Int):=by omega
         have hj':(0:Int)≤(j:Int):=by omega
         have x0:=e1 0 _ rfl
         have y0:=e2 0 _ rfl
         have x1:=e1 1 _ rfl
         have y1:=e2 1 _ rfl
         have x2:=e1 2 _ rfl
         have y2:=e2 2 _ rfl
         have x3:=e1 3 _ rfl
         have y3:=e2 3 _ rfl
         have x4:=e1 4 _ rfl
         have y4:=e2 4 _ rfl
         have x5:=e1 5 _ rfl
         have y5:=e2 5 _ rfl
         have x6:=e1 6 _ rfl
         have y6:=e2 6 _ rfl
         have x7:=e1 7 _ rfl
         have y7:=e2 7 _ rfl
         have x8:=e1 8 _ rfl
         have y8:=e2 8 _ rfl
         have x9:=e1 9 _ rfl
         have y9:=e2 9 _ rfl
         have x10:=e1 10 _ rfl
         have y10:=e2 10 _ rfl
         have x11:=e1 11 _ rfl
         have y11:=e2 11 _ rfl
         simp only [Nat.add_zero] at x0 y0
         have KK:Hid (∀ wx,Below wr.drew.heap.size wr.drew wx→wx.cell? ⟨w1.heap.size,11,none⟩=some (.slice (some ⟨g,o,none⟩) m c)∧wx.cell? ⟨w1.heap.size+1,11,none⟩=some (.slice (some ⟨g',o',none⟩) m c')∧wx.cell? ⟨g,o+j*12,none⟩=some (.int .i64 k1)∧wx.cell? ⟨g,o+j*12+1,none⟩=some (.int .i64 n1)∧wx.cell? ⟨g,o+j*12+2,none⟩=some (.string s1)∧wx.cell? ⟨g,o+j*12+3,none⟩=some (.int .i64 ra.c)∧wx.cell? ⟨g,o+j*12+4,none⟩=some (.int .i64 ra.r)∧wx.cell? ⟨g,o+j*12+5,none⟩=some (.bool ra.fc)∧wx.cell? ⟨g,o+j*12+6,none⟩=some (.bool ra.fr)∧wx.cell? ⟨g,o+j*12+7,none⟩=some (.int .i64 rb.c)∧wx.cell? ⟨g,o+j*12+8,none⟩=some (.int .i64 rb.r)∧wx.cell? ⟨g,o+j*12+9,none⟩=some (.bool rb.fc)∧wx.cell? ⟨g,o+j*12+10,none⟩=some (.bool rb.fr)∧wx.cell? ⟨g,o+j*12+11,none⟩=some (.slice p1 m1 q1)∧wx.cell? ⟨g',o'+j*12,none⟩=some (.int .i64 k2)∧wx.cell? ⟨g',o'+j*12+1,none⟩=some (.int .i64 n2)∧wx.cell? ⟨g',o'+j*12+2,none⟩=some (.string s2)∧wx.cell? ⟨g',o'+j*12+3,none⟩=some (.int .i64 rc.c)∧wx.cell? ⟨g',o'+j*12+4,none⟩=some (.int .i64 rc.r)∧wx.cell? ⟨g',o'+j*12+5,none⟩=some (.bool rc.fc)∧wx.cell? ⟨g',o'+j*12+6,none⟩=some (.bool rc.fr)∧wx.cell? ⟨g',o'+j*12+7,none⟩=some (.int .i64 rd.c)∧wx.cell? ⟨g',o'+j*12+8,none⟩=some (.int .i64 rd.r)∧wx.cell? ⟨g',o'+j*12+9,none⟩=some (.bool rd.fc)∧wx.cell? ⟨g',o'+j*12+10,none⟩=some (.bool rd.fr)∧wx.cell? ⟨g',o'+j*12+11,none⟩=some (.slice p2 m2 q2)):=fun wx hb=>by
          have hq:∀ {b o:Nat} {v:Value},b<wr.heap.size→wr.cell? ⟨b,o,none⟩=some v→wx.cell? ⟨b,o,none⟩=some v:=fun {b o v} hl hv=>(hb.cell (p:=⟨b,o,none⟩) hl).trans hv
          have l1:=lt_blk hS.a
          have l2:=lt_blk hS.b
          have l3:g<wr.heap.size:=Nat.lt_of_lt_of_le hg hS.below.size
          have l4:g'<wr.heap.size:=Nat.lt_of_lt_of_le hg' hS.below.size
          exact⟨hq l1 a11,hq l2 b11,hq l3 x0,hq l3 x1,hq l3 x2,hq l3 x3,hq l3 x4,hq l3 x5,hq l3 x6,hq l3 x7,hq l3 x8,hq l3 x9,hq l3 x10,hq l3 x11,hq l4 y0,hq l4 y1,hq l4 y2,hq l4 y3,hq l4 y4,hq l4 y5,hq l4 y6,hq l4 y7,hq l4 y8,hq l4 y9,hq l4 y10,hq l4 y11⟩
         clear hg hg' e1 e2
         go_wp2_with fail
         go_region_held3 (fun wx=>wx.cell? ⟨w1.heap.size,11,none⟩=some (.slice (some ⟨g,o,none⟩) m c)∧wx.cell? ⟨w1.heap.size+1,11,none⟩=some (.slice (some ⟨g',o',none⟩) m c')∧wx.cell? ⟨g,o+j*12,none⟩=some (.int .i64 k1)∧wx.cell? ⟨g,o+j*12+1,none⟩=some (.int .i64 n1)∧wx.cell? ⟨g,o+j*12+2,none⟩=some (.string s1)∧wx.cell? ⟨g,o+j*12+3,none⟩=some (.int .i64 ra.c)∧wx.cell? ⟨g,o+j*12+4,none⟩=some (.int .i64 ra.r)∧wx.cell? ⟨g,o+j*12+5,none⟩=some (.bool ra.fc)∧wx.cell? ⟨g,o+j*12+6,none⟩=some (.bool ra.fr)∧wx.cell? ⟨g,o+j*12+7,none⟩=some (.int .i64 rb.c)∧wx.cell? ⟨g,o+j*12+8,none⟩=some (.int .i64 rb.r)∧wx.cell? ⟨g,o+j*12+9,none⟩=some (.bool rb.fc)∧wx.cell? ⟨g,o+j*12+10,none⟩=some (.bool rb.fr)∧wx.cell? ⟨g,o+j*12+11,none⟩=some (.slice p1 m1 q1)∧wx.cell? ⟨g',o'+j*12,none⟩=some (.int .i64 k2)∧wx.cell? ⟨g',o'+j*12+1,none⟩=some (.int .i64 n2)∧wx.cell? ⟨g',o'+j*12+2,none⟩=some (.string s2)∧wx.cell? ⟨g',o'+j*12+3,none⟩=some (.int .i64 rc.c)∧wx.cell? ⟨g',o'+j*12+4,none⟩=some (.int .i64 rc.r)∧wx.cell? ⟨g',o'+j*12+5,none⟩=some (.bool rc.fc)∧wx.cell? ⟨g',o'+j*12+6,none⟩=some (.bool rc.fr)∧wx.cell? ⟨g',o'+j*12+7,none⟩=some (.int .i64 rd.c)∧wx.cell? ⟨g',o'+j*12+8,none⟩=some (.int .i64 rd.r)∧wx.cell? ⟨g',o'+j*12+9,none⟩=some (.bool rd.fc)∧wx.cell? ⟨g',o'+j*12+10,none⟩=some (.bool rd.fr)∧wx.cell? ⟨g',o'+j*12+11,none⟩=some (.slice p2 m2 q2)) (first | exact⟨a11,b11,x0,x1,x2,x3,x4,x5,x6,x7,x8,x9,x10,x11,y0,y1,y2,y3,y4,y5,y6,y7,y8,y9,y10,y11⟩ | exact KK.out _ hb3) ((go_at_call 51;refine (HC.out _ ?_).mono ?_;(exact hS.below.drew);rintro e w3 ⟨hso,hb3⟩;obtain⟨bq,rfl,hbq0⟩:=hso.bool;have hbq:Hid (bq=true↔T1=T2):=hbq0;clear hso hbq0))
         all_goals
          clear a11 b11 x0 x1 x2 x3 x4 x5 x6 x7 x8 x9 x10 x11 y0 y1 y2 y3 y4 y5 y6 y7 y8 y9 y10 y11 KK HC
          cases bq with
          | true =>
           have HT:Hid (T1=T2):=hbq.out.1 rfl
           clear hbq
           go_wp2_with fail
           exact⟨⟨j+1,by simp,hlt,by unfold Hid;rw [List.take_add_one,List.take_add_one,HTK.out,HT12.out.1,HT12.out.2,HT.out],hS.drew.next hb3⟩,by simp [intOf];omega⟩
          | false =>
           have HT:Hid (T1≠T2):=fun e=>by have:=hbq.out.2 e;cases this
           have HE:Hid (Below w1.heap.size w1 w3):=(hS.drew.next hb3).below1
           clear hbq hb3 hS
           go_wp2_with fail
           go_ret
           exact⟨.inr ⟨fun e=>by injection e with _ _ _ _ _ e;rw [e] at HT12;have:=HT12.out.1.symm.trans HT12.out.2;injection this with this;exact HT.out this,rfl⟩,HE.out⟩
        ·have hkn:j=m:=by omega
         subst hkn
         have HEq:Hid (ts=ts'):=by
          have:=HTK.out
          rw [List.take_of_length_le (by rw [← HL.out.2];exact Nat.le_refl _),List.take_of_length_le (by rw [← HL'.out.2];exact Nat.le_refl _)] at this
          exact this
         go_wp2_with fail
         go_ret
         exact⟨.inl ⟨by rw [HEq.out],rfl⟩,hS.below1⟩
      ·have hmi:¬ (m:Int)=(m':Int):=by omega
       have HD:Hid (ts≠ts'):=fun e=>hmm (by rw [HM.out.1,HM.out.2,e])
       clear hS0
       go_enter Tryz.func51,Tryz.ntmps51
       go_wp2_with fail
       go_ret
       exact⟨.inr ⟨fun e=>by injection e with _ _ _ _ _ e;exact HD.out e,rfl⟩,HBe.out⟩
     | false =>
      have HD:Hid (t≠t'):=fun e=>by rw [sameR_iff.2 e] at ht0;cases ht0
      clear hS0
      go_enter Tryz.func51,Tryz.ntmps51
      go_wp2_with fail
      go_ret
      exact⟨.inr ⟨fun e=>by injection e with _ _ _ _ e;exact HD.out e,rfl⟩,HBe.out⟩
    | false =>
     have HD:Hid (r≠r'):=fun e=>by rw [sameR_iff.2 e] at hr0;cases hr0
     clear hS0
     go_enter Tryz.func51,Tryz.ntmps51
     go_wp2_with fail
     go_ret
     exact⟨.inr ⟨fun e=>by injection e with _ _ _ e;exact HD.out e,rfl⟩,HBe.out⟩
   | false =>
    have hs1:(s'.toList == s.toList)=false:=by rw [beq_eq_false_iff_ne] at hs0 ⊢;exact fun e=>hs0 e.symm
    have HD:Hid (s≠s'):=fun e=>by rw [e] at hs0;simp at hs0
    clear hS0
    go_enter Tryz.func51,Tryz.ntmps51
    go_wp2_with fail
    go_ret
    exact⟨.inr ⟨fun e=>by injection e with _ _ e;exact HD.out e,rfl⟩,HBe.out⟩
  ·have HD:Hid (n≠n'):=hn0
   clear hS0
   go_enter Tryz.func51,Tryz.ntmps51
   go_wp2_with fail
   go_ret
   exact⟨.inr ⟨fun e=>by injection e with _ e;exact HD.out e,rfl⟩,HBe.out⟩
 ·have HD:Hid (k≠k'):=hk0
  clear hS0
  go_enter Tryz.func51,Tryz.ntmps51
  go_wp2_with fail
  go_ret
  exact⟨.inr ⟨fun e=>by injection e with e;exact HD.out e,rfl⟩,HBe.out⟩
end Go.Proofs.YtgifkepklnhddaaGreatDoor.fm
namespace Go.Proofs.YtgifkepklnhddaaGreatDoor.dg
open Go.RowKit
def hiN (f:Nat→Nat) (n:Nat):Nat→Nat
 | 0=>0
 | j+1=>hiN f n j*W32+f (n - 1 - j)
theorem hiN_val (f:Nat→Nat) (n:Nat):∀ j,j≤n→hiN f n j*W32 ^ (n - j)+valN (n - j) f=valN n f
 | 0,_=>by simp [hiN]
 | j+1,h=>by
  have ih:=hiN_val f n j (by omega)
  obtain⟨m,hm⟩:∃ m,n - j=m+1:=⟨n - j - 1,by omega⟩
  have e1:n - (j+1)=m:=by omega
  have e2:n - 1 - j=m:=by omega
  rw [hm] at ih
  rw [e1,← ih]
  simp only [hiN,e2,valN,Nat.pow_succ,Nat.add_mul]
  have:hiN f n j*W32*W32 ^ m=hiN f n j*(W32 ^ m*W32):=by rw [Nat.mul_assoc,Nat.mul_comm W32]
  omega
theorem hiN_all (f:Nat→Nat) (n:Nat):hiN f n n=valN n f:=by
 have:=hiN_val f n n (Nat.le_refl _)
 simpa [valN] using this
theorem ten_step (H c:Nat) (hc:c<4294967296):(H*4294967296+c) / 10=(H / 10)*4294967296+((H % 10)*4294967296+c) / 10∧(H*4294967296+c) % 10=((H % 10)*4294967296+c) % 10∧((H % 10)*4294967296+c) / 10<4294967296∧(H % 10)*4294967296+c<18446744073709551616:=by
 omega
theorem or_form2 (a b:Nat) (ha:a<4294967296):b*4294967296 ||| a=b*4294967296+a:=by
 rw [Nat.or_comm,or_form _ _ ha];omega
theorem ten_q (X:Nat) (h:X<18446744073709551616) (h2:X / 10<4294967296):IntKind.u64.wrap ((X:Int).tdiv 10) % 4294967296=((X / 10:Nat):Int):=by
 rw [Int.tdiv_eq_ediv_of_nonneg (by omega)]
 rw [IntWalk.u64_in _ ⟨by omega,by omega⟩]
 omega
theorem or_ten (r c:Nat) (hr:r<10) (hc:c<4294967296):Go.bits BinOp.or IntKind.u64 ((r:Int)*4294967296) (c:Int)=((r*4294967296+c:Nat):Int):=by
 rw [show ((r:Int)*4294967296)=((r*4294967296:Nat):Int) by simp,u64_or_nat _ _ (by omega) (by omega),or_form2 _ _ hc]
theorem ten_r (X:Nat):(X:Int).tmod 10=((X % 10:Nat):Int):=by
 rw [Int.tmod_eq_emod_of_nonneg (by omega)]
 omega
structure Tens (f F:Nat→Nat) (n j:Nat):Prop where
 val:valN n F=(hiN f n j / 10)*W32 ^ (n - j)
 low:∀ i,i<n - j→F i=0
 word:∀ i,F i<W32
theorem Tens.start (f:Nat→Nat) (n:Nat):Tens f (fun _=>0) n 0 :=
 ⟨by have:=valN_pad (f:=fun _=>0) 0 n (fun _ _ _=>rfl);simpa [hiN,valN] using this,fun _ _=>rfl,fun _=>by decide⟩
theorem Tens.step {f F:Nat→Nat} {n j:Nat} (h:Tens f F n j) (hj:j<n) (hf:f (n - 1 - j)<W32) :
  Tens f (upd F (n - 1 - j) (((hiN f n j % 10)*4294967296+f (n - 1 - j)) / 10)) n (j+1):=by
 obtain⟨e1,_,e3,_⟩:=ten_step (hiN f n j) (f (n - 1 - j)) hf
 obtain⟨m,hm⟩:∃ m,n - j=m+1:=⟨n - j - 1,by omega⟩
 have e4:n - 1 - j=m:=by omega
 have e5:n - (j+1)=m:=by omega
 have hv:=h.val
 rw [hm] at hv
 rw [e4] at e1 e3 hf
 refine⟨?_,?_,?_⟩
 ·have hu:=valN_upd F m (((hiN f n j % 10)*4294967296+f m) / 10) n (by omega)
  rw [h.low m (by omega),Nat.zero_mul,Nat.add_zero] at hu
  rw [e4,e5,hu,hv]
  have e6:hiN f n (j+1)=hiN f n j*4294967296+f m:=by simp only [hiN,e4,W32]
  rw [e6,e1,Nat.add_mul,Nat.pow_succ]
  have:(hiN f n j / 10)*(W32 ^ m*W32)=hiN f n j / 10*4294967296*W32 ^ m:=by rw [Nat.mul_comm (W32 ^ m),← Nat.mul_assoc];rfl
  omega
 ·intro i hi
  rw [e5] at hi
  rw [e4,upd_off (by omega)]
  exact h.low i (by omega)
 ·intro i
  rw [e4]
  by_cases hi:i=m
  ·subst hi;rw [upd_at];exact e3
  ·rw [upd_off hi];exact h.word i
set_option maxRecDepth 100000 in
set_option maxHeartbeats 2000000 in
theorem small_some (b n cap:Nat) (f:Nat→Nat) (w:World) (h:RdS w b n cap f) :
  Calls Tryz.prog 199 #[.slice (some ⟨b,0,none⟩) n cap,.int .u32 10] w fun e w'=>(∃ v,e=.returned (.tuple #[v,.int .u32 (valN n f % 10:Nat)])∧Num w' v (valN n f / 10)∧∀ g,v.ownBlock=some g→w.heap.size≤g)∧Below w.heap.size w w':=by
 have hmk:=make_u32 n h.lim w
 have hr0:=Row.zeros w n
 have hlim:=h.lim
 go_enter Tryz.func199,Tryz.ntmps199
 go_upto_region 1 with fail
 go_cut [6] (fun s4 wx=>∃ br,s4=.slice (some ⟨br,0,none⟩) n n∧w.heap.size≤br∧Row wx br n (fun _=>0)∧Below w.heap.size w wx)
 case first =>
  go_wp2_with fail
  go_meet
  case rel=>exact⟨_,rfl,Nat.le_refl _,hr0,(Below.refl _ _).alloc (Nat.le_refl _) _⟩
 case rest =>
 obtain⟨br,rfl,hbr,hR,hB⟩:=hcut
 clear hmk hr0
 go_wp2_with fail
 go_loopw [7,8] (fun r i wr=>∃ (j:Nat) (G:Nat→Nat),j≤n∧i=.int .i64 ((n:Int) - 1 - j)∧r=.int .u64 (hiN f n j % 10:Nat)∧Row wr br n G∧Tens f G n j∧Below w.heap.size w wr) (fun _ i _=>(intOf i+1).toNat)
 case atStart=>exact⟨0,_,Nat.zero_le _,by simp,rfl,hR,Tens.start f n,hB⟩
 case round =>
  obtain⟨j,G,hj,rfl,rfl,hRk,hT,hBk⟩:=hrel
  have hrd:hiN f n j % 10<10:=Nat.mod_lt _ (by decide)
  by_cases hlt:j<n
  ·obtain⟨m,hm⟩:∃ m:Nat,n=m+1+j:=⟨n - 1 - j,by omega⟩
   have ei:((n:Int) - 1 - j)=(m:Int):=by omega
   have e4:n - 1 - j=m:=by omega
   have hfm:=h.word m (by omega)
   have hcm:=(h.below hBk h.lt).cell m (by omega)
   have hcr:=hRk.cell m (by omega)
   have hfr:=hRk.free m
   have hst:=hT.step hlt (by rw [e4];exact hfm)
   have hs:=hRk.set m (by omega) (((hiN f n j % 10)*4294967296+f m) / 10)
   obtain⟨e1,e2,e3,e5⟩:=ten_step (hiN f n j) (f m) hfm
   have HE:Hid (hiN f n (j+1) % 10=((hiN f n j % 10)*4294967296+f m) % 10):=show _=_ by simp only [hiN,e4,W32];exact e2
   have hb:Go.bits BinOp.or IntKind.u64 ((hiN f n j:Int) % 10*4294967296) (f m:Int)=((hiN f n j % 10*4294967296+f m:Nat):Int):=by
    exact or_ten (hiN f n j % 10) (f m) hrd hfm
   have HB:Hid (Go.bits BinOp.or IntKind.u64 ((hiN f n j:Int) % 10*4294967296) (f m:Int)=((hiN f n j % 10*4294967296+f m:Nat):Int)):=hb
   have hm':m<n:=by omega
   have HM:Hid (n=m+1+j):=hm
   rw [e4] at hst
   clear hm hb e1 e2 e4
   rw [ei]
   go_wp2
   rw [HB.out,ten_q _ e5 e3,ten_r]
   exact⟨⟨j+1,_,hlt,by rw [HM.out];simp;omega,by rw [HE.out],hs,hst,hBk.setCell hbr _⟩,by simp [intOf]⟩
  ·have hjn:j=n:=by omega
   subst hjn
   have ei:((j:Int) - 1 - j)=-1:=by omega
   have hvl:valN j G=valN j f / 10:=by rw [hT.val,hiN_all];simp
   have hrd2:RdS wr br j j G:=⟨Nat.le_refl _,hlim,by omega,hRk.lt,hRk.cell,fun i _=>hT.word i⟩
   rw [ei,hiN_all] at *
   go_wp2_with fail
   refine (trim_some _ _ _ _ _ hrd2).mono ?_
   rintro e w2 ⟨rfl,rfl⟩
   go_wp2_with fail
   exact bodyPost_ret (v:=.tuple #[.slice (some ⟨br,0,none⟩) (trimN j G) j,.int .u32 (valN j f % 10:Nat)]) (by simp [results,Tryz.results199,go_sem]) rfl ⟨⟨_,rfl,num_trim (Or.inr ⟨_,_,rfl,hrd2.cut (trimN_le _ _)⟩) hvl,fun g hg=>by simp [Value.ownBlock] at hg;omega⟩,hBk⟩
end Go.Proofs.YtgifkepklnhddaaGreatDoor.dg
namespace Go.Proofs.YtgifkepklnhddaaGreatDoor.dg
open Go.Lib
def dig (c:UInt8):Bool:=decide (48≤c.toNat) && decide (c.toNat≤57)
def dv (l:List UInt8):Nat:=l.foldl (fun a c=>a*10+(c.toNat - 48)) 0
theorem dv_snoc (l:List UInt8) (c:UInt8):dv (l++[c])=dv l*10+(c.toNat - 48):=by simp [dv]
theorem dv_nil:dv []=0:=rfl
theorem rev_ind {P:List UInt8→Prop} (h0:P []) (h1:∀ l c,P l→P (l++[c])) (l:List UInt8):P l:=by
 have:∀ r:List UInt8,P r.reverse:=by
  intro r
  induction r with
  | nil=>exact h0
  | cons c r ih=>rw [List.reverse_cons];exact h1 _ _ ih
 have h:=this l.reverse
 rwa [List.reverse_reverse] at h
theorem dv_lt (l:List UInt8):l.all dig=true→dv l<10 ^ l.length:=by
 refine rev_ind (P:=fun l=>l.all dig=true→dv l<10 ^ l.length) ?_ ?_ l
 ·intro _;decide
 ·intro l c ih h
  rw [List.all_append,Bool.and_eq_true] at h
  have h1:=ih h.1
  have h2:48≤c.toNat∧c.toNat≤57:=by
   have:=h.2
   simp [dig] at this
   exact this
  rw [dv_snoc,List.length_append,List.length_singleton,Nat.pow_succ]
  omega
theorem small_of {x i:Nat} (hx:x<10 ^ i) (hi:i≤140737488355329):Small x:=by
 intro n f hN hv
 match n,hN,hv with
 | 0,_,_=>omega
 | n+1,hN,hv =>
  have h1:W32 ^ n≤valN (n+1) f:=valN_ge (hN n rfl)
  have h2:(10 ^ 9) ^ n≤W32 ^ n:=Nat.pow_le_pow_left (by decide) n
  rw [← Nat.pow_mul] at h2
  have h3:10 ^ (9*n)<10 ^ i:=by omega
  have h4:=(Nat.pow_lt_pow_iff_right (by decide:1<10)).1 h3
  omega
def canon (l:List UInt8):Prop:=l.all dig=true∧l≠[]∧(l.head?=some 48→l=[48])
theorem dv_pos (l:List UInt8):canon l→l≠[48]→0<dv l:=by
 refine rev_ind (P:=fun l=>canon l→l≠[48]→0<dv l) ?_ ?_ l
 ·rintro⟨_,h,_⟩;exact absurd rfl h
 ·intro l c ih ⟨h1,h2,h3⟩ h4
  rw [List.all_append,Bool.and_eq_true] at h1
  have hc:48≤c.toNat∧c.toNat≤57:=by
   have:=h1.2
   simp [dig] at this
   exact this
  rw [dv_snoc]
  by_cases hl:l=[]
  ·subst hl
   have:c≠48:=by
    rintro rfl
    exact h4 rfl
   have hne:c.toNat≠48:=by
    intro e
    apply this
    exact UInt8.toNat_inj.1 (by rw [e];rfl)
   simp [dv]
   omega
  ·have hh:l.head?≠some 48:=by
    intro e
    have:=h3 (by rw [List.head?_append,e];rfl)
    have hlen:=congrArg List.length this
    simp at hlen
    exact hl hlen
   have:=ih ⟨h1.1,hl,fun e=>absurd e hh⟩ (by intro e;rw [e] at hh;exact hh rfl)
   omega
theorem dec_dv (l:List UInt8):canon l→decDigits (dv l)=l:=by
 refine rev_ind (P:=fun l=>canon l→decDigits (dv l)=l) ?_ ?_ l
 ·rintro⟨_,h,_⟩;exact absurd rfl h
 ·intro l c ih ⟨h1,h2,h3⟩
  rw [List.all_append,Bool.and_eq_true] at h1
  have hc:48≤c.toNat∧c.toNat≤57:=by
   have:=h1.2
   simp [dig] at this
   exact this
  have hb:UInt8.ofNat (48+(c.toNat - 48))=c:=by
   rw [show 48+(c.toNat - 48)=c.toNat from by omega]
   exact UInt8.ofNat_toNat
  rw [dv_snoc]
  by_cases hl:l=[]
  ·subst hl
   rw [dv_nil,Nat.zero_mul,Nat.zero_add,decDigits_one (by omega),hb]
   rfl
  ·have hh:l.head?≠some 48:=by
    intro e
    have:=h3 (by rw [List.head?_append,e];rfl)
    have hlen:=congrArg List.length this
    simp at hlen
    exact hl hlen
   have hcn:canon l:=⟨h1.1,hl,fun e=>absurd e hh⟩
   have hp:=dv_pos l hcn (by intro e;rw [e] at hh;exact hh rfl)
   rw [decDigits,dif_neg (by omega),show (dv l*10+(c.toNat - 48)) / 10=dv l from by omega,show (dv l*10+(c.toNat - 48)) % 10=c.toNat - 48 from by omega,ih hcn,hb]
theorem dv_dec (u:Nat):dv (decDigits u)=u∧canon (decDigits u):=by
 induction u using Nat.strongRecOn with
 | _ u ih =>
  by_cases c:u<10
  ·rw [decDigits_one c]
   refine⟨by simp [dv];omega,?_,by simp,?_⟩
   ·simp [dig];omega
   ·intro e
    rw [List.head?_cons] at e
    injection e with e
    rw [e]
  ·obtain⟨h1,h2,h3,h4⟩:=ih (u / 10) (by omega)
   have e:decDigits u=decDigits (u / 10)++[UInt8.ofNat (48+u % 10)]:=by rw [decDigits,dif_neg c]
   have hd:u % 10<10:=by omega
   rw [e]
   refine⟨by rw [dv_snoc,h1,digit_nat hd];omega,?_,by simp,?_⟩
   ·rw [List.all_append,h2];simp [dig];omega
   ·intro q
    rw [List.head?_append] at q
    have:(decDigits (u / 10)).head?=some 48:=by
     cases hh:(decDigits (u / 10)).head? with
     | none=>rw [List.head?_eq_none_iff] at hh;exact absurd hh h3
     | some a=>rw [hh] at q;exact q
    have h5:=h4 this
    rw [h5] at h1
    have:u / 10=0:=by rw [← h1];rfl
    omega
end Go.Proofs.YtgifkepklnhddaaGreatDoor.dg
namespace Go.Proofs.YtgifkepklnhddaaGreatDoor.dg
open Go.RowKit
theorem small_num (v:Value) (x:Nat) (w:World) (h:Num w v x) (hx:x≠0) :
  Calls Tryz.prog 199 #[v,.int .u32 10] w fun e w'=>(∃ v',e=.returned (.tuple #[v',.int .u32 (x % 10:Nat)])∧Num w' v' (x / 10)∧∀ g,v'.ownBlock=some g→w.heap.size≤g)∧Below w.heap.size w w':=by
 obtain⟨n,f,h1,h2,h3⟩:=h
 rcases h1 with ⟨rfl,rfl⟩ | ⟨b,cap,rfl,h1⟩
 ·exact absurd h3.symm hx
 ·have:=small_some b n cap f w h1
  rw [h3] at this
  exact this
def Said (x y:Nat) (L:List UInt8):Prop:=Lib.decDigits x=(if y=0 then [] else Lib.decDigits y)++L.reverse
theorem Said.step {x y:Nat} {L:List UInt8} (h:Said x y L) (hy:y≠0):Said x (y / 10) (L++[UInt8.ofNat (48+y % 10)]):=by
 unfold Said at *
 rw [h,if_neg hy,List.reverse_append]
 have:Lib.decDigits y=(if y / 10=0 then [] else Lib.decDigits (y / 10))++[UInt8.ofNat (48+y % 10)]:=by
  rw [Lib.decDigits]
  by_cases q:y<10
  ·rw [dif_pos q,if_pos (by omega),Nat.mod_eq_of_lt q];rfl
  ·rw [dif_neg q,if_neg (by omega)]
 rw [this]
 simp
theorem info5:(Tryz.prog.info? 5).map (fun i=>(i.zero,i.size,i.bytes))=some (some (.int .u8 0),1,1):=by kernel_rfl
def u8s (L:List UInt8):List Value:=L.map fun c=>.int .u8 (c.toNat:Int)
structure Rnd (w:World) (x y:Nat) (L:List UInt8) (vb va:Value) (wr:World):Prop where
 own:wr.ownsRow w.heap.size 5 1 vb L.length (u8s L)
 num:Num wr va y
 said:Said x y L
 len:10 ^ L.length*y≤x
 cnt:L.length≤20
 bel:Below w.heap.size w wr
set_option maxRecDepth 100000 in
set_option maxHeartbeats 2000000 in
theorem text_zero (bz:Nat) (A:Option Addr) (cap:Nat) (w:World) (h1:w.cell? ⟨bz,1,none⟩=some (.slice A 0 cap)) :
  Calls Tryz.prog 174 #[ptr bz,.int .i64 10] w fun e w'=>e=.returned (.string ⟨#[48]⟩)∧w'=w:=by
 go_enter Tryz.func174,Tryz.ntmps174
 go_wp2_with fail
 go_ret
 exact⟨rfl,rfl⟩
def lenOf:Value→Nat
 | .slice _ n _=>n
 | _=>0
theorem own_len {w:World} {base n:Nat} {v:Value} {xs:List Value} (h:w.ownsRow base 5 1 v n xs):lenOf v=n:=by
 obtain⟨_,⟨rfl,rfl⟩ | ⟨g,cap,cur,rfl,_⟩⟩:=h<;>rfl
theorem own_below {w w':World} {base n:Nat} {v:Value} {xs:List Value} (h:w.ownsRow base 5 1 v n xs) (hb:Below w.heap.size w w'):w'.ownsRow base 5 1 v n xs:=by
 obtain⟨h0,h | ⟨g,cap,cur,h1,h2,h3,h4⟩⟩:=h
 ·exact⟨h0,Or.inl h⟩
 ·refine⟨h0,Or.inr ⟨g,cap,cur,h1,h2,?_,h4⟩⟩
  have hg:g<w.heap.size:=by
   by_cases q:g<w.heap.size
   ·exact q
   ·rw [Array.getElem?_eq_none (by omega)] at h3;cases h3
  rw [hb.block g hg]
  exact h3
theorem few {x y:Nat} {k:Nat} (h:10 ^ k*y≤x) (hy:y≠0) (hx:x<18446744073709551616):k≤19:=by
 by_cases q:k≤19
 ·exact q
 ·have h1:10 ^ 20≤10 ^ k:=Nat.pow_le_pow_right (by decide) (by omega)
  have h2:10 ^ k*1≤10 ^ k*y:=Nat.mul_le_mul_left _ (by omega)
  have h3:(10:Nat) ^ 20=100000000000000000000:=by decide
  omega
theorem few_step {x y:Nat} {k:Nat} (h:10 ^ k*y≤x):10 ^ (k+1)*(y / 10)≤x:=by
 have:10 ^ (k+1)*(y / 10)=10 ^ k*(10*(y / 10)):=by rw [Nat.pow_succ,Nat.mul_assoc]
 have h2:10 ^ k*(10*(y / 10))≤10 ^ k*y:=Nat.mul_le_mul_left _ (by omega)
 omega
def sgn (neg:Bool):List UInt8:=if neg=true then [45] else []
theorem _root_.Go.Proofs.YtgifkepklnhddaaGreatDoor.Num.grown {w w':World} {v:Value} {x:Nat} {row:Option Nat} (h:Num w v x) (hg:w.grownBy w' row) (hne:∀ g,v.ownBlock=some g→some g≠row):Num w' v x:=by
 obtain⟨n,f,h1,h2,h3⟩:=h
 refine⟨n,f,?_,h2,h3⟩
 rcases h1 with h1 | ⟨b,cap,rfl,h1⟩
 ·exact Or.inl h1
 ·exact Or.inr ⟨b,cap,rfl,⟨h1.le,h1.lim,h1.capl,Nat.lt_of_lt_of_le h1.lt hg.size,fun i hi=>hg.cell (h1.cell i hi) (hne b rfl),h1.word⟩⟩
theorem u8s_snoc (L:List UInt8) (d:Nat) (hd:d<10):u8s (L++[UInt8.ofNat (48+d)])=u8s L++[.int .u8 (48+(d:Int))]:=by
 unfold u8s
 rw [List.map_append,List.map_cons,List.map_nil,digit_nat hd]
 simp
theorem lt_of_blk {w:World} {b:Nat} {o:Obj} (h:w.heap[b]?=some o):b<w.heap.size:=by
 rcases Nat.lt_or_ge b w.heap.size with h' | h'
 ·exact h'
 ·simp [Array.getElem?_eq_none h'] at h
theorem blk_set {w:World} {b o:Nat} {cs:Array Value} {u:Value} {t:TypeId} {f:Nat×Nat} (h:w.heap[b]?=some (.cells cs t f)):(w.setCell ⟨b,o,none⟩ u).heap[b]?=some (.cells (cs.setIfInBounds o u) t f):=by
 have hlt:=lt_of_blk h
 have h':w.heap[b]=.cells cs t f:=by simpa [Array.getElem?_eq_getElem hlt] using h
 show (w.heap.modify b _)[b]?=_
 rw [Array.getElem?_eq_getElem (by simpa using hlt),Array.getElem_modify_self,h']
 rfl
def rv (L:List UInt8) (k p:Nat):UInt8:=if p<k∨L.length - k≤p then L.getD (L.length - 1 - p) 0 else L.getD p 0
structure Turned (g cap:Nat) (L:List UInt8) (k:Nat) (w:World):Prop where
 blk:∃ cur:Array Value,w.heap[g]?=some (.cells cur 5 (0,0))∧∀ p,p<L.length→cur[p]?=some (.int .u8 ((rv L k p).toNat:Int))
theorem Turned.cell {g cap k:Nat} {L:List UInt8} {w:World} (h:Turned g cap L k w) (p:Nat) (hp:p<L.length):w.cell? ⟨g,p,none⟩=some (.int .u8 ((rv L k p).toNat:Int))∧w.frozen? ⟨g,p,none⟩=false:=by
 obtain⟨cur,h1,h2⟩:=h.blk
 have:=h2 p hp
 constructor
 ·simp [World.cell?,h1,this]
 ·simp [World.frozen?,h1]
theorem Turned.step {g cap k:Nat} {L:List UInt8} {w:World} (h:Turned g cap L k w) (hk:k<L.length - 1 - k) :
  Turned g cap L (k+1) ((w.setCell ⟨g,k,none⟩ (.int .u8 ((rv L k (L.length - 1 - k)).toNat:Int))).setCell ⟨g,L.length - 1 - k,none⟩ (.int .u8 ((rv L k k).toNat:Int))):=by
 obtain⟨cur,h1,h2⟩:=h.blk
 refine⟨⟨_,blk_set (blk_set h1),fun p hp=>?_⟩⟩
 have e1:rv L k (L.length - 1 - k)=L.getD (L.length - 1 - k) 0:=by unfold rv;rw [if_neg (by omega)]
 have e2:rv L k k=L.getD k 0:=by unfold rv;rw [if_neg (by omega)]
 have hsz:∀ q,q<L.length→q<cur.size:=fun q hq=>(Array.getElem?_eq_some_iff.1 (h2 q hq)).1
 rw [e1,e2]
 by_cases q1:L.length - 1 - k=p
 ·subst q1
  rw [Array.getElem?_setIfInBounds,if_pos rfl,if_pos (by simp;exact hsz _ (by omega))]
  have:rv L (k+1) (L.length - 1 - k)=L.getD k 0:=by
   unfold rv
   rw [if_pos (by omega),show L.length - 1 - (L.length - 1 - k)=k from by omega]
  rw [this]
 ·rw [Array.getElem?_setIfInBounds,if_neg q1]
  by_cases q2:k=p
  ·subst q2
   rw [Array.getElem?_setIfInBounds,if_pos rfl,if_pos (hsz _ hp)]
   have:rv L (k+1) k=L.getD (L.length - 1 - k) 0:=by unfold rv;rw [if_pos (by omega)]
   rw [this]
  ·rw [Array.getElem?_setIfInBounds,if_neg q2,h2 p hp]
   have:rv L (k+1) p=rv L k p:=by
    unfold rv
    by_cases q:p<k∨L.length - k≤p
    ·rw [if_pos q,if_pos (by omega)]
    ·rw [if_neg q,if_neg (by omega)]
   rw [this]
theorem Turned.done {g cap k:Nat} {L:List UInt8} {w:World} (h:Turned g cap L k w) (hk:¬ k<L.length - 1 - k) (hk2:2*k≤L.length) (j:Nat) (hj:j<L.reverse.length):w.cell? ((⟨g,0,none⟩:Addr).add j)=some (.int .u8 ((L.reverse[j]).toNat:Int)):=by
 have hj':j<L.length:=by simpa using hj
 have e:rv L k j=L.reverse[j]:=by
  rw [List.getElem_reverse]
  unfold rv
  have g0:∀ q (hq:q<L.length),L.getD q 0=L[q]:=fun q hq=>by rw [List.getD_eq_getElem?_getD,List.getElem?_eq_getElem hq];rfl
  by_cases q:j<k∨L.length - k≤j
  ·rw [if_pos q,g0 _ (by omega)]
  ·rw [if_neg q,g0 _ hj']
   congr 1
   omega
 have ha:(⟨g,0,none⟩:Addr).add j=⟨g,j,none⟩:=by cases j<;>simp [Addr.add]
 rw [ha,← e]
 exact (h.cell j hj').1
set_option maxRecDepth 100000 in
set_option maxHeartbeats 4000000 in
theorem text_pos (bz x:Nat) (neg:Bool) (w:World) (hz:BigInt w bz neg x) (hx:x≠0) (hx64:x<18446744073709551616) :
  Calls Tryz.prog 174 #[ptr bz,.int .i64 10] w fun e w'=>e=.returned (.string ⟨(sgn neg++Lib.decDigits x).toArray⟩)∧Below w.heap.size w w':=by
 obtain⟨v,hc1,hnum⟩:=hz.c1
 obtain⟨A,n,c,rfl,hn,hpos⟩:=hnum.shape
 have hn0:((n:Int) == 0)=false:=by have:=hpos.2 hx;simp;omega
 have hlt:=hz.lt
 go_enter Tryz.func174,Tryz.ntmps174
 go_wp2_with fail
 refine (twin_num _ x _ hnum).mono ?_
 rintro e w1 ⟨⟨va,rfl,hva⟩,b1⟩
 obtain⟨i0,hi,hz0,hz1,hz2⟩:=info_parts info5
 have hx0:=hz.c0
 clear hz hpos hn0 hn hc1 hnum
 go_wp2_with fail
 go_loopw [5,6,7] (fun vb va _ wr=>∃ y L,Rnd w x y L vb va wr) (fun vb _ _ _=>20 - lenOf vb)
 case atStart=>exact⟨x,[],World.ownsRow_nil _ _ _ _,hva,by simp [Said,hx],by simp,by simp,b1⟩
 case round =>
  obtain⟨y,L,hR⟩:=hrel
  by_cases hy:y=0
  ·subst hy
   obtain⟨A,n,c,rfl,hn,hpos⟩:=hR.num.shape
   have hn0:n=0:=by
    rcases Nat.eq_zero_or_pos n with q | q
    ·exact q
    ·exact absurd rfl (hpos.1 q)
   subst hn0
   have hsaid:Lib.decDigits x=L.reverse:=by have:=hR.said;unfold Said at this;rw [if_pos rfl,List.nil_append] at this;exact this
   have hLn:=hR.cnt
   have hLp:0<L.length:=by
    rcases Nat.eq_zero_or_pos L.length with q | q
    ·rw [List.length_eq_zero_iff.1 q] at hsaid
     exact absurd hsaid (by rw [List.reverse_nil];exact fun h=>by have:=dec_ne x;exact this h)
    ·exact q
   have hc0:wr.cell? ⟨bz,0,none⟩=some (.bool neg):=by rw [hR.bel.cell hlt];exact hx0
   have hown:=hR.own
   have hB:=hR.bel
   have hbs:=hB.size
   have HSd:Hid (Lib.decDigits x=L.reverse):=hsaid
   clear hpos hR hsaid
   go_upto_region 13 with fail
   go_cut [52] (fun s52 wx=>s52=.bool neg∧wr=wx)
   case first =>
    go_wp2_with fail
    go_meet
    case rel=>exact⟨rfl,rfl⟩
   case rest =>
   obtain⟨rfl,rfl⟩:=hcut
   clear hc0
   obtain⟨L2,hL2⟩:∃ L2,L2=L++sgn neg:=⟨_,rfl⟩
   have HL2:Hid (L2=L++sgn neg):=hL2
   have hL2n:L2.length≤21:=by rw [hL2,List.length_append];cases neg<;>simp [sgn]<;>omega
   have hL2p:0<L2.length:=by rw [hL2,List.length_append];omega
   clear hL2
   go_upto_if 52 with fail
   go_cut [5] (fun vb wx=>wx.ownsRow w.heap.size 5 1 vb L2.length (u8s L2)∧Below w.heap.size w wx)
   case first =>
    cases neg
    ·have e2:L2=L:=by rw [HL2.out];simp [sgn]
     subst e2
     go_wp2_with fail
     go_meet
     case rel=>exact⟨hown,hB⟩
    ·have e2:L2=L++[45]:=by rw [HL2.out];simp [sgn]
     subst e2
     clear hL2n hL2p HL2
     go_wp2_with (first | (at_builtin;refine wpList_append_own _ rfl _ _ 155 rfl w.heap.size 5 i0 (.int .u8 0) 1 1 Tryz.underlying155 hi hz0 hz1 hz2 rfl (by decide) _ _ _ rfl (hown.alloc _) ⟨wr.heap.size,0,none⟩ 1 1 [.int .u8 45] rfl rfl ?c1 ?c2 ?c3 ?c4 ?c5 ?_))
     case c1 =>
      intro j u hj
      match j,hj with
      | 0,hj=>simp at hj;subst hj;simp [Addr.add]
     case c2=>intro u hu;simp at hu;subst hu;rfl
     case c3=>unfold maxLen;omega
     case c4=>omega
     case c5=>simp;omega
     ·intro v' w3 hown' hgrow _
      have hb3:Below w.heap.size w w3:=(hB.alloc hbs _).grown hgrow (by simp;omega) (fun k hk=>by have:=hown.lt k hk;omega)
      have hown3:w3.ownsRow w.heap.size 5 1 v' (L++[45]).length (u8s (L++[45])):=by
       rw [List.length_append]
       unfold u8s at hown' ⊢
       rw [List.map_append]
       exact hown'
      clear hown'
      go_wp2_with fail
      go_meet
      case rel=>exact⟨hown3,hb3⟩
   case rest =>
   clear hown hB hbs hLn hLp
   obtain⟨hown,hB⟩:=hcut
   obtain⟨hl0,⟨_,hl1⟩ | ⟨g,cap,cur,rfl,hg,hblk,hcap,hcapm,hcs,htk⟩⟩:=hown
   ·omega
   have hT0:Turned g cap L2 0 wc:=by
    refine⟨⟨cur,hblk,fun p hp=>?_⟩⟩
    have h1:cur.toList[p]?=(u8s L2)[p]?:=by rw [← htk,Nat.mul_one,List.getElem?_take_of_lt hp]
    have h2:rv L2 0 p=L2.getD p 0:=by unfold rv;rw [if_neg (by omega)]
    rw [h2]
    have h3:cur[p]?=cur.toList[p]?:=by simp
    rw [h3,h1]
    unfold u8s
    rw [List.getElem?_map,List.getD_eq_getElem?_getD,List.getElem?_eq_getElem hp]
    rfl
   clear hl0 hblk hcs htk hcap hcapm
   go_wp2_with fail
   go_loopw [8,9] (fun i j wr=>∃ k:Nat,2*k≤L2.length∧i=.int .i64 k∧j=.int .i64 ((L2.length:Int) - 1 - k)∧Turned g cap L2 k wr∧Below w.heap.size w wr) (fun i _ _=>L2.length - (intOf i).toNat)
   case atStart=>exact⟨0,by omega,rfl,by simp,hT0,hB⟩
   case round =>
    clear hT0 hB
    obtain⟨k,hk,rfl,rfl,hT,hB⟩:=hrel
    by_cases hlk:k<L2.length - 1 - k
    ·obtain⟨j,hj⟩:∃ j,j=L2.length - 1 - k:=⟨_,rfl⟩
     have ej:((L2.length:Int) - 1 - k)=(j:Int):=by omega
     have c1:=(hT.cell k (by omega)).1
     have c2:=(hT.cell j (by omega)).1
     have f1:=(hT.cell k (by omega)).2
     have f2:=(hT.cell j (by omega)).2
     have hst:=hT.step hlk
     rw [← hj] at hst
     have HJ:Hid (j=L2.length - 1 - k):=hj
     have hkj:k<j:=by omega
     have hjl:j<L2.length:=by omega
     rw [ej]
     clear ej hj hT
     go_wp2_with fail
     exact⟨⟨k+1,by omega,rfl,by congr 1;have:=HJ.out;omega,hst,(hB.setCell hg _).setCell hg _⟩,by simp [intOf];omega⟩
    ·have hdone:=fun q hq=>hT.done hlk hk q hq
     have hcv:=run_convert_bytes_back (P:=Tryz.prog) wr 155 9 5 ⟨g,0,none⟩ cap L2.reverse Tryz.underlying155 Tryz.underlying5 Tryz.underlying9 hdone
     rw [List.length_reverse] at hcv
     have hge:¬ (k:Int)<(L2.length:Int) - 1 - k:=by omega
     clear hT hdone
     go_wp2_with fail
     go_ret
     refine⟨?_,hB⟩
     rw [HL2.out,List.reverse_append,HSd.out]
     cases neg<;>rfl
  ·obtain⟨A,n,c,rfl,hn,hpos⟩:=hR.num.shape
   have hn0:(0:Int)<n:=by have:=hpos.2 hy;omega
   have hL:=few hR.len hy hx64
   clear hpos
   go_wp2_with fail
   refine (small_num _ y _ hR.num hy).mono ?_
   rintro e w2 ⟨⟨va2,rfl,hva2,hfresh⟩,b2⟩
   have hown:=own_below hR.own b2
   have hr:(y:Int) % 10<10:=by omega
   have hr0:0≤(y:Int) % 10:=by omega
   have hd:y % 10<10:=Nat.mod_lt _ (by decide)
   have hdg:=digit_nat hd
   have hsz:=b2.size
   have hbs:=hR.bel.size
   go_wp2_with (first | (at_builtin;refine wpList_append_own _ rfl _ _ 155 rfl w.heap.size 5 i0 (.int .u8 0) 1 1 Tryz.underlying155 hi hz0 hz1 hz2 rfl (by decide) _ _ _ rfl (hown.alloc _) ⟨w2.heap.size,0,none⟩ 1 1 [.int .u8 (48+(y:Int) % 10)] rfl rfl ?c1 ?c2 ?c3 ?c4 ?c5 ?_))
   case c1 =>
    intro j u hj
    match j,hj with
    | 0,hj=>simp at hj;subst hj;simp [Addr.add]
   case c2=>intro u hu;simp at hu;subst hu;rfl
   case c3=>unfold maxLen;omega
   case c4=>omega
   case c5=>simp;omega
   ·intro v' w3 hown' hgrow _
    have hb3:Below w.heap.size w w3:=((hR.bel.trans (b2.mono hbs)).alloc (by omega) _).grown hgrow (by simp;omega) (fun k hk=>by have:=hown.lt k hk;omega)
    have hnum3:Num w3 va2 (y / 10):=(hva2.below ((Below.refl _ _).alloc (Nat.le_refl _) _)).grown hgrow (fun g hg q=>by
     have h1:=hfresh g hg
     have h2:=(hR.own.lt g q.symm).2
     omega)
    have hvl:=own_len hown'
    have hvl0:=own_len hR.own
    have HR3:Hid (Rnd w x (y / 10) (L++[UInt8.ofNat (48+y % 10)]) v' va2 w3):=⟨by rw [List.length_append,u8s_snoc L _ hd];simpa using hown',hnum3,hR.said.step hy,by rw [List.length_append];exact few_step hR.len,by rw [List.length_append];simp;omega,hb3⟩
    clear hR hown hown' hnum3 hva2 hgrow hfresh
    go_wp2_with fail
    exact⟨⟨_,_,HR3.out⟩,by rw [hvl,hvl0];omega⟩
end Go.Proofs.YtgifkepklnhddaaGreatDoor.dg
