import Derived.Test.YtgifkepklnhddaaGreatDoorQ7Fh
import Derived.Test.YtgifkepklnhddaaGreatDoorQ7Qe
import Derived.Test.YtgifkepklnhddaaGreatDoorQ7Pa
import Derived.Deep.CutBlock
import Derived.Test.YtgifkepklnhddaaGreatDoorQ7Jd
import Derived.Test.YtgifkepklnhddaaGreatDoorQ7Jb
import Derived.Laws.EntriesVeiled
import Derived.Test.YtgifkepklnhddaaGreatDoorQ7Jc
import Derived.Deep.RegionHeld3
namespace Go.Proofs.YtgifkepklnhddaaGreatDoor.fm
open Go.RowKit
structure CB (w:World) (cs:Array Value) (p q:Value) (wx:World):Prop where
 a:wx.heap[w.heap.size]?=some (.cells cs 57 (0,0))
 b:wx.heap[w.heap.size+1]?=some (.cells #[p,q] 108 (0,0))
 c:wx.heap[w.heap.size+1+1]?=some (.cells NZ 57 (0,0))
 below:Below w.heap.size w wx
theorem three (w:World) (A B C:Obj):(((w.alloc A).alloc B).alloc C).heap[w.heap.size]?=some A∧(((w.alloc A).alloc B).alloc C).heap[w.heap.size+1]?=some B∧(((w.alloc A).alloc B).alloc C).heap[w.heap.size+1+1]?=some C:=by
 refine⟨?_,?_,?_⟩
 ·rw [Below.heap_alloc _ _ _ (by simp;omega),Below.heap_alloc _ _ _ (by simp),adr.heap_at _ _ _ rfl]
 ·rw [Below.heap_alloc _ _ _ (by simp),adr.heap_at _ _ _ (by simp)]
 ·rw [adr.heap_at _ _ _ (by simp)]
theorem CB.start (w:World) (cs:Array Value) (p q:Value):CB w cs p q (((w.alloc (.cells cs 57)).alloc (.cells #[p,q] 108)).alloc (.cells NZ 57)):=by
 obtain⟨h1,h2,h3⟩:=three w (.cells cs 57) (.cells #[p,q] 108) (.cells NZ 57)
 exact⟨h1,h2,h3,(((Below.refl _ _).alloc (Nat.le_refl _) _).alloc (by simp) _).alloc (by simp;omega) _⟩
section
variable {w wx:World} {cs:Array Value} {p q:Value}
theorem CB.lt (h:CB w cs p q wx):w.heap.size+2<wx.heap.size:=by have:=lt_blk h.c;omega
theorem CB.keep {X:Nat→Prop} {wy:World} (h:CB w cs p q wx) (hk:Kp X wx wy) (hx:∀ n,X n→w.heap.size+3≤n):CB w cs p q wy :=
 ⟨hk.blk h.a (fun x=>by have:=hx _ x;omega),hk.blk h.b (fun x=>by have:=hx _ x;omega),hk.blk h.c (fun x=>by have:=hx _ x;omega),
  h.below.trans (hk.toBelow h.below.size (fun n hn x=>by have:=hx n x;omega))⟩
theorem CB.next {wy:World} (h:CB w cs p q wx) (hb:Below wx.heap.size wx wy):CB w cs p q wy :=
 h.keep (X:=fun _=>False) ⟨hb.os,hb.tape,hb.output,hb.size,fun i hi _=>hb.block i hi⟩ (fun _ x=>x.elim)
end
theorem cells2 {w:World} {b:Nat} {a0 a1:Value} {t:TypeId} (h:w.heap[b]?=some (.cells #[a0,a1] t (0,0))):w.cell? ⟨b,0,none⟩=some a0∧w.cell? ⟨b,1,none⟩=some a1:=by simp [World.cell?,h]
theorem CB.setRef {w wx:World} {k n:Int} {s:ByteArray} {r t:Rf} {v p q:Value} (h:CB w (N12 k n s r t v) p q wx) (z:Rf):CB w (N12 k n s z t v) p q ((((wx.setCell ⟨w.heap.size,3,none⟩ (.int .i64 z.c)).setCell ⟨w.heap.size,4,none⟩ (.int .i64 z.r)).setCell ⟨w.heap.size,5,none⟩ (.bool z.fc)).setCell ⟨w.heap.size,6,none⟩ (.bool z.fr)):=by
 have hk:Kp (·=w.heap.size) wx ((((wx.setCell ⟨w.heap.size,3,none⟩ (.int .i64 z.c)).setCell ⟨w.heap.size,4,none⟩ (.int .i64 z.r)).setCell ⟨w.heap.size,5,none⟩ (.bool z.fc)).setCell ⟨w.heap.size,6,none⟩ (.bool z.fr)):=((((Kp.refl (·=w.heap.size) wx).setCell (Or.inl rfl) _).setCell (Or.inl rfl) _).setCell (Or.inl rfl) _).setCell (Or.inl rfl) _
 refine⟨?_,hk.blk h.b (by omega),hk.blk h.c (by omega),h.below.trans (hk.toBelow h.below.size (fun n hn e=>by omega))⟩
 rw [blk_set (blk_set (blk_set (blk_set h.a)))]
 rfl
theorem CB.setBox {w wx:World} {k n:Int} {s:ByteArray} {r t:Rf} {v p q:Value} (h:CB w (N12 k n s r t v) p q wx) (z y:Rf):CB w (N12 k n s z y v) p q ((((((((wx.setCell ⟨w.heap.size,3,none⟩ (.int .i64 z.c)).setCell ⟨w.heap.size,4,none⟩ (.int .i64 z.r)).setCell ⟨w.heap.size,5,none⟩ (.bool z.fc)).setCell ⟨w.heap.size,6,none⟩ (.bool z.fr)).setCell ⟨w.heap.size,7,none⟩ (.int .i64 y.c)).setCell ⟨w.heap.size,8,none⟩ (.int .i64 y.r)).setCell ⟨w.heap.size,9,none⟩ (.bool y.fc)).setCell ⟨w.heap.size,10,none⟩ (.bool y.fr)):=by
 have h1:=h.setRef z
 have hk:Kp (·=w.heap.size) ((((wx.setCell ⟨w.heap.size,3,none⟩ (.int .i64 z.c)).setCell ⟨w.heap.size,4,none⟩ (.int .i64 z.r)).setCell ⟨w.heap.size,5,none⟩ (.bool z.fc)).setCell ⟨w.heap.size,6,none⟩ (.bool z.fr)) ((((((((wx.setCell ⟨w.heap.size,3,none⟩ (.int .i64 z.c)).setCell ⟨w.heap.size,4,none⟩ (.int .i64 z.r)).setCell ⟨w.heap.size,5,none⟩ (.bool z.fc)).setCell ⟨w.heap.size,6,none⟩ (.bool z.fr)).setCell ⟨w.heap.size,7,none⟩ (.int .i64 y.c)).setCell ⟨w.heap.size,8,none⟩ (.int .i64 y.r)).setCell ⟨w.heap.size,9,none⟩ (.bool y.fc)).setCell ⟨w.heap.size,10,none⟩ (.bool y.fr)):=((((Kp.refl (·=w.heap.size) _).setCell (Or.inl rfl) _).setCell (Or.inl rfl) _).setCell (Or.inl rfl) _).setCell (Or.inl rfl) _
 refine⟨?_,hk.blk h1.b (by omega),hk.blk h1.c (by omega),h1.below.trans (hk.toBelow h1.below.size (fun n hn e=>by omega))⟩
 rw [blk_set (blk_set (blk_set (blk_set h1.a)))]
 rfl
def stp (f:Rf→Rf×Bool) (k:Int) (r t:Rf):(Rf×Rf)×Bool:=if k=5 then (((f r).1,t),(f r).2) else if k=6 then (((f r).1,(f t).1),(f r).2 && (f t).2) else ((r,t),true)
theorem chgN_stp (f:Rf→Rf×Bool) (k n:Int) (s:ByteArray) (r t:Rf) (ts:List T):chgN (Cw f) k n s r t ts=if (stp f k r t).2=true then .nd k n s (stp f k r t).1.1 (stp f k r t).1.2 ts else badN:=by
 unfold chgN stp Cw
 by_cases h5:k=5
 ·simp only [h5,if_true]
  cases hf:(f r).2<;>simp [opt,hf]
 ·by_cases h6:k=6
  ·simp only [h6,if_true]
   cases hf:(f r).2<;>cases hg:(f t).2<;>simp [opt,both,hf,hg]
  ·simp [h5,h6]
end Go.Proofs.YtgifkepklnhddaaGreatDoor.fm
namespace Go.Proofs.YtgifkepklnhddaaGreatDoor.fm
open Go.RowKit
set_option maxRecDepth 100000 in
set_option maxHeartbeats 8000000 in
theorem changed_in (f:Rf→Rf×Bool) (P:Rf→Prop) (bl ba bm bf:Nat) (w0:World) (hr:∀ r,P r→∀ wx,Below w0.heap.size w0 wx→Calls Tryz.prog 93 #[RV r,ptr bl,ptr ba,ptr bm] wx fun e w'=>e=.returned (.tuple #[RV (f r).1,.bool (f r).2])∧Below wx.heap.size wx w') (hx:∀ a b,P a→P b→∀ wx,Below w0.heap.size w0 wx→Calls Tryz.prog 105 #[RV a,RV b,ptr bf] wx fun e w'=>e=.returned (.tuple #[RV (f a).1,RV (f b).1,.bool ((f a).2 && (f b).2)])∧Below wx.heap.size wx w') {Q:Nat→Prop} {v:Value} {t:T} (h:Nd w0 Q v t):Fits P t→Bd 200 t→∀ w,Below w0.heap.size w0 w →
  Calls Tryz.prog 60 #[v,.agg #[fv 93 #[ptr bl,ptr ba,ptr bm],fv 105 #[ptr bf]]] w fun e w'=>∃ v',e=.returned v'∧Nd w' (Own w w') v' (chg (Cw f) t)∧Below w.heap.size w w':=by
 induction h with
 | @mk k n s r t p m c us ts hk hl hs ih =>
 intro hF hB w hb0
 have hm:m=ts.length:=by rw [hk.1,hl]
 have hB1:ts.length≤200:=by cases hB with | mk h1 h2=>exact h1
 have hB2:∀ (i:Nat) u,ts[i]?=some u→Bd 200 u:=by cases hB with | mk h1 h2=>exact h2
 have HF5:Hid (k=5→P r):=by cases hF with | mk h1 h2 h3=>exact h1
 have HF6:Hid (k=6→P r∧P t):=by cases hF with | mk h1 h2 h3=>exact h2
 have hF3:∀ (i:Nat) u,ts[i]?=some u→Fits P u:=by cases hF with | mk h1 h2 h3=>exact h3
 have HR:Hid (∀ r,P r→∀ wx,Below w0.heap.size w0 wx→Calls Tryz.prog 93 #[RV r,ptr bl,ptr ba,ptr bm] wx fun e w'=>e=.returned (.tuple #[RV (f r).1,.bool (f r).2])∧Below wx.heap.size wx w'):=hr
 have HX:Hid (∀ a b,P a→P b→∀ wx,Below w0.heap.size w0 wx→Calls Tryz.prog 105 #[RV a,RV b,ptr bf] wx fun e w'=>e=.returned (.tuple #[RV (f a).1,RV (f b).1,.bool ((f a).2 && (f b).2)])∧Below wx.heap.size wx w'):=hx
 have HK:Hid (Kids w0 Q p m c us):=hk
 have HL:Hid (us.length=ts.length):=hl
 have HS:Hid (∀ (i:Nat) u t',us[i]?=some u→ts[i]?=some t'→Nd w0 Q u t'):=hs
 have HI:Hid (∀ (i:Nat) u t',us[i]?=some u→ts[i]?=some t'→Fits P t'→Bd 200 t'→∀ w,Below w0.heap.size w0 w→Calls Tryz.prog 60 #[u,.agg #[fv 93 #[ptr bl,ptr ba,ptr bm],fv 105 #[ptr bf]]] w fun e w'=>∃ v',e=.returned v'∧Nd w' (Own w w') v' (chg (Cw f) t')∧Below w.heap.size w w'):=ih
 have HB2:Hid (∀ (i:Nat) u,ts[i]?=some u→Bd 200 u):=hB2
 have HF3:Hid (∀ (i:Nat) u,ts[i]?=some u→Fits P u):=hF3
 have HM:Hid (m=ts.length):=hm
 have HB0:Hid (Below w0.heap.size w0 w):=hb0
 have hB3:m≤200:=by omega
 clear hr hx hk hl hs ih hF hB hm hB1 hB2 hF3 hb0
 have HE:Hid (chg (Cw f) (.nd k n s r t ts)=if (stp f k r t).2=true then .nd k n s (stp f k r t).1.1 (stp f k r t).1.2 (chgL (Cw f) ts) else badN):=by
  unfold Hid
  rw [chg_eq,chgN_stp]
 rw [HE.out]
 clear HE
 obtain⟨st,hst⟩:∃ st,stp f k r t=st:=⟨_,rfl⟩
 have HST:Hid (stp f k r t=st):=hst
 rw [hst]
 clear hst
 have hS:=CB.start w (N12 k n s r t (.slice p m c)) (fv 93 #[ptr bl,ptr ba,ptr bm]) (fv 105 #[ptr bf])
 obtain⟨⟨a0,a1,a2,a3,a4,a5,a6,a7,a8,a9,a10,a11⟩,af⟩:=cells12 hS.a
 go_enter Tryz.func60,Tryz.ntmps60
 go_upto_block 0 with fail
 generalize hw0:((w.alloc _).alloc _).alloc _=wa at *
 clear hw0
 go_cut [5] (fun s5 wx=>s5=.bool st.2∧CB w (N12 k n s st.1.1 st.1.2 (.slice p m c)) (fv 93 #[ptr bl,ptr ba,ptr bm]) (fv 105 #[ptr bf]) wx)
 case first =>
  obtain⟨b0,b1⟩:=cells2 hS.b
  by_cases h5:k=5
  ·have hP:=HF5.out h5
   have e:st=(((f r).1,t),(f r).2):=by rw [← HST.out];unfold stp;rw [if_pos h5]
   clear HST HF5 HF6 HI HS
   obtain⟨q,hq⟩:∃ q,f r=q:=⟨_,rfl⟩
   have HC:Hid (∀ wx,Below w0.heap.size w0 wx→Calls Tryz.prog 93 #[RV r,ptr bl,ptr ba,ptr bm] wx fun e w'=>e=.returned (.tuple #[RV q.1,.bool q.2])∧Below wx.heap.size wx w'):=by rw [← hq];exact HR.out r hP
   rw [hq] at e
   have HE:Hid (st=((q.1,t),q.2)):=e
   clear hq hP e
   subst h5
   go_wp2_with fail
   refine (HC.out _ (HB0.out.trans (hS.below.mono HB0.out.size))).mono ?_
   rintro e w1 ⟨rfl,hb1⟩
   have hS1:=hS.next hb1
   clear a0 a1 a2 a3 a4 a5 a6 a7 a8 a9 a10 a11 af b0 b1
   obtain⟨⟨a0,a1,a2,a3,a4,a5,a6,a7,a8,a9,a10,a11⟩,af⟩:=cells12 hS1.a
   go_wp2_with fail
   go_meet
   case rel=>rw [HE.out];exact⟨rfl,hS1.setRef q.1⟩
  ·by_cases h6:k=6
   ·obtain⟨hP,hP2⟩:=HF6.out h6
    have e:st=(((f r).1,(f t).1),(f r).2 && (f t).2):=by rw [← HST.out];unfold stp;rw [if_neg h5,if_pos h6]
    clear HST HF5 HF6 HI HS
    obtain⟨q,hq⟩:∃ q,(f r).1=q:=⟨_,rfl⟩
    obtain⟨q2,hq2⟩:∃ q,(f t).1=q:=⟨_,rfl⟩
    obtain⟨x,hx⟩:∃ x,((f r).2 && (f t).2)=x:=⟨_,rfl⟩
    have HC:Hid (∀ wx,Below w0.heap.size w0 wx→Calls Tryz.prog 105 #[RV r,RV t,ptr bf] wx fun e w'=>e=.returned (.tuple #[RV q,RV q2,.bool x])∧Below wx.heap.size wx w'):=by rw [← hq,← hq2,← hx];exact HX.out r t hP hP2
    rw [hq,hq2,hx] at e
    have HE:Hid (st=((q,q2),x)):=e
    clear hq hq2 hx hP hP2 e h5
    subst h6
    go_wp2_with fail
    refine (HC.out _ (HB0.out.trans (hS.below.mono HB0.out.size))).mono ?_
    rintro e w1 ⟨rfl,hb1⟩
    have hS1:=hS.next hb1
    clear a0 a1 a2 a3 a4 a5 a6 a7 a8 a9 a10 a11 af b0 b1
    obtain⟨⟨a0,a1,a2,a3,a4,a5,a6,a7,a8,a9,a10,a11⟩,af⟩:=cells12 hS1.a
    go_wp2_with fail
    go_meet
    case rel=>rw [HE.out];exact⟨rfl,hS1.setBox q q2⟩
   ·have e:st=((r,t),true):=by rw [← HST.out];unfold stp;rw [if_neg h5,if_neg h6]
    have HE:Hid (st=((r,t),true)):=e
    clear HST HF5 HF6 HI HS e
    have g5:(k == 5)=false:=by simp [h5]
    have g6:(k == 6)=false:=by simp [h6]
    go_wp2_with fail
    go_meet
    case rel=>rw [HE.out];exact⟨rfl,hS⟩
 case rest =>
 clear hS a0 a1 a2 a3 a4 a5 a6 a7 a8 a9 a10 a11 af HST HF5 HF6 HR HX
 obtain⟨rfl,hS⟩:=hcut
 obtain⟨⟨r1,t1⟩,ok⟩:=st
 simp only at hS ⊢
 obtain⟨⟨a0,a1,a2,a3,a4,a5,a6,a7,a8,a9,a10,a11⟩,af⟩:=cells12 hS.a
 cases ok
 ·obtain⟨⟨z0,z1,z2,z3,z4,z5,z6,z7,z8,z9,z10,z11⟩,zf⟩:=cells12 hS.c
  have hc:=hS.c
  have HS1:Hid (CB w (N12 k n s r1 t1 (.slice p m c)) (fv 93 #[ptr bl,ptr ba,ptr bm]) (fv 105 #[ptr bf]) wc):=hS
  clear hS
  go_wp2_with fail
  refine fin12 hc (Q:=bodyPost _ _ _ _ _) ?_
  clear z0 z1 z2 z3 z4 z5 z6 z7 z8 z9 z10 z11 zf a0 a1 a2 a3 a4 a5 a6 a7 a8 a9 a10 a11 af hc
  intro w2 hq2 hk2
  obtain⟨⟨b0,b1,b2,b3,b4,b5,b6,b7,b8,b9,b10,b11⟩,bf'⟩:=cells12 hq2
  refine bodyPost_ret (v:=NV 4 3 nul .z .z (.slice none 0 0)) (by simp [results,Tryz.results60,go_sem,b0,b1,b2,b3,b4,b5,b6,b7,b8,b9,b10,b11]) rfl ⟨_,rfl,?_,?_⟩
  ·exact Nd.leaf
  ·exact HS1.out.below.trans (hk2.toBelow HS1.out.below.size (fun n hn e=>by omega))
 ·have HSC:Hid (∀ wx,Below wc.heap.size wc wx→CB w (N12 k n s r1 t1 (.slice p m c)) (fv 93 #[ptr bl,ptr ba,ptr bm]) (fv 105 #[ptr bf]) wx):=fun wx hb=>hS.next hb
  have hlt3:=hS.lt
  go_wp2_with fail
  clear hS a0 a1 a2 a3 a4 a5 a6 a7 a8 a9 a10 a11 af
  go_loopw [6,8,43] (fun sv _ i wr=>∃ (j:Nat) (us':List Value) (p6:Option Addr) (m6 c6:Nat),i=.int .i64 j∧sv=.slice p6 m6 c6∧j≤m∧us'.length=j∧GV wc wr (.slice p6 m6 c6) us' ((chgL (Cw f) ts).take j)∧Below wc.heap.size wc wr) (fun _ _ i _=>m - (intOf i).toNat)
  case atStart=>exact⟨0,[],none,0,0,rfl,rfl,Nat.zero_le _,rfl,.inl ⟨rfl,by simp,rfl⟩,Below.refl _ _⟩
  case round =>
   obtain⟨j,us',p6,m6,c6,rfl,rfl,hj,hlen,hG,hbw⟩:=hrel
   by_cases hlt:j<m
   ·obtain⟨g,o,u,tk,rfl,hg,hu,htk,hc⟩:=kid_at HK.out HL.out HS.out j hlt
    have hN:=HS.out j u tk hu htk
    have hSr:=HSC.out wr hbw
    have HC:Hid (∀ wx,Below w0.heap.size w0 wx→Calls Tryz.prog 60 #[u,.agg #[fv 93 #[ptr bl,ptr ba,ptr bm],fv 105 #[ptr bf]]] wx fun e w'=>∃ v',e=.returned v'∧Nd w' (Own wx w') v' (chg (Cw f) tk)∧Below wx.heap.size wx w'):=HI.out j u tk hu htk (HF3.out j tk htk) (HB2.out j tk htk)
    have HTK:Hid ((chgL (Cw f) ts).take (j+1)=(chgL (Cw f) ts).take j++[chg (Cw f) tk]):=by
     unfold Hid
     rw [List.take_add_one,chgL_at,htk]
     rfl
    have hbr:Below w0.heap.size w0 wr:=HB0.out.trans (hSr.below.mono HB0.out.size)
    have e1:∀ jj x,u.cells.toList[jj]?=some x→wr.cell? ⟨g,o+j*12+jj,none⟩=some x:=fun jj x hx=>by rw [hbr.cell (p:=⟨g,_,none⟩) hg];exact hc jj x hx
    obtain⟨tc,htc⟩:∃ tc,chg (Cw f) tk=tc:=⟨_,rfl⟩
    rw [htc] at HC HTK
    have HBR:Hid (Below w0.heap.size w0 wr):=hbr
    clear hc hu htk hbr htc HI HF3 HB2
    cases hN with
    | @mk k1 n1 s1 ra rb p1 m1 q1 us1 ts1 _ _ _ =>
    have hlt':(j:Int)<(m:Int):=by omega
    have hj':(0:Int)≤(j:Int):=by omega
    have x0:=e1 0 _ rfl
    have x1:=e1 1 _ rfl
    have x2:=e1 2 _ rfl
    have x3:=e1 3 _ rfl
    have x4:=e1 4 _ rfl
    have x5:=e1 5 _ rfl
    have x6:=e1 6 _ rfl
    have x7:=e1 7 _ rfl
    have x8:=e1 8 _ rfl
    have x9:=e1 9 _ rfl
    have x10:=e1 10 _ rfl
    have x11:=e1 11 _ rfl
    simp only [Nat.add_zero] at x0
    have hbk:Below wr.heap.size wr (wr.alloc (.cells (N12 k1 n1 s1 ra rb (.slice p1 m1 q1)) 57)):=(Below.refl _ _).alloc (Nat.le_refl _) _
    have hSk:=hSr.next hbk
    have hGk:=hG.below hbk
    obtain⟨b0,b1⟩:=cells2 hSk.b
    clear e1 hSr
    go_wp2_with fail
    refine (HC.out _ (HBR.out.trans (hbk.mono HBR.out.size))).mono ?_
    rintro e w3 ⟨v',rfl,hN3,hb3⟩
    have hG3:=hGk.below hb3
    cases hN3 with
    | @mk a2 n2 s2 r2 t2 p2 m2 e2 us2 ts2 hk' hl' hs' =>
    have hN3:=Nd.mk (k:=a2) (n:=n2) (s:=s2) (r:=r2) (t:=t2) hk' hl' hs'
    clear hk' hl' hs'
    have hba:Below w3.heap.size w3 (w3.alloc (.cells (N12 a2 n2 s2 r2 t2 (.slice p2 m2 e2)) 57)):=(Below.refl _ _).alloc (Nat.le_refl _) _
    have hG4:=hG3.below hba
    have hb5:=blk_new w3 (.cells (N12 a2 n2 s2 r2 t2 (.slice p2 m2 e2)) 57)
    have hN4:Nd (w3.alloc (.cells (N12 a2 n2 s2 r2 t2 (.slice p2 m2 e2)) 57)) (Own (wr.alloc (.cells (N12 k1 n1 s1 ra rb (.slice p1 m1 q1)) 57)) (w3.alloc (.cells (N12 a2 n2 s2 r2 t2 (.slice p2 m2 e2)) 57))) (NV a2 n2 s2 r2 t2 (.slice p2 m2 e2)) (.nd a2 n2 s2 r2 t2 ts2) :=
     hN3.mono (fun b hb=>hba.block b hb.2) (fun b hb=>⟨hb.1,Nat.lt_of_lt_of_le hb.2 hba.size⟩)
    obtain⟨sv',w5,hr,hG5,hk5⟩:=appV hGk hG4 hN4 (Nat.le_trans hbw.size hbk.size) (Nat.le_trans hb3.size hba.size) hb5 (by omega)
    have hbx:Below wc.heap.size wc w5:=((((hbw.trans (hbk.mono hbw.size)).trans (hb3.mono (Nat.le_trans hbw.size hbk.size))).trans (hba.mono (Nat.le_trans (Nat.le_trans hbw.size hbk.size) hb3.size))).trans (hk5.toBelow (Nat.le_trans (Nat.le_trans (Nat.le_trans hbw.size hbk.size) hb3.size) hba.size) (fun n hn e=>by omega)))
    obtain⟨p7,m7,c7,rfl⟩:=hG5.slice
    have HR5:Hid ((Builtin.append_ #[55,55] 55 #[.slice p6 m6 c6,.slice (some ⟨w3.heap.size,0,none⟩) 1 1]).run Tryz.prog (w3.alloc (.cells (N12 a2 n2 s2 r2 t2 (.slice p2 m2 e2)) 57))=.ok (.slice p7 m7 c7) w5):=hr
    have HG5:Hid (GV wc w5 (.slice p7 m7 c7) (us'++[NV a2 n2 s2 r2 t2 (.slice p2 m2 e2)]) ((chgL (Cw f) ts).take (j+1))):=by
     unfold Hid
     rw [HTK.out]
     exact hG5
    clear hr x0 x1 x2 x3 x4 x5 x6 x7 x8 x9 x10 x11 b0 b1 hG5 hk5 hN3 hN4 hG4 hb5 hba hG3 hGk hSk hbk hG hb3
    go_wp2_with (first | (at_builtin;refine wpList_append_eq rfl _ _ 55 rfl _ _ _ _ rfl rfl HR5.out ?_))
    exact⟨⟨j+1,us'++[NV a2 n2 s2 r2 t2 (.slice p2 m2 e2)],p7,m7,c7,by simp,rfl,hlt,by simp [hlen],HG5.out,hbx⟩,by simp [intOf];omega⟩
   ·have hjm:j=m:=by omega
    subst hjm
    have HG:Hid (GV wc wr (.slice p6 m6 c6) us' (chgL (Cw f) ts)):=by
     have h1:=hG
     rw [List.take_of_length_le (by rw [chgL_len,← HM.out];exact Nat.le_refl _)] at h1
     exact h1
    have hSr:=HSC.out wr hbw
    obtain⟨⟨a0,a1,a2,a3,a4,a5,a6,a7,a8,a9,a10,a11⟩,af⟩:=cells12 hSr.a
    obtain⟨⟨z0,z1,z2,z3,z4,z5,z6,z7,z8,z9,z10,z11⟩,zf⟩:=cells12 hSr.c
    have hks:=kpset wr w.heap.size 11 (.slice p6 m6 c6)
    have hc2:=hks.blk hSr.c (by omega)
    have HSR:Hid (CB w (N12 k n s r1 t1 (.slice p j c)) (fv 93 #[ptr bl,ptr ba,ptr bm]) (fv 105 #[ptr bf]) wr):=hSr
    clear hSr hG HI HF3 HB2 HS HK HL
    go_wp2_with fail
    refine fin12 hc2 (Q:=bodyPost _ _ _ _ _) ?_
    clear z0 z1 z2 z3 z4 z5 z6 z7 z8 z9 z10 z11 zf a0 a1 a2 a3 a4 a5 a6 a7 a8 a9 a10 a11 af hc2
    intro w2 hq2 hk2
    obtain⟨⟨b0,b1,b2,b3,b4,b5,b6,b7,b8,b9,b10,b11⟩,bf'⟩:=cells12 hq2
    have hbs:=hbw.size
    have hkk:∀ b,wc.heap.size≤b→b<wr.heap.size→w2.heap[b]?=wr.heap[b]?:=fun b h1 h2=>by
     rw [hk2.block b (by have:=hks.size;omega) (by omega),hks.block b h2 (by omega)]
    refine bodyPost_ret (v:=NV k n s r1 t1 (.slice p6 m6 c6)) (by simp [results,Tryz.results60,go_sem,b0,b1,b2,b3,b4,b5,b6,b7,b8,b9,b10,b11]) rfl ⟨_,rfl,?_,?_⟩
    ·refine (HG.out.node (w0:=wc) (Nat.le_refl _)).mono (fun b hb=>hkk b hb.1 hb.2) (fun b hb=>⟨by have:=hb.1;omega,Nat.lt_of_lt_of_le hb.2 (Nat.le_trans hks.size hk2.size)⟩)
    ·exact (HSR.out.below.trans (hks.toBelow HSR.out.below.size (fun n hn e=>by omega))).trans (hk2.toBelow (Nat.le_trans HSR.out.below.size hks.size) (fun n hn e=>by omega))
end Go.Proofs.YtgifkepklnhddaaGreatDoor.fm
namespace Go.Proofs.YtgifkepklnhddaaGreatDoor.fm
open Go.RowKit
end Go.Proofs.YtgifkepklnhddaaGreatDoor.fm
namespace Go.Proofs.YtgifkepklnhddaaGreatDoor.fm
open Go.RowKit
def ofF (row:Bool):Nat:=if row=true then 94 else 97
def caF (row:Bool):Nat:=if row=true then 95 else 98
def LN (w:World) (bl:Nat) (row:Bool):Prop:=w.cell? ⟨bl,1,none⟩=some (fv (ofF row) #[])∧w.cell? ⟨bl,2,none⟩=some (fv (caF row) #[])
theorem LN.on {B:Nat} {w w':World} {bl:Nat} {row:Bool} (h:LN w bl row) (hb:Below B w w') (hB:w.heap.size≤B):LN w' bl row:=⟨cell_on hb hB h.1,cell_on hb hB h.2⟩
theorem in_clo (row:Bool) (r:Rf) (at' many:Int) (bl ba bm:Nat) (w:World) (hk:isK r) (hm:0≤many∧many≤99) (hat:1≤at'∧at'≤99) (hl:LN w bl row) (h3:w.cell? ⟨ba,0,none⟩=some (.int .i64 at')) (h4:w.cell? ⟨bm,0,none⟩=some (.int .i64 many)) :
  Calls Tryz.prog 93 #[RV r,ptr bl,ptr ba,ptr bm] w fun e w'=>e=.returned (.tuple #[RV (inR row at' many r).1,.bool (inR row at' many r).2])∧Below w.heap.size w w':=by
 cases row with
 | true=>exact in_clo_true r at' many bl ba bm w hk hm hat hl.1 hl.2 h3 h4
 | false=>exact in_clo_false r at' many bl ba bm w hk hm hat hl.1 hl.2 h3 h4
theorem in_core (row:Bool) (at' many:Int) (bl ba bm bf:Nat) (w:World) (hm:0≤many∧many≤99) (hat:1≤at'∧at'≤99) (hl:LN w bl row) (h3:w.cell? ⟨ba,0,none⟩=some (.int .i64 at')) (h4:w.cell? ⟨bm,0,none⟩=some (.int .i64 many)) (h5:w.cell? ⟨bf,0,none⟩=some (fv 93 #[ptr bl,ptr ba,ptr bm]))
  {Q:Nat→Prop} {v:Value} {t:T} (hN:Nd w Q v t) (hF:Fits isK t) (hB:Bd 200 t) :
  Calls Tryz.prog 60 #[v,.agg #[fv 93 #[ptr bl,ptr ba,ptr bm],fv 105 #[ptr bf]]] w fun e w'=>∃ v',e=.returned v'∧Nd w' (Own w w') v' (chg (Cw (inR row at' many)) t)∧Below w.heap.size w w':=by
 have hR:∀ r,isK r→∀ wx,Below w.heap.size w wx→Calls Tryz.prog 93 #[RV r,ptr bl,ptr ba,ptr bm] wx fun e w'=>e=.returned (.tuple #[RV (inR row at' many r).1,.bool (inR row at' many r).2])∧Below wx.heap.size wx w':=fun r hk wx hb=>in_clo row r at' many bl ba bm wx hk hm hat (hl.on hb (Nat.le_refl _)) (cell_on hb (Nat.le_refl _) h3) (cell_on hb (Nat.le_refl _) h4)
 exact changed_in (inR row at' many) isK bl ba bm bf w hR (fun a b ha hb' wx hb=>in_box (inR row at' many) a b bf bl ba bm wx (cell_on hb (Nat.le_refl _) h5) (fun wy hy=>hR a ha wy (hb.trans (hy.mono hb.size))) (fun wy hy=>hR b hb' wy (hb.trans (hy.mono hb.size)))) hN hF hB w (Below.refl _ _)
end Go.Proofs.YtgifkepklnhddaaGreatDoor.fm
namespace Go.Proofs.YtgifkepklnhddaaGreatDoor.fm
open Go.RowKit
theorem nd_kd {w:World} {P:Nat→Prop} {V:Value} {T0:T} (h:Nd w P V T0) (k n:Int) (s:ByteArray) (r t:Rf) (v:Value) (hv:V=NV k n s r t v):T0.kd=k:=by
 cases h with
 | @mk k' n' s' r' t' p' m' c' us ts hk hl hs =>
  have e:(NV k' n' s' r' t' (.slice p' m' c')).cells.toList[0]?=(NV k n s r t v).cells.toList[0]?:=by rw [hv]
  have e2:(some (Value.int .i64 k'):Option Value)=some (.int .i64 k):=e
  injection e2 with e3
  injection e3
def Ckd (t:T):Prop:=∃ x dp,W ink t x dp∧t.kd≠6∧t.cnt≤200∧x.length+1≤200∧dp≤30
theorem check_yes (w:World) (hE:EnvW w) {P:Nat→Prop} (hP:∀ b,P b→b<w.heap.size) {k n:Int} {s:ByteArray} {r t:Rf} {p:Option Addr} {q c:Nat} {T0:T} (hN:Nd w P (NV k n s r t (.slice p q c)) T0) (hO:Ok T0) (h:Ckd T0) :
  Calls Tryz.prog 73 #[NV k n s r t (.slice p q c)] w fun e w'=>e=.returned .nilIface∧Below w.heap.size w w':=by
 obtain⟨x,dp,hw,h6,hc,hl,hd⟩:=h
 have hS:=OB.start (Below.refl w.heap.size w) (N12 k n s r t (.slice p q c))
 have hb0:=hS.below
 have HP:=print_ok (w.alloc (.cells (N12 k n s r t (.slice p q c)) 57)) (hE.next hb0) (P:=P) (fun b hb2=>Nat.lt_of_lt_of_le (hP b hb2) hb0.size) hw (hN.mono (fun b hb=>hb0.block b (hP b hb)) (fun _ h=>h)) hO (by rw [← nd_kd hN k n s r t _ rfl];exact h6) hc
 unfold prV at HP
 rw [if_pos ⟨hl,hd⟩] at HP
 obtain⟨Z0,hZ0⟩:∃ Z0:ByteArray,⟨(61::x).toArray⟩=Z0:=⟨_,rfl⟩
 rw [hZ0] at HP
 clear hZ0 hw h6 hc hl hd hN hO hP hE
 obtain⟨⟨a0,a1,a2,a3,a4,a5,a6,a7,a8,a9,a10,a11⟩,af⟩:=cells12 hS.a
 go_enter Tryz.func73,Tryz.ntmps73
 go_wp2_with fail
 refine HP.mono ?_
 rintro e w1 ⟨rfl,hb1⟩
 go_wp2_with fail
 go_ret
 exact⟨rfl,bnext hb0 hb1 hb0.size⟩
theorem cnt_chg {C:Chg} {t:T} (h:Ok t):(chg C t).cnt≤t.cnt:=by
 induction h with
 | @mk k n s r t ts hn hl hs ih =>
  have hl:cntL (chgL C ts)≤cntL ts:=by
   clear hs hl
   induction ts with
   | nil=>simp [chgL]
   | cons u us ih2 =>
    have h1:=ih 0 u rfl
    have h2:=ih2 (fun i v hv=>ih (i+1) v hv)
    simp only [chgL,cntL]
    omega
  rw [chg_eq,cnt_eq]
  unfold chgN
  split
  ·split
   ·rw [cnt_eq];simp [cntL]
   ·rw [cnt_eq];omega
  ·split
   ·split
    ·rw [cnt_eq];simp [cntL]
    ·rw [cnt_eq];omega
   ·rw [cnt_eq];omega
end Go.Proofs.YtgifkepklnhddaaGreatDoor.fm
namespace Go.Proofs.YtgifkepklnhddaaGreatDoor.fm
open Go.RowKit
def cntOf (row:Bool):Int:=if row=true then 99 else 26
abbrev l3 (row:Bool):Array Value:=#[.int .i64 (cntOf row),fv (ofF row) #[],fv (caF row) #[]]
theorem cells2f {w:World} {b:Nat} {a0 a1:Value} {t:TypeId} (h:w.heap[b]?=some (.cells #[a0,a1] t (0,0))):(w.cell? ⟨b,0,none⟩=some a0∧w.cell? ⟨b,1,none⟩=some a1)∧w.frozen? ⟨b,0,none⟩=false∧w.frozen? ⟨b,1,none⟩=false:=by simp [World.cell?,World.frozen?,h]
theorem ln_of {w:World} {b:Nat} {row:Bool} (h:w.heap[b]?=some (.cells (l3 row) 113 (0,0))):LN w b row:=⟨by rw [cell_blk h];rfl,by rw [cell_blk h];rfl⟩
theorem lines_any (row:Bool) (w:World):Calls Tryz.prog 62 #[.bool row] w fun e w'=>e=.returned (.agg (l3 row))∧Below w.heap.size w w':=by
 cases row with
 | true =>
  go_enter Tryz.func62,Tryz.ntmps62
  go_wp2_with fail
  exact bodyPost_ret (v:=.agg (l3 true)) (by simp [results,Tryz.results62,go_sem,l3,cntOf,ofF,caF]) rfl ⟨rfl,(Below.refl _ _).alloc (Nat.le_refl _) _⟩
 | false =>
  go_enter Tryz.func62,Tryz.ntmps62
  go_wp2_with fail
  exact bodyPost_ret (v:=.agg (l3 false)) (by simp [results,Tryz.results62,go_sem,l3,cntOf,ofF,caF]) rfl ⟨rfl,(Below.refl _ _).alloc (Nat.le_refl _) _⟩
theorem corner_any (K:Nat) (cs:Array Value) (w:World):Calls Tryz.prog 74 #[fv K cs] w fun e w'=>e=.returned (.agg #[fv K cs,fv 105 #[ptr w.heap.size]])∧w'.cell? ⟨w.heap.size,0,none⟩=some (fv K cs)∧Below w.heap.size w w':=by
 go_enter Tryz.func74,Tryz.ntmps74
 go_wp2_with fail
 exact bodyPost_ret (v:=.agg #[fv K cs,fv 105 #[ptr w.heap.size]]) (by simp [results,Tryz.results74,go_sem]) rfl ⟨rfl,by simp,((Below.refl _ _).alloc (Nat.le_refl _) _).alloc (by simp) _⟩
set_option maxRecDepth 100000 in
set_option maxHeartbeats 4000000 in
theorem ins_any (row:Bool) (at' many:Int) (w:World):Calls Tryz.prog 61 #[.agg (l3 row),.int .i64 at',.int .i64 many] w fun e w'=>∃ bf,e=.returned (.agg #[fv 93 #[ptr w.heap.size,ptr (w.heap.size+1),ptr (w.heap.size+1+1)],fv 105 #[ptr bf]]) ∧
   LN w' w.heap.size row∧w'.cell? ⟨w.heap.size+1,0,none⟩=some (.int .i64 at')∧w'.cell? ⟨w.heap.size+1+1,0,none⟩=some (.int .i64 many)∧w'.cell? ⟨bf,0,none⟩=some (fv 93 #[ptr w.heap.size,ptr (w.heap.size+1),ptr (w.heap.size+1+1)])∧Below w.heap.size w w':=by
 have hmf:∀ (fn:Fn) (first cap:Array Value) (w:World),(Instr.makeFunc fn first cap).run Tryz.prog w=.ok (.func fn first cap) w:=fun _ _ _ _=>rfl
 have HB:Hid ((((((w.alloc (.cells (l3 row) 113)).alloc (.cells #[.int .i64 at'] 3)).alloc (.cells #[.int .i64 many] 3)).alloc (.cells #[.nilFunc,.nilFunc] 108))).heap[w.heap.size]?=some (.cells (l3 row) 113 (0,0))∧(((((w.alloc (.cells (l3 row) 113)).alloc (.cells #[.int .i64 at'] 3)).alloc (.cells #[.int .i64 many] 3)).alloc (.cells #[.nilFunc,.nilFunc] 108))).heap[w.heap.size+1]?=some (.cells #[.int .i64 at'] 3 (0,0))∧(((((w.alloc (.cells (l3 row) 113)).alloc (.cells #[.int .i64 at'] 3)).alloc (.cells #[.int .i64 many] 3)).alloc (.cells #[.nilFunc,.nilFunc] 108))).heap[w.heap.size+1+1]?=some (.cells #[.int .i64 many] 3 (0,0))∧(((((w.alloc (.cells (l3 row) 113)).alloc (.cells #[.int .i64 at'] 3)).alloc (.cells #[.int .i64 many] 3)).alloc (.cells #[.nilFunc,.nilFunc] 108))).heap[w.heap.size+1+1+1]?=some (.cells #[.nilFunc,.nilFunc] 108 (0,0))):=by
  obtain⟨⟨h1,h2⟩,h3,h4⟩:=adr.four w (.cells (l3 row) 113) (.cells #[.int .i64 at'] 3) (.cells #[.int .i64 many] 3) (.cells #[.nilFunc,.nilFunc] 108)
  exact⟨h1,h2,h3,h4⟩
 have HB0:Hid (Below w.heap.size w ((((w.alloc (.cells (l3 row) 113)).alloc (.cells #[.int .i64 at'] 3)).alloc (.cells #[.int .i64 many] 3)).alloc (.cells #[.nilFunc,.nilFunc] 108))∧(((((w.alloc (.cells (l3 row) 113)).alloc (.cells #[.int .i64 at'] 3)).alloc (.cells #[.int .i64 many] 3)).alloc (.cells #[.nilFunc,.nilFunc] 108))).heap.size=w.heap.size+4):=⟨((((Below.refl _ _).alloc (Nat.le_refl _) _).alloc (by simp) _).alloc (by simp;omega) _).alloc (by simp;omega) _,by simp⟩
 go_enter Tryz.func61,Tryz.ntmps61
 go_wp2_with fail
 refine (corner_any 93 #[ptr w.heap.size,ptr (w.heap.size+1),ptr (w.heap.size+1+1)] ((((w.alloc (.cells (l3 row) 113)).alloc (.cells #[.int .i64 at'] 3)).alloc (.cells #[.int .i64 many] 3)).alloc (.cells #[.nilFunc,.nilFunc] 108))).mono ?_
 rintro e w1 ⟨rfl,hcf,hb1⟩
 have hB:=HB.out
 have hB0:=HB0.out
 obtain⟨bf,hbf⟩:∃ bf,(((((w.alloc (.cells (l3 row) 113)).alloc (.cells #[.int .i64 at'] 3)).alloc (.cells #[.int .i64 many] 3)).alloc (.cells #[.nilFunc,.nilFunc] 108))).heap.size=bf:=⟨_,rfl⟩
 rw [hbf] at hcf
 simp only [hbf]
 generalize hw0:((((w.alloc (.cells (l3 row) 113)).alloc (.cells #[.int .i64 at'] 3)).alloc (.cells #[.int .i64 many] 3)).alloc (.cells #[.nilFunc,.nilFunc] 108))=wa at *
 clear hw0 hmf HB HB0
 obtain⟨h1,h2,h3,h4⟩:=hB
 have g1:=(hb1.block _ (lt_blk h1)).trans h1
 have g2:=(hb1.block _ (lt_blk h2)).trans h2
 have g3:=(hb1.block _ (lt_blk h3)).trans h3
 have g4:=(hb1.block _ (lt_blk h4)).trans h4
 have⟨⟨r0,r1⟩,f0,f1⟩:=cells2f g4
 have hne:¬ bf=w.heap.size+1+1+1:=by omega
 have HB1:Hid (Below w.heap.size w w1):=bnext hB0.1 hb1 hB0.1.size
 have hk:∀ A B,Kp (·=w.heap.size+1+1+1) w1 ((w1.setCell ⟨w.heap.size+1+1+1,0,none⟩ A).setCell ⟨w.heap.size+1+1+1,1,none⟩ B):=fun A B=>((Kp.refl (·=w.heap.size+1+1+1) w1).setCell (Or.inl rfl) _).setCell (Or.inl rfl) _
 have HK:Hid _:=hk
 clear hk h1 h2 h3 h4 hb1 hB0
 go_wp2_with fail
 refine bodyPost_ret (v:=.agg #[fv 93 #[ptr w.heap.size,ptr (w.heap.size+1),ptr (w.heap.size+1+1)],fv 105 #[ptr bf]]) (by simp [results,Tryz.results61,go_sem,r0,r1]) rfl ⟨bf,rfl,?_⟩
 have hk:=HK.out (fv 93 #[ptr w.heap.size,ptr (w.heap.size+1),ptr (w.heap.size+1+1)]) (fv 105 #[ptr bf])
 refine⟨ln_of (hk.blk g1 (by omega)),by rw [cell_blk (hk.blk g2 (by omega))];rfl,by rw [cell_blk (hk.blk g3 (by omega))];rfl,?_,HB1.out.trans (hk.toBelow HB1.out.size (fun n hn e=>by omega))⟩
 rw [World.cell?_of_block (hk.block bf (lt_of_cell hcf) hne)]
 exact hcf
end Go.Proofs.YtgifkepklnhddaaGreatDoor.fm
namespace Go.Proofs.YtgifkepklnhddaaGreatDoor.fm
open Go.RowKit
theorem six (w:World) (A B C D E F:Obj):((((((w.alloc A).alloc B).alloc C).alloc D).alloc E).alloc F).heap[w.heap.size]?=some A∧((((((w.alloc A).alloc B).alloc C).alloc D).alloc E).alloc F).heap[w.heap.size+1]?=some B∧((((((w.alloc A).alloc B).alloc C).alloc D).alloc E).alloc F).heap[w.heap.size+1+1]?=some C∧((((((w.alloc A).alloc B).alloc C).alloc D).alloc E).alloc F).heap[w.heap.size+1+1+1+1]?=some E:=by
 obtain⟨⟨h1,h2⟩,h3,h4⟩:=adr.four w A B C D
 refine⟨?_,?_,?_,?_⟩
 ·rw [Below.heap_alloc _ _ _ (by simp<;>omega),Below.heap_alloc _ _ _ (by simp<;>omega)];exact h1
 ·rw [Below.heap_alloc _ _ _ (by simp<;>omega),Below.heap_alloc _ _ _ (by simp<;>omega)];exact h2
 ·rw [Below.heap_alloc _ _ _ (by simp<;>omega),Below.heap_alloc _ _ _ (by simp<;>omega)];exact h3
 ·rw [Below.heap_alloc _ _ _ (by simp),adr.heap_at _ _ _ (by simp)]
end Go.Proofs.YtgifkepklnhddaaGreatDoor.fm
namespace Go.Proofs.YtgifkepklnhddaaGreatDoor.fm
open Go.RowKit
def okL (row:Bool) (at' many:Int):Bool:=decide (1≤at') && decide (at'≤cntOf row) && decide (0≤many) && decide (many≤cntOf row)
theorem okL_no {row:Bool} {at' many:Int} (h:at'<1∨cntOf row<at'∨many<0∨cntOf row<many):okL row at' many=false:=by
 cases ho:okL row at' many with
 | false=>rfl
 | true =>
  unfold okL at ho
  simp at ho
  omega
set_option maxRecDepth 100000 in
theorem field113 (row:Bool) (W:World):(Instr.field 113 (.agg #[.int .i64 (cntOf row),fv (ofF row) #[],fv (caF row) #[]]) 0).run Tryz.prog W=.ok (.int .i64 (cntOf row)) W:=by
 cases row<;>rfl
set_option maxRecDepth 100000 in
set_option maxHeartbeats 4000000 in
theorem clines_any (row:Bool) (at' many:Int) (w:World):Calls Tryz.prog 54 #[.bool row,.int .i64 at',.int .i64 many] w fun e w'=>e=.returned (ps.errV (if okL row at' many=true then 0 else 1))∧Below w.heap.size w w':=by
 have HLn:Hid (Calls Tryz.prog 62 #[.bool row] w fun e w'=>e=.returned (.agg #[.int .i64 (cntOf row),fv (ofF row) #[],fv (caF row) #[]])∧Below w.heap.size w w'):=lines_any row w
 have hfd:=fun W=>field113 row W
 by_cases h1:at'<1
 ·have HO:Hid (okL row at' many=false):=okL_no (.inl h1)
  have h1':¬ 1≤at':=by omega
  rw [HO.out]
  simp only [Bool.false_eq_true,↓reduceIte]
  go_enter Tryz.func54,Tryz.ntmps54
  go_wp2_with fail
  refine HLn.out.mono ?_
  rintro e w1 ⟨rfl,hb1⟩
  go_wp2_with fail
  go_ret
  exact⟨rfl,hb1⟩
 ·have h1':1≤at':=by omega
  by_cases h2:cntOf row<at'
  ·have HO:Hid (okL row at' many=false):=okL_no (.inr (.inl h2))
   have h2':¬ at'≤cntOf row:=by omega
   rw [HO.out]
   simp only [Bool.false_eq_true,↓reduceIte]
   go_enter Tryz.func54,Tryz.ntmps54
   go_wp2_with fail
   refine HLn.out.mono ?_
   rintro e w1 ⟨rfl,hb1⟩
   go_wp2_with fail
   go_ret
   exact⟨rfl,hb1⟩
  ·have h2':at'≤cntOf row:=by omega
   by_cases h3:many<0
   ·have HO:Hid (okL row at' many=false):=okL_no (.inr (.inr (.inl h3)))
    have h3':¬ 0≤many:=by omega
    rw [HO.out]
    simp only [Bool.false_eq_true,↓reduceIte]
    go_enter Tryz.func54,Tryz.ntmps54
    go_wp2_with fail
    refine HLn.out.mono ?_
    rintro e w1 ⟨rfl,hb1⟩
    go_wp2_with fail
    go_ret
    exact⟨rfl,hb1⟩
   ·have h3':0≤many:=by omega
    by_cases h4:cntOf row<many
    ·have HO:Hid (okL row at' many=false):=okL_no (.inr (.inr (.inr h4)))
     have h4':¬ many≤cntOf row:=by omega
     rw [HO.out]
     simp only [Bool.false_eq_true,↓reduceIte]
     go_enter Tryz.func54,Tryz.ntmps54
     go_wp2_with fail
     refine HLn.out.mono ?_
     rintro e w1 ⟨rfl,hb1⟩
     go_wp2_with fail
     go_ret
     exact⟨rfl,hb1⟩
    ·have h4':many≤cntOf row:=by omega
     have HO:Hid (okL row at' many=true):=by unfold Hid okL;simp [h1',h2',h3',h4']
     rw [HO.out]
     simp only [↓reduceIte]
     go_enter Tryz.func54,Tryz.ntmps54
     go_wp2_with fail
     refine HLn.out.mono ?_
     rintro e w1 ⟨rfl,hb1⟩
     go_wp2_with fail
     go_ret
     exact⟨rfl,hb1⟩
set_option maxRecDepth 100000 in
set_option maxHeartbeats 4000000 in
theorem rspan_any (row:Bool) (at' many:Int) (w:World):Calls Tryz.prog 20 #[.bool row,.int .i64 at',.int .i64 many] w fun e w'=>e=.returned (.bool (okL row at' many))∧w'=w:=by
 cases row with
 | true =>
  have hc:cntOf true=99:=rfl
  by_cases h1:at'<1
  ·have HO:Hid (okL true at' many=false):=okL_no (.inl h1)
   have h1':¬ 1≤at':=by omega
   go_enter Tryz.func20,Tryz.ntmps20
   go_wp2_with fail
   go_ret
   exact⟨by rw [HO.out];rfl,rfl⟩
  ·have h1':1≤at':=by omega
   by_cases h2:99<at'
   ·have HO:Hid (okL true at' many=false):=okL_no (.inr (.inl (by rw [hc];exact h2)))
    have h2':¬ at'≤99:=by omega
    go_enter Tryz.func20,Tryz.ntmps20
    go_wp2_with fail
    go_ret
    exact⟨by rw [HO.out];rfl,rfl⟩
   ·have h2':at'≤99:=by omega
    by_cases h3:many<0
    ·have HO:Hid (okL true at' many=false):=okL_no (.inr (.inr (.inl h3)))
     have h3':¬ 0≤many:=by omega
     go_enter Tryz.func20,Tryz.ntmps20
     go_wp2_with fail
     go_ret
     exact⟨by rw [HO.out];rfl,rfl⟩
    ·have h3':0≤many:=by omega
     by_cases h4:99<many
     ·have HO:Hid (okL true at' many=false):=okL_no (.inr (.inr (.inr (by rw [hc];exact h4))))
      have h4':¬ many≤99:=by omega
      go_enter Tryz.func20,Tryz.ntmps20
      go_wp2_with fail
      go_ret
      exact⟨by rw [HO.out];rfl,rfl⟩
     ·have h4':many≤99:=by omega
      have HO:Hid (okL true at' many=true):=by unfold Hid okL;rw [hc];simp [h1',h2',h3',h4']
      go_enter Tryz.func20,Tryz.ntmps20
      go_wp2_with fail
      go_ret
      exact⟨by rw [HO.out];rfl,rfl⟩
 | false =>
  have hc:cntOf false=26:=rfl
  by_cases h1:at'<1
  ·have HO:Hid (okL false at' many=false):=okL_no (.inl h1)
   have h1':¬ 1≤at':=by omega
   go_enter Tryz.func20,Tryz.ntmps20
   go_wp2_with fail
   go_ret
   exact⟨by rw [HO.out];rfl,rfl⟩
  ·have h1':1≤at':=by omega
   by_cases h2:26<at'
   ·have HO:Hid (okL false at' many=false):=okL_no (.inr (.inl (by rw [hc];exact h2)))
    have h2':¬ at'≤26:=by omega
    go_enter Tryz.func20,Tryz.ntmps20
    go_wp2_with fail
    go_ret
    exact⟨by rw [HO.out];rfl,rfl⟩
   ·have h2':at'≤26:=by omega
    by_cases h3:many<0
    ·have HO:Hid (okL false at' many=false):=okL_no (.inr (.inr (.inl h3)))
     have h3':¬ 0≤many:=by omega
     go_enter Tryz.func20,Tryz.ntmps20
     go_wp2_with fail
     go_ret
     exact⟨by rw [HO.out];rfl,rfl⟩
    ·have h3':0≤many:=by omega
     by_cases h4:26<many
     ·have HO:Hid (okL false at' many=false):=okL_no (.inr (.inr (.inr (by rw [hc];exact h4))))
      have h4':¬ many≤26:=by omega
      go_enter Tryz.func20,Tryz.ntmps20
      go_wp2_with fail
      go_ret
      exact⟨by rw [HO.out];rfl,rfl⟩
     ·have h4':many≤26:=by omega
      have HO:Hid (okL false at' many=true):=by unfold Hid okL;rw [hc];simp [h1',h2',h3',h4']
      go_enter Tryz.func20,Tryz.ntmps20
      go_wp2_with fail
      go_ret
      exact⟨by rw [HO.out];rfl,rfl⟩
end Go.Proofs.YtgifkepklnhddaaGreatDoor.fm
namespace Go.Proofs.YtgifkepklnhddaaGreatDoor.fm
open Go.RowKit
set_option maxRecDepth 100000 in
set_option maxHeartbeats 4000000 in
theorem cwl_yes (row:Bool) (at' many:Int) (w:World) (hE:EnvW w) {P:Nat→Prop} (hP:∀ b,P b→b<w.heap.size) {k n:Int} {s:ByteArray} {r t:Rf} {p:Option Addr} {q c:Nat} {T0:T} (hN:Nd w P (NV k n s r t (.slice p q c)) T0) (hO:Ok T0) (h:Ckd T0) (hL:okL row at' many=true) :
  Calls Tryz.prog 59 #[NV k n s r t (.slice p q c),.bool row,.int .i64 at',.int .i64 many] w fun e w'=>e=.returned .nilIface∧Below w.heap.size w w':=by
 have hb0:Below w.heap.size w (w.alloc (.cells (N12 k n s r t (.slice p q c)) 57)):=(Below.refl _ _).alloc (Nat.le_refl _) _
 have hN0:=hN.mono (fun b h=>hb0.block b (hP b h)) (fun _ h=>h)
 have hA:=blk_new w (.cells (N12 k n s r t (.slice p q c)) 57)
 obtain⟨⟨a0,a1,a2,a3,a4,a5,a6,a7,a8,a9,a10,a11⟩,af⟩:=cells12 hA
 have HC:=check_yes (w.alloc (.cells (N12 k n s r t (.slice p q c)) 57)) (hE.next hb0) (P:=P) (fun b h=>Nat.lt_of_lt_of_le (hP b h) hb0.size) hN0 hO h
 have HK:Hid (∀ wx,Calls Tryz.prog 54 #[.bool row,.int .i64 at',.int .i64 many] wx fun e w'=>e=.returned .nilIface∧Below wx.heap.size wx w'):=fun wx=>(clines_any row at' many wx).mono (fun _ _ h=>by rw [hL] at h;exact h)
 have HB0:Hid (Below w.heap.size w (w.alloc (.cells (N12 k n s r t (.slice p q c)) 57))):=hb0
 clear hN hO hP hE h hN0 hA hL hb0
 go_enter Tryz.func59,Tryz.ntmps59
 go_wp2_with fail
 refine HC.mono ?_
 rintro e w1 ⟨rfl,hb1⟩
 go_wp2_with fail
 refine (HK.out _).mono ?_
 rintro e w2 ⟨rfl,hb2⟩
 have HB:Hid (Below w.heap.size w w2):=(HB0.out.trans (hb1.mono HB0.out.size)).trans (hb2.mono (Nat.le_trans HB0.out.size hb1.size))
 go_wp2_with fail
 go_ret
 exact⟨rfl,HB.out⟩
end Go.Proofs.YtgifkepklnhddaaGreatDoor.fm
namespace Go.Proofs.YtgifkepklnhddaaGreatDoor.fm
open Go.RowKit
theorem cell_set12 {w:World} {b d:Nat} (hne:b≠d) {u0 u1 u2 u3 u4 u5 u6 u7 u8 u9 u10 u11:Value} (o:Nat):((((((((((((w.setCell ⟨d,0,none⟩ u0).setCell ⟨d,1,none⟩ u1).setCell ⟨d,2,none⟩ u2).setCell ⟨d,3,none⟩ u3).setCell ⟨d,4,none⟩ u4).setCell ⟨d,5,none⟩ u5).setCell ⟨d,6,none⟩ u6).setCell ⟨d,7,none⟩ u7).setCell ⟨d,8,none⟩ u8).setCell ⟨d,9,none⟩ u9).setCell ⟨d,10,none⟩ u10).setCell ⟨d,11,none⟩ u11).cell? ⟨b,o,none⟩=w.cell? ⟨b,o,none⟩:=by
 refine World.cell?_of_block ?_
 rw [Below.heap_setCell _ _ _ _ hne,Below.heap_setCell _ _ _ _ hne,Below.heap_setCell _ _ _ _ hne,Below.heap_setCell _ _ _ _ hne,Below.heap_setCell _ _ _ _ hne,Below.heap_setCell _ _ _ _ hne,Below.heap_setCell _ _ _ _ hne,Below.heap_setCell _ _ _ _ hne,Below.heap_setCell _ _ _ _ hne,Below.heap_setCell _ _ _ _ hne,Below.heap_setCell _ _ _ _ hne,Below.heap_setCell _ _ _ _ hne]
abbrev OutNd (w:World) (t:T) (e:Ending) (w':World):Prop:=∃ (k n:Int) (s:ByteArray) (r u:Rf) (p:Option Addr) (m c:Nat),e=.returned (NV k n s r u (.slice p m c))∧Nd w' (Own w w') (NV k n s r u (.slice p m c)) t∧Below w.heap.size w w'
theorem outNd_of {w:World} {t:T} {e:Ending} {w':World} (h:∃ v',e=.returned v'∧Nd w' (Own w w') v' t∧Below w.heap.size w w'):OutNd w t e w':=by
 obtain⟨v',h1,h2,h3⟩:=h
 cases h2 with
 | mk hk hl hs=>exact⟨_,_,_,_,_,_,_,_,h1,.mk hk hl hs,h3⟩
theorem twoN (w:World) (A B:Obj):((w.alloc A).alloc B).heap[w.heap.size]?=some A∧((w.alloc A).alloc B).heap[w.heap.size+1]?=some B:=by
 refine⟨?_,?_⟩
 ·rw [Below.heap_alloc _ _ _ (by simp),adr.heap_at _ _ _ rfl]
 ·rw [adr.heap_at _ _ _ (by simp)]
set_option maxRecDepth 100000 in
set_option maxHeartbeats 8000000 in
theorem inserted_yes (row:Bool) (at' many:Int) (w:World) (hE:EnvW w) {P:Nat→Prop} (hP:∀ b,P b→b<w.heap.size) {k n:Int} {s:ByteArray} {r t:Rf} {p:Option Addr} {q c:Nat} {T0:T} (hN:Nd w P (NV k n s r t (.slice p q c)) T0) (hO:Ok T0) (h:Ckd T0) (hL:okL row at' many=true) (hF:Fits isK T0) (hB:Bd 200 T0) :
  Calls Tryz.prog 27 #[NV k n s r t (.slice p q c),.bool row,.int .i64 at',.int .i64 many] w fun e w'=>∃ (k2 n2:Int) (s2:ByteArray) (r2 t2:Rf) (p2:Option Addr) (m2 e2:Nat),e=.returned (.tuple #[NV k2 n2 s2 r2 t2 (.slice p2 m2 e2),.nilIface])∧Nd w' (Own w w') (NV k2 n2 s2 r2 t2 (.slice p2 m2 e2))  (chg (Cw (inR row at' many)) T0)∧Below w.heap.size w w':=by
 have hb0:Below w.heap.size w ((w.alloc (.cells (N12 k n s r t (.slice p q c)) 57)).alloc (.cells NZ 57)):=((Below.refl _ _).alloc (Nat.le_refl _) _).alloc (by simp) _
 obtain⟨hA,hD⟩:=twoN w (.cells (N12 k n s r t (.slice p q c)) 57) (.cells NZ 57)
 have hN0:=hN.mono (fun b h=>hb0.block b (hP b h)) (fun _ h=>h)
 have HA:Hid (∀ wx,Below (((w.alloc (.cells (N12 k n s r t (.slice p q c)) 57)).alloc (.cells NZ 57))).heap.size ((w.alloc (.cells (N12 k n s r t (.slice p q c)) 57)).alloc (.cells NZ 57)) wx→wx.cell? ⟨w.heap.size,0,none⟩=some (.int .i64 k)∧wx.cell? ⟨w.heap.size,1,none⟩=some (.int .i64 n)∧wx.cell? ⟨w.heap.size,2,none⟩=some (.string s)∧wx.cell? ⟨w.heap.size,3,none⟩=some (.int .i64 r.c)∧wx.cell? ⟨w.heap.size,4,none⟩=some (.int .i64 r.r)∧wx.cell? ⟨w.heap.size,5,none⟩=some (.bool r.fc)∧wx.cell? ⟨w.heap.size,6,none⟩=some (.bool r.fr)∧wx.cell? ⟨w.heap.size,7,none⟩=some (.int .i64 t.c)∧wx.cell? ⟨w.heap.size,8,none⟩=some (.int .i64 t.r)∧wx.cell? ⟨w.heap.size,9,none⟩=some (.bool t.fc)∧wx.cell? ⟨w.heap.size,10,none⟩=some (.bool t.fr)∧wx.cell? ⟨w.heap.size,11,none⟩=some (.slice p q c)):=fun wx hb=>by
  obtain⟨⟨a0,a1,a2,a3,a4,a5,a6,a7,a8,a9,a10,a11⟩,-⟩:=cells12 ((hb.block _ (lt_blk hA)).trans hA)
  exact⟨a0,a1,a2,a3,a4,a5,a6,a7,a8,a9,a10,a11⟩
 have HD:Hid (∀ wx,Below (((w.alloc (.cells (N12 k n s r t (.slice p q c)) 57)).alloc (.cells NZ 57))).heap.size ((w.alloc (.cells (N12 k n s r t (.slice p q c)) 57)).alloc (.cells NZ 57)) wx→wx.heap[w.heap.size+1]?=some (.cells NZ 57 (0,0))):=fun wx hb=>(hb.block _ (lt_blk hD)).trans hD
 have HLI:Hid (∀ wx,Calls Tryz.prog 62 #[.bool row] wx fun e w'=>e=.returned (.agg (l3 row))∧Below wx.heap.size wx w'):=fun wx=>lines_any row wx
 have HEN:Hid (∀ wx,Below (((w.alloc (.cells (N12 k n s r t (.slice p q c)) 57)).alloc (.cells NZ 57))).heap.size ((w.alloc (.cells (N12 k n s r t (.slice p q c)) 57)).alloc (.cells NZ 57)) wx→EnvW wx∧Nd wx P (NV k n s r t (.slice p q c)) T0∧∀ b,P b→b<wx.heap.size):=fun wx hb=>⟨(hE.next hb0).next hb,hN0.mono (fun b h=>hb.block b (Nat.lt_of_lt_of_le (hP b h) hb0.size)) (fun _ h=>h),fun b h=>Nat.lt_of_lt_of_le (hP b h) (Nat.le_trans hb0.size hb.size)⟩
 have HW:Hid (w.heap.size+2=(((w.alloc (.cells (N12 k n s r t (.slice p q c)) 57)).alloc (.cells NZ 57))).heap.size∧Below w.heap.size w ((w.alloc (.cells (N12 k n s r t (.slice p q c)) 57)).alloc (.cells NZ 57))):=⟨by simp,hb0⟩
 have HC:Hid (Calls Tryz.prog 59 #[NV k n s r t (.slice p q c),.bool row,.int .i64 at',.int .i64 many] ((w.alloc (.cells (N12 k n s r t (.slice p q c)) 57)).alloc (.cells NZ 57)) fun e w'=>e=.returned .nilIface∧Below ((w.alloc (.cells (N12 k n s r t (.slice p q c)) 57)).alloc (.cells NZ 57)).heap.size ((w.alloc (.cells (N12 k n s r t (.slice p q c)) 57)).alloc (.cells NZ 57)) w'):=by
  obtain⟨e1,e2,e3⟩:=HEN.out _ (Below.refl _ _)
  exact cwl_yes row at' many _ e1 e3 e2 hO h hL
 have hrg:1≤at'∧at'≤cntOf row∧0≤many∧many≤cntOf row:=by
  unfold okL at hL
  simp at hL
  omega
 have HMK:Hid (∀ wx,Calls Tryz.prog 61 #[.agg (l3 row),.int .i64 at',.int .i64 many] wx fun e w'=>∃ bl ba bm bf,e=.returned (.agg #[fv 93 #[ptr bl,ptr ba,ptr bm],fv 105 #[ptr bf]])∧(LN w' bl row∧w'.cell? ⟨ba,0,none⟩=some (.int .i64 at')∧w'.cell? ⟨bm,0,none⟩=some (.int .i64 many)∧w'.cell? ⟨bf,0,none⟩=some (fv 93 #[ptr bl,ptr ba,ptr bm]))∧Below wx.heap.size wx w'):=fun wx=>(ins_any row at' many wx).mono (fun _ _ ⟨bf,h1,h2,h3,h4,h5,h6⟩=>⟨_,_,_,bf,h1,⟨h2,h3,h4,h5⟩,h6⟩)
 have hcn:cntOf row≤99:=by unfold cntOf;split<;>omega
 have HCH:Hid (∀ wx bl ba bm bf,Below (((w.alloc (.cells (N12 k n s r t (.slice p q c)) 57)).alloc (.cells NZ 57))).heap.size ((w.alloc (.cells (N12 k n s r t (.slice p q c)) 57)).alloc (.cells NZ 57)) wx→(LN wx bl row∧wx.cell? ⟨ba,0,none⟩=some (.int .i64 at')∧wx.cell? ⟨bm,0,none⟩=some (.int .i64 many)∧wx.cell? ⟨bf,0,none⟩=some (fv 93 #[ptr bl,ptr ba,ptr bm]))→Calls Tryz.prog 60 #[NV k n s r t (.slice p q c),.agg #[fv 93 #[ptr bl,ptr ba,ptr bm],fv 105 #[ptr bf]]] wx (OutNd wx (chg (Cw (inR row at' many)) T0))):=fun wx bl ba bm bf hb hf=>by
  obtain⟨e1,e2,e3⟩:=HEN.out wx hb
  exact (in_core row at' many bl ba bm bf wx (by omega) (by omega) hf.1 hf.2.1 hf.2.2.1 hf.2.2.2 e2 hF hB).mono (fun _ _ h=>outNd_of h)
 obtain⟨a0,a1,a2,a3,a4,a5,a6,a7,a8,a9,a10,a11⟩:=HA.out _ (Below.refl _ _)
 clear hN hO hP hE h hN0 hA hD hb0 HEN hF hB hrg hcn hL
 go_enter Tryz.func27,Tryz.ntmps27
 go_wp2_with fail
 refine HC.out.mono ?_
 rintro e w1 ⟨rfl,hb1⟩
 clear a0 a1 a2 a3 a4 a5 a6 a7 a8 a9 a10 a11 HC
 go_wp2_with fail
 generalize hw0:((w.alloc (.cells (N12 k n s r t (.slice p q c)) 57)).alloc (.cells NZ 57))=wa at *
 clear hw0
 have hx1:Below wa.heap.size wa w1.drew:=hb1.drew
 have hne12:w.heap.size≠w.heap.size+1:=by omega
 clear hb1
 go_region_held3 (fun wx=>wx.cell? ⟨w.heap.size,0,none⟩=some (.int .i64 k)∧wx.cell? ⟨w.heap.size,1,none⟩=some (.int .i64 n)∧wx.cell? ⟨w.heap.size,2,none⟩=some (.string s)∧wx.cell? ⟨w.heap.size,3,none⟩=some (.int .i64 r.c)∧wx.cell? ⟨w.heap.size,4,none⟩=some (.int .i64 r.r)∧wx.cell? ⟨w.heap.size,5,none⟩=some (.bool r.fc)∧wx.cell? ⟨w.heap.size,6,none⟩=some (.bool r.fr)∧wx.cell? ⟨w.heap.size,7,none⟩=some (.int .i64 t.c)∧wx.cell? ⟨w.heap.size,8,none⟩=some (.int .i64 t.r)∧wx.cell? ⟨w.heap.size,9,none⟩=some (.bool t.fc)∧wx.cell? ⟨w.heap.size,10,none⟩=some (.bool t.fr)∧wx.cell? ⟨w.heap.size,11,none⟩=some (.slice p q c)) (first | with_reducible exact HA.out _ hx1 | with_reducible exact HA.out _ hx2 | with_reducible exact HA.out _ hx3 | with_reducible exact HA.out _ hx4 | (simp only [cell_set12 hne12];with_reducible exact HA.out _ hx4)) (first | (go_at_call 62;with_reducible refine (HLI.out _).mono ?_;rintro e w2 ⟨rfl,hb2⟩;have hx2:Below wa.heap.size wa w2:=hx1.trans (hb2.mono hx1.size)) | (go_at_call 61;with_reducible refine (HMK.out _).mono ?_;rintro e w3 ⟨bl,ba,bm,bf,rfl,hcf,hb3⟩;have hx3:Below wa.heap.size wa w3:=hx2.trans (hb3.mono hx2.size)) | (go_at_call 60;with_reducible refine (HCH.out _ _ _ _ _ hx3 hcf).mono ?_;rintro e w4 ⟨k2,n2,s2,r2,t2,p2,m2,e2,rfl,hN3,hb4⟩;have hx4:Below wa.heap.size wa w4:=hx3.trans (hb4.mono hx3.size);have hd4:=HD.out w4 hx4;have⟨⟨z0,z1,z2,z3,z4,z5,z6,z7,z8,z9,z10,z11⟩,zf⟩:=cells12 hd4))
 all_goals
  refine fin12 hd4 (Q:=Exit.then _ _ _ _) ?_
  clear z0 z1 z2 z3 z4 z5 z6 z7 z8 z9 z10 z11 zf hd4
  intro w5 hq5 hk5
  obtain⟨⟨b0,b1,b2,b3,b4,b5,b6,b7,b8,b9,b10,b11⟩,bf'⟩:=cells12 hq5
  go_wp2_with fail
  have hwa:=HW.out.1
  have h4:Below w.heap.size w w4:=HW.out.2.trans (hx4.mono HW.out.2.size)
  refine bodyPost_ret (v:=.tuple #[NV k2 n2 s2 r2 t2 (.slice p2 m2 e2),.nilIface]) (by simp [results,Tryz.results27,go_sem,b0,b1,b2,b3,b4,b5,b6,b7,b8,b9,b10,b11]) rfl ⟨k2,n2,s2,r2,t2,p2,m2,e2,rfl,?_,?_⟩
  ·have h33:=hx3.size
   exact hN3.mono (fun b hb=>hk5.block b hb.2 (by have:=hb.1;omega)) (fun b hb=>⟨by have:=hb.1;omega,Nat.lt_of_lt_of_le hb.2 hk5.size⟩)
  ·exact h4.trans (hk5.toBelow h4.size (fun n hn e=>by omega))
end Go.Proofs.YtgifkepklnhddaaGreatDoor.fm
namespace Go.Proofs.YtgifkepklnhddaaGreatDoor.fm
open Go.RowKit
end Go.Proofs.YtgifkepklnhddaaGreatDoor.fm
namespace Go.Proofs.YtgifkepklnhddaaGreatDoor.fm
open Go.RowKit
end Go.Proofs.YtgifkepklnhddaaGreatDoor.fm
namespace Go.Proofs.YtgifkepklnhddaaGreatDoor.fm
open Go.RowKit
set_option maxRecDepth 100000 in
set_option maxHeartbeats 8000000 in
theorem ins2_yes (row:Bool) (at' many:Int) (br ba bm:Nat) (w:World) (hE:EnvW w) {P:Nat→Prop} (hP:∀ b,P b→b<w.heap.size) {k n:Int} {s:ByteArray} {r t:Rf} {p:Option Addr} {q c:Nat} {T0:T} (hN:Nd w P (NV k n s r t (.slice p q c)) T0) (hO:Ok T0) (h:Ckd T0) (hL:okL row at' many=true) (hF:Fits isK T0) (hB:Bd 200 T0) (c1:w.cell? ⟨br,0,none⟩=some (.bool row)) (c2:w.cell? ⟨ba,0,none⟩=some (.int .i64 at')) (c3:w.cell? ⟨bm,0,none⟩=some (.int .i64 many)) :
  Calls Tryz.prog 26 #[NV k n s r t (.slice p q c),ptr br,ptr ba,ptr bm] w fun e w'=>∃ (k2 n2:Int) (s2:ByteArray) (r2 t2:Rf) (p2:Option Addr) (m2 e2:Nat),e=.returned (.tuple #[NV k2 n2 s2 r2 t2 (.slice p2 m2 e2),.nilIface])∧Nd w' (Own w w') (NV k2 n2 s2 r2 t2 (.slice p2 m2 e2)) (chg (Cw (inR row at' many)) T0)∧Below w.heap.size w w':=by
 have hb0:Below w.heap.size w ((w.alloc (.cells (N12 k n s r t (.slice p q c)) 57)).alloc (.cells NZ 57)):=((Below.refl _ _).alloc (Nat.le_refl _) _).alloc (by simp) _
 obtain⟨hA,hD⟩:=twoN w (.cells (N12 k n s r t (.slice p q c)) 57) (.cells NZ 57)
 have hN0:=hN.mono (fun b h=>hb0.block b (hP b h)) (fun _ h=>h)
 obtain⟨⟨a0,a1,a2,a3,a4,a5,a6,a7,a8,a9,a10,a11⟩,af⟩:=cells12 hA
 have HD:Hid (∀ wx,Below ((w.alloc (.cells (N12 k n s r t (.slice p q c)) 57)).alloc (.cells NZ 57)).heap.size ((w.alloc (.cells (N12 k n s r t (.slice p q c)) 57)).alloc (.cells NZ 57)) wx→wx.heap[w.heap.size+1]?=some (.cells NZ 57 (0,0))):=fun wx hb=>(hb.block _ (lt_blk hD)).trans hD
 have HI:=inserted_yes row at' many ((w.alloc (.cells (N12 k n s r t (.slice p q c)) 57)).alloc (.cells NZ 57)) (hE.next hb0) (P:=P) (fun b h=>Nat.lt_of_lt_of_le (hP b h) hb0.size) hN0 hO h hL hF hB
 have HW:Hid (w.heap.size+2=((w.alloc (.cells (N12 k n s r t (.slice p q c)) 57)).alloc (.cells NZ 57)).heap.size∧Below w.heap.size w ((w.alloc (.cells (N12 k n s r t (.slice p q c)) 57)).alloc (.cells NZ 57))):=⟨by simp,hb0⟩
 have d1:((w.alloc (.cells (N12 k n s r t (.slice p q c)) 57)).alloc (.cells NZ 57)).cell? ⟨br,0,none⟩=some (.bool row):=cell_on hb0 (Nat.le_refl _) c1
 have d2:((w.alloc (.cells (N12 k n s r t (.slice p q c)) 57)).alloc (.cells NZ 57)).cell? ⟨ba,0,none⟩=some (.int .i64 at'):=cell_on hb0 (Nat.le_refl _) c2
 have d3:((w.alloc (.cells (N12 k n s r t (.slice p q c)) 57)).alloc (.cells NZ 57)).cell? ⟨bm,0,none⟩=some (.int .i64 many):=cell_on hb0 (Nat.le_refl _) c3
 clear hN hO hP hE h hN0 hA hD hb0 hF hB hL c1 c2 c3
 go_enter Tryz.func26,Tryz.ntmps26
 go_wp2_with fail
 refine HI.mono ?_
 rintro e w1 ⟨k2,n2,s2,r2,t2,p2,m2,e2,rfl,hN3,hb1⟩
 have hd:=HD.out w1 hb1
 have HB:Hid (Below w.heap.size w w1):=HW.out.2.trans (hb1.mono HW.out.2.size)
 obtain⟨⟨z0,z1,z2,z3,z4,z5,z6,z7,z8,z9,z10,z11⟩,zf⟩:=cells12 hd
 clear a0 a1 a2 a3 a4 a5 a6 a7 a8 a9 a10 a11 af HD d1 d2 d3
 have HN3:Hid (Nd w1 (Own ((w.alloc (.cells (N12 k n s r t (.slice p q c)) 57)).alloc (.cells NZ 57)) w1) (NV k2 n2 s2 r2 t2 (.slice p2 m2 e2)) (chg (Cw (inR row at' many)) T0)):=hN3
 clear hN3
 go_wp2_with fail
 refine fin12 hd (Q:=bodyPost _ _ _ _ _) ?_
 clear z0 z1 z2 z3 z4 z5 z6 z7 z8 z9 z10 z11 zf hd
 intro w2 hq2 hk2
 obtain⟨⟨b0,b1,b2,b3,b4,b5,b6,b7,b8,b9,b10,b11⟩,bf'⟩:=cells12 hq2
 have hwa:=HW.out.1
 refine bodyPost_ret (v:=.tuple #[NV k2 n2 s2 r2 t2 (.slice p2 m2 e2),.nilIface]) (by simp [results,Tryz.results26,go_sem,b0,b1,b2,b3,b4,b5,b6,b7,b8,b9,b10,b11]) rfl ⟨k2,n2,s2,r2,t2,p2,m2,e2,rfl,?_,?_⟩
 ·exact HN3.out.mono (fun b hb=>hk2.block b hb.2 (by have:=hb.1;omega)) (fun b hb=>⟨by have:=hb.1;omega,Nat.lt_of_lt_of_le hb.2 hk2.size⟩)
 ·exact HB.out.trans (hk2.toBelow HB.out.size (fun n hn e=>by omega))
end Go.Proofs.YtgifkepklnhddaaGreatDoor.fm
namespace Go.Proofs.YtgifkepklnhddaaGreatDoor.fm
open Go.RowKit
def rwV (g:ByteArray) (x x1:List UInt8) (dp1:Nat):Value:=if x1.length+1≤200∧dp1≤30 then .tuple #[.string (if x1=x then g else ⟨(61::x1).toArray⟩),.nilIface] else .tuple #[.string nul,.iface 100 (.int .i64 4)]
theorem prV_yes {x:List UInt8} {dp:Nat} (h:x.length+1≤200∧dp≤30):prV x dp=.tuple #[.string ⟨(61::x).toArray⟩,.nilIface]:=if_pos h
theorem prV_no {x:List UInt8} {dp:Nat} (h:¬ (x.length+1≤200∧dp≤30)):prV x dp=.tuple #[.string nul,.iface 100 (.int .i64 4)]:=if_neg h
set_option maxRecDepth 100000 in
set_option maxHeartbeats 8000000 in
theorem rewrite3 (g:ByteArray) (hg:nx g 0=61) (K:Nat) (hK:∀ vs wx,Sem.run Tryz.prog (callFunc K vs) wx=.ok (.enter K vs) wx) (c1 c2 c3:Value) (w:World) (hE:EnvW w) {P:Nat→Prop} (hP:∀ b,P b→b<w.heap.size) {k n:Int} {s:ByteArray} {r t:Rf} {p:Option Addr} {q c:Nat} {T0 T1:T} (hN:Nd w P (NV k n s r t (.slice p q c)) T0) {x x1:List UInt8} {dp dp1:Nat} (hW:W ink T0 x dp) (hO:Ok T0) (h6:T0.kd≠6) (hc:T0.cnt≤200) (hl:x.length+1≤200∧dp≤30) (hW1:W ink T1 x1 dp1) (hO1:Ok T1) (h61:T1.kd≠6) (hc1:T1.cnt≤200)
  (hF:∀ wx,Below w.heap.size w wx→Calls Tryz.prog K #[NV k n s r t (.slice p q c),c1,c2,c3] wx fun e w'=>∃ (k2 n2:Int) (s2:ByteArray) (r2 t2:Rf) (p2:Option Addr) (m2 e2:Nat),e=.returned (.tuple #[NV k2 n2 s2 r2 t2 (.slice p2 m2 e2),.nilIface])∧Nd w' (Own wx w') (NV k2 n2 s2 r2 t2 (.slice p2 m2 e2)) T1∧Below wx.heap.size wx w') :
  Calls Tryz.prog 58 #[.string g,NV k n s r t (.slice p q c),fv K #[c1,c2,c3]] w fun e w'=>e=.returned (rwV g x x1 dp1)∧Below w.heap.size w w':=by
 have hb0:Below w.heap.size w (w.alloc (.cells (N12 k n s r t (.slice p q c)) 57)):=(Below.refl _ _).alloc (Nat.le_refl _) _
 have hA:=blk_new w (.cells (N12 k n s r t (.slice p q c)) 57)
 have HA:Hid (∀ wx,Below (w.alloc (.cells (N12 k n s r t (.slice p q c)) 57)).heap.size (w.alloc (.cells (N12 k n s r t (.slice p q c)) 57)) wx→wx.heap[w.heap.size]?=some (.cells (N12 k n s r t (.slice p q c)) 57 (0,0))):=fun wx hb=>(hb.block _ (lt_blk hA)).trans hA
 obtain⟨⟨a0,a1,a2,a3,a4,a5,a6,a7,a8,a9,a10,a11⟩,af⟩:=cells12 hA
 have HK:=hF (w.alloc (.cells (N12 k n s r t (.slice p q c)) 57)) hb0
 have HC:Hid (∀ wx,Calls Tryz.prog 91 #[.string g] wx fun e w'=>e=.returned (.bool false)∧w'=wx):=fun wx=>(constant_any g wx).mono (fun _ _ h=>by rw [hg] at h;exact h)
 have HP0:Hid (∀ wx,Below w.heap.size w wx→Calls Tryz.prog 92 #[NV k n s r t (.slice p q c)] wx fun e w'=>e=.returned (.tuple #[.string ⟨(61::x).toArray⟩,.nilIface])∧Below wx.heap.size wx w'):=fun wx hb=>(print_ok wx (hE.next hb) (P:=P) (fun b h=>Nat.lt_of_lt_of_le (hP b h) hb.size) hW (hN.mono (fun b h=>hb.block b (hP b h)) (fun _ h=>h)) hO (by rw [← nd_kd hN _ _ _ _ _ _ rfl];exact h6) hc).mono (fun _ _ h=>by rw [prV_yes hl] at h;exact h)
 have HP1:Hid (∀ wx wy k2 n2 s2 r2 t2 p2 m2 e2,Below w.heap.size w wx→Nd wy (Own (w.alloc (.cells (N12 k n s r t (.slice p q c)) 57)) wy) (NV k2 n2 s2 r2 t2 (.slice p2 m2 e2)) T1→Below wy.heap.size wy wx→Calls Tryz.prog 92 #[NV k2 n2 s2 r2 t2 (.slice p2 m2 e2)] wx fun e w'=>e=.returned (prV x1 dp1)∧Below wx.heap.size wx w'):=fun wx wy k2 n2 s2 r2 t2 p2 m2 e2 hb hn hy=>print_ok wx (hE.next hb) (P:=Own (w.alloc (.cells (N12 k n s r t (.slice p q c)) 57)) wy) (fun b h=>Nat.lt_of_lt_of_le h.2 hy.size) hW1 (hn.mono (fun b h=>hy.block b h.2) (fun _ h=>h)) hO1 (by rw [← nd_kd hn _ _ _ _ _ _ rfl];exact h61) hc1
 have HW:Hid (w.heap.size+1=(w.alloc (.cells (N12 k n s r t (.slice p q c)) 57)).heap.size∧Below w.heap.size w (w.alloc (.cells (N12 k n s r t (.slice p q c)) 57))):=⟨by simp,hb0⟩
 clear hN hO hP hE hA hb0 hF hW hW1 hO1 h6 h61 hc hc1 hl hg
 go_enter Tryz.func58,Tryz.ntmps58
 go_wp2_with fail
 refine (HC.out _).mono ?_
 rintro e w1 ⟨rfl,rfl⟩
 go_wp2_with fail
 refine HK.mono ?_
 rintro e w1 ⟨k2,n2,s2,r2,t2,p2,m2,e2,rfl,hN3,hb1⟩
 have HN3:Hid (Nd w1 (Own (w.alloc (.cells (N12 k n s r t (.slice p q c)) 57)) w1) (NV k2 n2 s2 r2 t2 (.slice p2 m2 e2)) T1):=hN3
 clear hN3 a0 a1 a2 a3 a4 a5 a6 a7 a8 a9 a10 a11 af
 have hx2:Below (w.alloc (.cells (N12 k n s r t (.slice p q c)) 57)).heap.size (w.alloc (.cells (N12 k n s r t (.slice p q c)) 57)) (w1.alloc (.cells (N12 k2 n2 s2 r2 t2 (.slice p2 m2 e2)) 57)):=hb1.alloc hb1.size _
 have HX2:Hid (Below (w.alloc (.cells (N12 k n s r t (.slice p q c)) 57)).heap.size (w.alloc (.cells (N12 k n s r t (.slice p q c)) 57)) (w1.alloc (.cells (N12 k2 n2 s2 r2 t2 (.slice p2 m2 e2)) 57))):=hx2
 obtain⟨⟨a0,a1,a2,a3,a4,a5,a6,a7,a8,a9,a10,a11⟩,af⟩:=cells12 (HA.out _ hx2)
 have hE2:=blk_new w1 (.cells (N12 k2 n2 s2 r2 t2 (.slice p2 m2 e2)) 57)
 have HE2:Hid (∀ wx,Below (w1.alloc (.cells (N12 k2 n2 s2 r2 t2 (.slice p2 m2 e2)) 57)).heap.size (w1.alloc (.cells (N12 k2 n2 s2 r2 t2 (.slice p2 m2 e2)) 57)) wx→wx.heap[w1.heap.size]?=some (.cells (N12 k2 n2 s2 r2 t2 (.slice p2 m2 e2)) 57 (0,0))):=fun wx hb=>(hb.block _ (lt_blk hE2)).trans hE2
 have HQ0:=HP0.out _ (HW.out.2.trans (hx2.mono HW.out.2.size))
 have HY:Hid (Below w1.heap.size w1 (w1.alloc (.cells (N12 k2 n2 s2 r2 t2 (.slice p2 m2 e2)) 57))):=(Below.refl _ _).alloc (Nat.le_refl _) _
 clear hE2 hx2 hb1 HK HC HP0 HA
 go_wp2_with fail
 refine HQ0.mono ?_
 rintro e w3 ⟨rfl,hb3⟩
 clear a0 a1 a2 a3 a4 a5 a6 a7 a8 a9 a10 a11 af HQ0
 obtain⟨⟨a0,a1,a2,a3,a4,a5,a6,a7,a8,a9,a10,a11⟩,af⟩:=cells12 (HE2.out _ hb3)
 have HB3:Hid (Below w.heap.size w w3):=by
  have h1:=HW.out.2.trans (HX2.out.mono HW.out.2.size)
  exact h1.trans (hb3.mono h1.size)
 have HQ1:=HP1.out w3 w1 _ _ _ _ _ _ _ _ HB3.out HN3.out (HY.out.trans (hb3.mono HY.out.size))
 clear HP1 HN3 HE2 HX2 HY hb3 HW
 by_cases hf:x1.length+1≤200∧dp1≤30
 ·rw [prV_yes hf] at HQ1
  by_cases hx:x1=x
  ·have HR:Hid (rwV g x x1 dp1=.tuple #[.string g,.nilIface]):=by unfold Hid rwV;rw [if_pos hf,if_pos hx]
   rw [hx] at HQ1
   clear hf hx
   go_wp2_with fail
   refine HQ1.mono ?_
   rintro e w4 ⟨rfl,hb4⟩
   go_wp2_with fail
   exact bodyPost_ret (v:=.tuple #[.string g,.nilIface]) (by simp [results,Tryz.results58,go_sem]) rfl ⟨congrArg Ending.returned HR.out.symm,HB3.out.trans (hb4.mono HB3.out.size)⟩
  ·have HR:Hid (rwV g x x1 dp1=.tuple #[.string ⟨(61::x1).toArray⟩,.nilIface]):=by unfold Hid rwV;rw [if_pos hf,if_neg hx]
   clear hf
   go_wp2_with fail
   refine HQ1.mono ?_
   rintro e w4 ⟨rfl,hb4⟩
   go_wp2_with fail
   ·rename_i hh
    exact absurd (eq_of_beq hh) hx
   ·exact bodyPost_ret (v:=.tuple #[.string ⟨(61::x1).toArray⟩,.nilIface]) (by simp [results,Tryz.results58,go_sem]) rfl ⟨congrArg Ending.returned HR.out.symm,HB3.out.trans (hb4.mono HB3.out.size)⟩
 ·rw [prV_no hf] at HQ1
  have HR:Hid (rwV g x x1 dp1=.tuple #[.string nul,.iface 100 (.int .i64 4)]):=by unfold Hid rwV;rw [if_neg hf]
  clear hf
  go_wp2_with fail
  refine HQ1.mono ?_
  rintro e w4 ⟨rfl,hb4⟩
  go_wp2_with fail
  exact bodyPost_ret (v:=.tuple #[.string nul,.iface 100 (.int .i64 4)]) (by simp [results,Tryz.results58,go_sem]) rfl ⟨congrArg Ending.returned HR.out.symm,HB3.out.trans (hb4.mono HB3.out.size)⟩
end Go.Proofs.YtgifkepklnhddaaGreatDoor.fm
namespace Go.Proofs.YtgifkepklnhddaaGreatDoor.fm
open Go.RowKit
set_option maxRecDepth 100000 in
set_option maxHeartbeats 4000000 in
theorem ins1_any (line at' many:Int) (ba bm:Nat) (w:World) (hl:0≤line∧line≤1000) (hm:0≤many∧many≤1000) (c2:w.cell? ⟨ba,0,none⟩=some (.int .i64 at')) (c3:w.cell? ⟨bm,0,none⟩=some (.int .i64 many)) :
  Calls Tryz.prog 25 #[.int .i64 line,ptr ba,ptr bm] w fun e w'=>e=.returned (.int .i64 (if line<at' then line else line+many))∧w'=w:=by
 have hw:IntKind.i64.wrap (line+many)=line+many:=Go.IntWalk.i64_in _ (by omega)
 by_cases h:line<at'
 ·rw [if_pos h]
  go_enter Tryz.func25,Tryz.ntmps25
  go_wp2_with fail
  go_ret
  exact⟨rfl,rfl⟩
 ·rw [if_neg h]
  have h':at'≤line:=by omega
  go_enter Tryz.func25,Tryz.ntmps25
  go_wp2_with fail
  go_ret
  exact⟨rfl,rfl⟩
end Go.Proofs.YtgifkepklnhddaaGreatDoor.fm
namespace Go.Proofs.YtgifkepklnhddaaGreatDoor.ps
open Go.RowKit
open adr (C isC ckc)
def NdT (s:ByteArray) (w w':World) (u:Value):Prop:=ckT s=0→eqS s=true→∃ t k,fm.parse fm.lexP s=.ok t k∧fm.Nd w' (fm.Own w w') u t
set_option maxRecDepth 100000 in
set_option maxHeartbeats 8000000 in
theorem formulaOf_nd (s:ByteArray) (w:World) (hE:EnvP w) (hz:9<w.heap.size) :
  Calls Tryz.prog 89 #[.string s] w fun e w'=>(∃ k n z r t kd m c v,e=.returned (.tuple #[fm.NV k n z r t (.slice kd m c),v])∧v=errV (ckT s)∧NdT s w w' (fm.NV k n z r t (.slice kd m c)))∧Below w.heap.size w w':=by
 have HE:Hid (EnvP w∧9<w.heap.size):=⟨hE,hz⟩
 clear hE hz
 go_enter Tryz.func89,Tryz.ntmps89
 cases h0:s.toList.isEmpty with
 | true =>
  have HE0:Hid (s.size=0):=emp_yes h0
  go_wp2_with fail
  exact bodyPost_ret (v:=.tuple #[fm.NV 0 0 nul .z .z (.slice none 0 0),.iface 100 (.int .i64 3)]) (by simp [results,Tryz.results89,go_sem]) rfl ⟨⟨_,_,_,_,_,_,_,_,_,rfl,by rw [ckT_emp HE0.out];rfl,fun h=>by rw [ckT_emp HE0.out] at h;cases h⟩,(Below.refl _ _).alloc (Nat.le_refl _) _⟩
 | false =>
  have HE0:Hid (s.size≠0):=emp_no h0
  by_cases h2:s.size≤200
  ·have hl:¬ (200:Int)<(s.size:Int):=by omega
   have HC:Hid (∀ wx,Calls Tryz.prog 91 #[.string s] wx fun e w'=>e=.returned (.bool (!eqS s))∧w'=wx):=fun wx=>constant_any s wx (by have:=HE0.out;omega) h2
   go_wp2_with fail
   refine (HC.out _).mono ?_
   rintro e w1 ⟨rfl,rfl⟩
   cases hq:eqS s with
   | false =>
    go_wp2_with fail
    exact bodyPost_ret (v:=.tuple #[fm.NV 0 0 nul .z .z (.slice none 0 0),.nilIface]) (by simp [results,Tryz.results89,go_sem]) rfl ⟨⟨_,_,_,_,_,_,_,_,_,rfl,by rw [ckT_const HE0.out h2 hq];rfl,fun _ h=>by rw [hq] at h;cases h⟩,(Below.refl _ _).alloc (Nat.le_refl _) _⟩
   | true =>
    have HQ:Hid (eqS s=true):=hq
    have hb0:Below w.heap.size w (w.alloc (.cells fm.NZ 57)):=(Below.refl _ _).alloc (Nat.le_refl _) _
    have hr0:=heap_alloc_new w (.cells fm.NZ 57)
    obtain⟨RR,hRR⟩:∃ RR,fm.parse fm.lexP s=RR:=⟨_,rfl⟩
    have HPa:Hid (Calls Tryz.prog 126 #[.string s] (w.alloc (.cells fm.NZ 57)) (fm.OutP (w.alloc (.cells fm.NZ 57)) RR)):=fm.parse_any s _ ((HE.out.1.below hb0 HE.out.1.size).full (by have:=HE.out.2;simp;omega)) (by omega) RR hRR
    have HRR:Hid (isBadF s=isE RR):=by unfold Hid isBadF;rw [hRR]
    have HRQ:Hid (fm.parse fm.lexP s=RR):=hRR
    clear hRR
    go_wp2_with fail
    refine HPa.out.mono ?_
    intro e w1 hO
    cases RR with
    | ok t k =>
     obtain⟨v,rfl,hN,hb⟩:=hO
     have HRK:Hid (fm.parse fm.lexP s=.ok t k):=HRQ.out
     have HNn:Hid (fm.Nd w1 (fm.Own (w.alloc (.cells fm.NZ 57)) w1) v t):=hN
     have hr1:=(hb.block _ (fm.lt_blk hr0)).trans hr0
     have hlt:=fm.lt_blk hr1
     have HB1:Hid (Below w.heap.size w w1∧w1.heap[w.heap.size]?=some (.cells fm.NZ 57 (0,0))):=⟨bnext hb0 hb hb0.size,hr1⟩
     cases hN with
     | @mk a1 n1 s1 r1 t1 p1 m1 e1 us ts hk hl' hs' =>
     clear hk hl' hs' hb hb0 hr0
     obtain⟨⟨b0,b1,b2,b3,b4,b5,b6,b7,b8,b9,b10,b11⟩,bf⟩:=fm.cells12 hr1
     clear hr1
     go_wp2_with fail
     refine fm.fin12 HB1.out.2 (Q:=fun W=>bodyPost _ _ _ _ _ (W.alloc _)) ?_
     intro w2 hr2 hk2
     have hq:=fun O=>(fm.cells12 ((Below.heap_alloc w2 O _ (fm.lt_blk hr2)).trans hr2)).1
     have hB2:Below w.heap.size w w2:=HB1.out.1.trans (hk2.toBelow (B:=w.heap.size) HB1.out.1.size (fun n hn e=>by omega))
     exact bodyPost_ret (v:=.tuple #[fm.NV a1 n1 s1 r1 t1 (.slice p1 m1 e1),.nilIface]) (by simp [results,Tryz.results89,go_sem,hq]) rfl ⟨⟨_,_,_,_,_,_,_,_,_,rfl,by rw [ckT_good HE0.out h2 HQ.out HRR.out];rfl,fun _ _=>⟨_,k,HRK.out,HNn.out.mono (fun b hb=>(Below.heap_alloc _ _ _ (Nat.lt_of_lt_of_le hb.2 hk2.size)).trans (hk2.block b hb.2 (fun e=>by have:=hb.1;simp at this;omega))) (fun b hb=>⟨by have:=hb.1;simp at this;omega,by have:=hb.2;have:=hk2.size;simp;omega⟩)⟩⟩,hB2.alloc hB2.size _⟩
    | err k c =>
     obtain⟨rfl,hb⟩:=hO
     have hr1:=(hb.block _ (fm.lt_blk hr0)).trans hr0
     have hlt:=fm.lt_blk hr1
     have HB1:Hid (Below w.heap.size w w1∧w1.heap[w.heap.size]?=some (.cells fm.NZ 57 (0,0))):=⟨bnext hb0 hb hb0.size,hr1⟩
     clear hb hb0 hr0
     obtain⟨⟨b0,b1,b2,b3,b4,b5,b6,b7,b8,b9,b10,b11⟩,bf⟩:=fm.cells12 hr1
     clear hr1
     go_wp2_with fail
     refine fm.fin12 HB1.out.2 (Q:=fun W=>bodyPost _ _ _ _ _ (W.alloc _)) ?_
     intro w2 hr2 hk2
     have hq:=fun O=>(fm.cells12 ((Below.heap_alloc w2 O _ (fm.lt_blk hr2)).trans hr2)).1
     have hB2:Below w.heap.size w w2:=HB1.out.1.trans (hk2.toBelow (B:=w.heap.size) HB1.out.1.size (fun n hn e=>by omega))
     exact bodyPost_ret (v:=.tuple #[fm.NV 0 0 nul .z .z (.slice none 0 0),.iface 100 (.int .i64 2)]) (by simp [results,Tryz.results89,go_sem,hq]) rfl ⟨⟨_,_,_,_,_,_,_,_,_,rfl,by rw [ckT_bad HE0.out h2 HQ.out HRR.out];rfl,fun h=>by rw [ckT_bad HE0.out h2 HQ.out HRR.out] at h;cases h⟩,hB2.alloc hB2.size _⟩
  ·have hl:(200:Int)<(s.size:Int):=by omega
   go_wp2_with fail
   exact bodyPost_ret (v:=.tuple #[fm.NV 0 0 nul .z .z (.slice none 0 0),.iface 100 (.int .i64 4)]) (by simp [results,Tryz.results89,go_sem]) rfl ⟨⟨_,_,_,_,_,_,_,_,_,rfl,by rw [ckT_long (by omega)];rfl,fun h=>by rw [ckT_long (by omega)] at h;cases h⟩,(Below.refl _ _).alloc (Nat.le_refl _) _⟩
end Go.Proofs.YtgifkepklnhddaaGreatDoor.ps
