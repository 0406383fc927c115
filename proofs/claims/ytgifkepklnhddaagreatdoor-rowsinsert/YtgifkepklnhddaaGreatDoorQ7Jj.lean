import Derived.Test.YtgifkepklnhddaaGreatDoorQ7Nc
import Derived.Test.YtgifkepklnhddaaGreatDoorQ7Ji
import Derived.Test.YtgifkepklnhddaaGreatDoorQ7Je
namespace Go.Proofs.YtgifkepklnhddaaGreatDoor.fm
open Go.RowKit
structure QB (w:World) (C:Array Value) (a b:Rf) (wx:World):Prop where
 c:wx.heap[w.heap.size]?=some (.cells C 49 (0,0))
 a:wx.heap[w.heap.size+1]?=some (.cells (R4 a) 54 (0,0))
 b:wx.heap[w.heap.size+1+1]?=some (.cells (R4 b) 54 (0,0))
 x:wx.heap[w.heap.size+1+1+1]?=some (.cells Z4 54 (0,0))
 y:wx.heap[w.heap.size+1+1+1+1]?=some (.cells Z4 54 (0,0))
 below:Below w.heap.size w wx
theorem QB.next {w:World} {C:Array Value} {a b:Rf} {wx wy:World} (h:QB w C a b wx) (hb:Below wx.heap.size wx wy):QB w C a b wy :=
 ⟨(hb.block _ (lt_blk h.c)).trans h.c,(hb.block _ (lt_blk h.a)).trans h.a,(hb.block _ (lt_blk h.b)).trans h.b,(hb.block _ (lt_blk h.x)).trans h.x,(hb.block _ (lt_blk h.y)).trans h.y,bnext h.below hb h.below.size⟩
theorem QB.start (w:World) (C:Array Value) (a b:Rf):QB w C a b (((((w.alloc (.cells C 49)).alloc (.cells (R4 a) 54)).alloc (.cells (R4 b) 54)).alloc (.cells Z4 54)).alloc (.cells Z4 54)):=by
 have k:∀ (W:World) (o:Obj),Below W.heap.size W (W.alloc o):=fun W o=>(Below.refl _ _).alloc (Nat.le_refl _) _
 have h1:=blk_new w (.cells C 49)
 have h2:=blk_new (w.alloc (.cells C 49)) (.cells (R4 a) 54)
 have h3:=blk_new ((w.alloc (.cells C 49)).alloc (.cells (R4 a) 54)) (.cells (R4 b) 54)
 have h4:=blk_new (((w.alloc (.cells C 49)).alloc (.cells (R4 a) 54)).alloc (.cells (R4 b) 54)) (.cells Z4 54)
 have h5:=blk_new ((((w.alloc (.cells C 49)).alloc (.cells (R4 a) 54)).alloc (.cells (R4 b) 54)).alloc (.cells Z4 54)) (.cells Z4 54)
 have g1:=((k (w.alloc (.cells C 49)) (.cells (R4 a) 54)).block _ (lt_blk h1)).trans h1
 have g2:=((k ((w.alloc (.cells C 49)).alloc (.cells (R4 a) 54)) (.cells (R4 b) 54)).block _ (lt_blk g1)).trans g1
 have g3:=((k (((w.alloc (.cells C 49)).alloc (.cells (R4 a) 54)).alloc (.cells (R4 b) 54)) (.cells Z4 54)).block _ (lt_blk g2)).trans g2
 have g4:=((k ((((w.alloc (.cells C 49)).alloc (.cells (R4 a) 54)).alloc (.cells (R4 b) 54)).alloc (.cells Z4 54)) (.cells Z4 54)).block _ (lt_blk g3)).trans g3
 have f2:=((k ((w.alloc (.cells C 49)).alloc (.cells (R4 a) 54)) (.cells (R4 b) 54)).block _ (lt_blk h2)).trans h2
 have f3:=((k (((w.alloc (.cells C 49)).alloc (.cells (R4 a) 54)).alloc (.cells (R4 b) 54)) (.cells Z4 54)).block _ (lt_blk f2)).trans f2
 have f4:=((k ((((w.alloc (.cells C 49)).alloc (.cells (R4 a) 54)).alloc (.cells (R4 b) 54)).alloc (.cells Z4 54)) (.cells Z4 54)).block _ (lt_blk f3)).trans f3
 have e3:=((k (((w.alloc (.cells C 49)).alloc (.cells (R4 a) 54)).alloc (.cells (R4 b) 54)) (.cells Z4 54)).block _ (lt_blk h3)).trans h3
 have e4:=((k ((((w.alloc (.cells C 49)).alloc (.cells (R4 a) 54)).alloc (.cells (R4 b) 54)).alloc (.cells Z4 54)) (.cells Z4 54)).block _ (lt_blk e3)).trans e3
 have d4:=((k ((((w.alloc (.cells C 49)).alloc (.cells (R4 a) 54)).alloc (.cells (R4 b) 54)).alloc (.cells Z4 54)) (.cells Z4 54)).block _ (lt_blk h4)).trans h4
 simp only [World.size_alloc] at f4 e4 d4 h5
 exact⟨g4,f4,e4,d4,h5,((((k w _).alloc (by simp) _).alloc (by simp;omega) _).alloc (by simp;omega) _).alloc (by simp;omega) _⟩
theorem cells10 {W:World} {b:Nat} {a0 a1 a2 a3 a4 a5 a6 a7 a8 a9:Value} {t:TypeId} (h:W.heap[b]?=some (.cells #[a0,a1,a2,a3,a4,a5,a6,a7,a8,a9] t (0,0))):W.cell? ⟨b,0,none⟩=some a0∧W.cell? ⟨b,1,none⟩=some a1∧W.cell? ⟨b,2,none⟩=some a2∧W.cell? ⟨b,3,none⟩=some a3∧W.cell? ⟨b,4,none⟩=some a4∧W.cell? ⟨b,5,none⟩=some a5∧W.cell? ⟨b,6,none⟩=some a6∧W.cell? ⟨b,7,none⟩=some a7∧W.cell? ⟨b,8,none⟩=some a8∧W.cell? ⟨b,9,none⟩=some a9:=by
 refine⟨?_,?_,?_,?_,?_,?_,?_,?_,?_,?_⟩<;>(rw [cell_blk h];rfl)
theorem fin4q {wc:World} {c:Nat} {x0 x1 x2 x3:Value} {q:Rf} (hc:wc.heap[c]?=some (.cells #[x0,x1,x2,x3] 54 (0,0))) {Q:World→Prop} (hq:∀ w2,w2.heap[c]?=some (.cells #[.int .i64 q.c,.int .i64 q.r,.bool q.fc,.bool q.fr] 54 (0,0))→Kp (·=c) wc w2→Q w2) :
  Q ((((wc.setCell ⟨c,0,none⟩ (.int .i64 q.c)).setCell ⟨c,1,none⟩ (.int .i64 q.r)).setCell ⟨c,2,none⟩ (.bool q.fc)).setCell ⟨c,3,none⟩ (.bool q.fr)) :=
 hq _ (adr.set4 hc) (((((Kp.refl (·=c) wc).setCell (Or.inl rfl) _).setCell (Or.inl rfl) _).setCell (Or.inl rfl) _).setCell (Or.inl rfl) _)
theorem fin8q {w wc:World} {c d:Nat} {x0 x1 x2 x3 y0 y1 y2 y3:Value} {qa qb:Rf} (hc:wc.heap[c]?=some (.cells #[x0,x1,x2,x3] 54 (0,0))) (hd:wc.heap[d]?=some (.cells #[y0,y1,y2,y3] 54 (0,0))) (hne:c≠d) (hb:Below w.heap.size w wc) (h1:w.heap.size≤c) (h2:w.heap.size≤d) {Q:World→Prop}
  (hq:∀ w2,w2.heap[c]?=some (.cells #[.int .i64 qa.c,.int .i64 qa.r,.bool qa.fc,.bool qa.fr] 54 (0,0))→w2.heap[d]?=some (.cells #[.int .i64 qb.c,.int .i64 qb.r,.bool qb.fc,.bool qb.fr] 54 (0,0))→Below w.heap.size w w2→Q w2) :
  Q ((((((((wc.setCell ⟨c,0,none⟩ (.int .i64 qa.c)).setCell ⟨c,1,none⟩ (.int .i64 qa.r)).setCell ⟨c,2,none⟩ (.bool qa.fc)).setCell ⟨c,3,none⟩ (.bool qa.fr)).setCell ⟨d,0,none⟩ (.int .i64 qb.c)).setCell ⟨d,1,none⟩ (.int .i64 qb.r)).setCell ⟨d,2,none⟩ (.bool qb.fc)).setCell ⟨d,3,none⟩ (.bool qb.fr)).drew:=by
 refine fin4q hc (Q:=fun u=>Q ((((u.setCell ⟨d,0,none⟩ (.int .i64 qb.c)).setCell ⟨d,1,none⟩ (.int .i64 qb.r)).setCell ⟨d,2,none⟩ (.bool qb.fc)).setCell ⟨d,3,none⟩ (.bool qb.fr)).drew) fun w2 e1 k1=>?_
 refine fin4q (k1.blk hd (fun e=>hne e.symm)) (Q:=fun u=>Q u.drew) fun w3 e2 k2=>?_
 have e3:=k2.blk e1 hne
 have hbb:Below w.heap.size w w3:=(hb.trans (k1.toBelow hb.size (fun n hn e=>by omega))).trans (k2.toBelow (Nat.le_trans hb.size k1.size) (fun n hn e=>by omega))
 exact hq w3.drew e3 e2 hbb.drew
set_option maxRecDepth 100000 in
set_option maxHeartbeats 8000000 in
theorem rbox_ins (row:Bool) (at' many cs rs fx fy tx ty:Int) (a b:Rf) (w:World) (ha:adr.isC a.c a.r=true) (hb:adr.isC b.c b.r=true) (hm:0≤many∧many≤99) :
  Calls Tryz.prog 84 #[.agg (C10 2 row at' many cs rs fx fy tx ty),RV a,RV b] w fun e w'=>e=.returned (.tuple #[RV (inR row at' many a).1,RV (inR row at' many b).1,.bool ((inR row at' many a).2 && (inR row at' many b).2)])∧Below w.heap.size w w':=by
 have HA:Hid (∀ wx,Calls Tryz.prog 83 #[.agg (C10 2 row at' many cs rs fx fy tx ty),RV a] wx fun e w'=>e=.returned (.tuple #[RV (inR row at' many a).1,.bool (inR row at' many a).2])∧Below wx.heap.size wx w'):=fun wx=>rref_ins row at' many cs rs fx fy tx ty a wx ha hm
 have HB:Hid (∀ wx,Calls Tryz.prog 83 #[.agg (C10 2 row at' many cs rs fx fy tx ty),RV b] wx fun e w'=>e=.returned (.tuple #[RV (inR row at' many b).1,.bool (inR row at' many b).2])∧Below wx.heap.size wx w'):=fun wx=>rref_ins row at' many cs rs fx fy tx ty b wx hb hm
 clear ha hb hm
 obtain⟨⟨fa,ka⟩,hfa⟩:∃ z,inR row at' many a=z:=⟨_,rfl⟩
 obtain⟨⟨fb,kb⟩,hfb⟩:∃ z,inR row at' many b=z:=⟨_,rfl⟩
 rw [hfa] at HA ⊢
 rw [hfb] at HB ⊢
 clear hfa hfb
 go_enter Tryz.func84,Tryz.ntmps84
 go_upto_region 1 with fail
 have hS:=QB.start w (C10 2 row at' many cs rs fx fy tx ty) a b
 dsimp only [R4,Z4] at hS
 generalize (((((w.alloc (.cells (C10 2 row at' many cs rs fx fy tx ty) 49)).alloc (.cells #[.int .i64 a.c,.int .i64 a.r,.bool a.fc,.bool a.fr] 54)).alloc (.cells #[.int .i64 b.c,.int .i64 b.r,.bool b.fc,.bool b.fr] 54)).alloc (.cells #[.int .i64 0,.int .i64 0,.bool false,.bool false] 54)).alloc (.cells #[.int .i64 0,.int .i64 0,.bool false,.bool false] 54))=W at *
 have HS:Hid (QB w (C10 2 row at' many cs rs fx fy tx ty) a b W):=hS
 obtain⟨c0,c1,c2,c3,c4,c5,c6,c7,c8,c9⟩:=cells10 hS.c
 obtain⟨⟨x0,x1,x2,x3⟩,-⟩:=cellsR hS.a
 clear hS
 go_upto_region 34 with (first | (go_at_call 83;with_reducible refine (HA.out _).mono ?_;rintro e w1 ⟨rfl,hb1⟩))
 clear c0 c1 c2 c3 c4 c5 c6 c7 c8 c9 x0 x1 x2 x3
 have h1:=HS.out.next hb1
 have n1:=blk_new w1 (.cells (R4 fa) 54)
 have h2:=h1.next ((Below.refl _ _).alloc (Nat.le_refl _) (.cells (R4 fa) 54))
 have hlt1:w.heap.size+5≤w1.heap.size:=by have:=lt_blk h1.y;omega
 have HL1:Hid (w.heap.size+5≤w1.heap.size):=hlt1
 obtain⟨c0,c1,c2,c3,c4,c5,c6,c7,c8,c9⟩:=cells10 h2.c
 obtain⟨⟨x0,x1,x2,x3⟩,-⟩:=cellsR h2.b
 have H2:Hid (QB w (C10 2 row at' many cs rs fx fy tx ty) a b (w1.alloc (.cells (R4 fa) 54))∧(w1.alloc (.cells (R4 fa) 54)).heap[w1.heap.size]?=some (.cells (R4 fa) 54 (0,0))):=⟨h2,n1⟩
 clear h1 h2 n1 hb1
 dsimp only [R4] at c0 c1 c2 c3 c4 c5 c6 c7 c8 c9 x0 x1 x2 x3
 go_upto_region 35 with (first | (go_at_call 83;with_reducible refine (HB.out _).mono ?_;rintro e w2 ⟨rfl,hb2⟩))
 clear c0 c1 c2 c3 c4 c5 c6 c7 c8 c9 x0 x1 x2 x3
 have h3:=H2.out.1.next hb2
 have h4:=h3.next ((Below.refl _ _).alloc (Nat.le_refl _) (.cells (R4 fb) 54))
 have n2:=blk_new w2 (.cells (R4 fb) 54)
 have m1:=(hb2.block _ (lt_blk H2.out.2)).trans H2.out.2
 have m2:=(((Below.refl w2.heap.size w2).alloc (Nat.le_refl _) (.cells (R4 fb) 54)).block _ (lt_blk m1)).trans m1
 have hlt2:w1.heap.size+1≤w2.heap.size:=by have:=lt_blk m1;omega
 have hl1:=HL1.out
 have hbw:Below w.heap.size w (w2.alloc (.cells (R4 fb) 54)):=h4.below
 have hx:=h4.x
 have hy:=h4.y
 clear h3 h4 m1 hb2 H2 HS HL1
 generalize hp1:w1.heap.size=p1 at *
 generalize hp2:w2.heap.size=p2 at *
 generalize hW2:w2.alloc (.cells (R4 fb) 54)=W2 at *
 generalize hpx:w.heap.size+1+1+1=px at *
 have hwx:w.heap.size≤px:=by omega
 obtain⟨⟨x0,x1,x2,x3⟩,-⟩:=cellsR m2
 obtain⟨⟨y0,y1,y2,y3⟩,-⟩:=cellsR n2
 obtain⟨⟨u0,u1,u2,u3⟩,uf⟩:=cellsR hx
 obtain⟨⟨v0,v1,v2,v3⟩,vf⟩:=cellsR hy
 have uf0:=uf 0
 have uf1:=uf 1
 have uf2:=uf 2
 have uf3:=uf 3
 have vf0:=vf 0
 have vf1:=vf 1
 have vf2:=vf 2
 have vf3:=vf 3
 have e1:p1≠px:=by omega
 have e2:p1≠px+1:=by omega
 have e3:p2≠px:=by omega
 have e4:p2≠px+1:=by omega
 have HBw:Hid (Below w.heap.size w W2∧w.heap.size≤px):=⟨hbw,hwx⟩
 have HX2:Hid (W2.heap[px]?=some (.cells Z4 54 (0,0))∧W2.heap[px+1]?=some (.cells Z4 54 (0,0))∧Below w.heap.size w W2∧w.heap.size≤px):=⟨hx,hy,hbw,hwx⟩
 clear hx hy m2 n2 uf vf hbw hlt2 hl1 hwx hpx hp1 hp2 hW2
 clear HA HB HBw
 cases ka<;>cases kb
 all_goals
  go_region
  all_goals
   (first | refine fin8q HX2.out.1 HX2.out.2.1 (by omega) HX2.out.2.2.1 HX2.out.2.2.2 (by have:=HX2.out.2.2.2;omega) (Q:=Exit.then _ _ _ _) ?_ | refine fin8q HX2.out.2.1 HX2.out.1 (by omega) HX2.out.2.2.1 (by have:=HX2.out.2.2.2;omega) HX2.out.2.2.2 (Q:=Exit.then _ _ _ _) ?_)
   clear x0 x1 x2 x3 y0 y1 y2 y3 u0 u1 u2 u3 v0 v1 v2 v3 uf0 uf1 uf2 uf3 vf0 vf1 vf2 vf3
   intro w3 g1 g2 hb3
   obtain⟨⟨k0,k1,k2,k3⟩,-⟩:=cellsR g1
   obtain⟨⟨j0,j1,j2,j3⟩,-⟩:=cellsR g2
   go_wp2_with fail
   first
   | exact bodyPost_ret (v:=.tuple #[RV fa,RV fb,.bool true]) (by simp [results,Tryz.results84,go_sem,k0,k1,k2,k3,j0,j1,j2,j3]) rfl ⟨rfl,hb3⟩
   | exact bodyPost_ret (v:=.tuple #[RV fa,RV fb,.bool false]) (by simp [results,Tryz.results84,go_sem,k0,k1,k2,k3,j0,j1,j2,j3]) rfl ⟨rfl,hb3⟩
end Go.Proofs.YtgifkepklnhddaaGreatDoor.fm
namespace Go.Proofs.YtgifkepklnhddaaGreatDoor.fm
def rwO:Option ByteArray→Value
 | some s=>.tuple #[.string s,.int .i64 0]
 | none=>.tuple #[.string nul,.int .i64 4]
end Go.Proofs.YtgifkepklnhddaaGreatDoor.fm
namespace Go.Proofs.YtgifkepklnhddaaGreatDoor.ps
open Go.RowKit
open adr (C isC ckc)
theorem WS.sets {w:World} {bf:Nat} {f:Fl} {v:Value} {ys:List Fl} {wx:World} (h:WS w bf f v ys wx) (s:ByteArray):WS w bf ⟨f.c,f.r,s⟩ v ys (wx.setCell ⟨bf,2,none⟩ (.string s)):=by
 have h1:=fm.blk_set (o:=2) (u:=.string s) h.box
 refine⟨⟨h.own.1,?_⟩,h.ne,by simpa using h1,h.le,h.below.setCell h.le _⟩
 rcases h.own.2 with h0 | ⟨g,cap,cur,e1,e2,hg,h4⟩
 ·exact .inl h0
 ·have hne:g≠bf:=fun e=>h.ne (by rw [e1,e];rfl)
  exact .inr ⟨g,cap,cur,e1,e2,(Below.heap_setCell _ _ _ _ hne).trans hg,h4⟩
theorem cells3f {W:World} {b:Nat} {a0 a1 a2:Value} {t:TypeId} (h:W.heap[b]?=some (.cells #[a0,a1,a2] t (0,0))):(W.cell? ⟨b,0,none⟩=some a0∧W.cell? ⟨b,1,none⟩=some a1∧W.cell? ⟨b,2,none⟩=some a2)∧∀ o,W.frozen? ⟨b,o,none⟩=false:=by
 refine⟨by simp [World.cell?,h],fun o=>by simp [World.frozen?,h]⟩
theorem mem_none {res:List (Option (List Fl))} {k:Nat} (h:res[k]?=some none):none∈res:=List.mem_of_getElem? h
abbrev RewO (D:fm.Chg) (Cv:Value):Prop:=∀ (s:ByteArray) (o:Option ByteArray),s.size≠0→fm.RwS D s o→∀ wx,Calls Tryz.prog 22 #[.string s,Cv] wx fun e w'=>e=.returned (fm.rwO o)∧Below wx.heap.size wx w'
set_option maxRecDepth 100000 in
set_option maxHeartbeats 8000000 in
theorem rinsert_any (p:Option Addr) (c:Nat) (xs:List Fl) (row:Bool) (at' many:Int) (w:World) (hx:FM w p xs) (res:List (Option (List Fl))) (hres:Told xs 0→fm.okL row at' many=true→Ress (InU row at' many) xs res)
  (hrew:fm.okL row at' many=true→RewO (fm.Cw (fm.inR row at' many)) (.agg (fm.C10 2 row at' many 0 0 0 0 0 0))) :
  Calls Tryz.prog 8 #[.slice p xs.length c,.bool row,.int .i64 at',.int .i64 many] w fun e w'=>(∃ t v q,e=.returned (.tuple #[v,.int .i64 q])∧Told xs t∧ChO xs.length res (fm.okL row at' many) t v q w')∧Below w.heap.size w w':=by
 have H:Hid (Calls Tryz.prog 19 #[.slice p xs.length c] w fun e w'=>(∃ t,e=.returned (.int .i64 t)∧Told xs t)∧Below w.heap.size w w'):=rcheck_any p c xs w hx
 obtain⟨n,hn⟩:∃ n,xs.length=n:=⟨_,rfl⟩
 have HN:Hid (xs.length=n):=hn
 rw [hn] at H ⊢
 have HX:Hid (FM w p xs):=hx
 have HRS:Hid (Told xs 0→fm.okL row at' many=true→Ress (InU row at' many) xs res):=hres
 have HRW:Hid (fm.okL row at' many=true→RewO (fm.Cw (fm.inR row at' many)) (.agg (fm.C10 2 row at' many 0 0 0 0 0 0))):=hrew
 clear hx hn hres hrew
 go_enter Tryz.func8,Tryz.ntmps8
 go_upto_region 2 with (first | (go_at_call 19;refine H.out.mono ?_;rintro e w1 ⟨⟨t,rfl,hT⟩,hb⟩))
 have HT:Hid (Told xs t):=hT
 have HB:Hid (Below w.heap.size w w1):=hb
 clear hT hb H
 by_cases ht:t≠0
 ·go_wp2_with fail
  exact bodyPost_ret (v:=.tuple #[.slice none 0 0,.int .i64 t]) (by simp [results,Tryz.results8,go_sem]) rfl ⟨⟨t,_,t,rfl,HT.out,.inl ⟨ht,rfl,rfl⟩⟩,HB.out⟩
 have ht:t=0:=Classical.byContradiction ht
 subst ht
 have HI:Hid (∀ wx,Calls Tryz.prog 20 #[.bool row,.int .i64 at',.int .i64 many] wx fun e w'=>e=.returned (.bool (fm.okL row at' many))∧w'=wx):=fun wx=>fm.rspan_any row at' many wx
 go_upto_region 5 with (first | (go_at_call 20;refine (HI.out _).mono ?_;rintro e w2 ⟨rfl,hw2⟩;have hv:=hw2.symm;clear hw2;subst hv))
 clear HI
 cases hA:fm.okL row at' many with
 | false =>
  have HA:Hid (fm.okL row at' many=false):=hA
  clear hA
  go_wp2_with fail
  exact bodyPost_ret (v:=.tuple #[.slice none 0 0,.int .i64 1]) (by simp [results,Tryz.results8,go_sem]) rfl ⟨⟨0,_,1,rfl,HT.out,.inr (.inl ⟨rfl,HA.out,rfl,rfl⟩)⟩,HB.out⟩
 | true =>
 have HAT:Hid (fm.okL row at' many=true):=hA
 have HF:Hid (Fine xs):=HT.out.fine
 have HR:Hid (Ress (InU row at' many) xs res):=HRS.out HT.out hA
 have HRWt:Hid (RewO (fm.Cw (fm.inR row at' many)) (.agg (fm.C10 2 row at' many 0 0 0 0 0 0))):=HRW.out hA
 have HO1:Hid (One res):=in_one HR.out
 have hmany:0≤many∧many≤99:=by
  unfold fm.okL at hA
  simp only [Bool.and_eq_true,decide_eq_true_eq] at hA
  refine⟨hA.1.2,Int.le_trans hA.2 ?_⟩
  unfold fm.cntOf
  split<;>decide
 obtain⟨hm0,hm1⟩:=hmany
 have hn2:n≤200:=by rw [← HN.out];exact HF.out.len
 clear HRS HRW hA
 go_wp2_with fail
 go_loopw [12,13] (fun v i wr=>∃ k:Nat,i=.int .i64 k∧k≤n∧NoN res k∧(∃ p m c,v=.slice p m c)∧LV w v (flt res k) wr) (fun _ i _=>n - (intOf i).toNat)
 case atStart=>exact⟨0,rfl,Nat.zero_le _,fun i hi=>absurd hi (Nat.not_lt_zero _),⟨none,0,0,rfl⟩,⟨⟨rfl,.inl ⟨rfl,rfl⟩⟩,HB.out⟩⟩
 case round =>
  obtain⟨k,rfl,hk,hno,⟨pv,mv,cv,rfl⟩,hL⟩:=hrel
  have HL:Hid (LV w (.slice pv mv cv) (flt res k) wr):=hL
  have HNO:Hid (NoN res k):=hno
  clear hL hno
  by_cases hin:k<n
  ·have hiN:(k:Int)<(n:Int):=by omega
   have hi0:(0:Int)≤(k:Int):=by omega
   have hi200:(k:Int)≤200:=by omega
   obtain⟨⟨xc,xr,xt⟩,hx⟩:∃ x,xs[k]?=some x:=⟨_,List.getElem?_eq_getElem (by rw [HN.out];exact hin)⟩
   obtain⟨u,hu⟩:∃ u,res[k]?=some u:=⟨_,List.getElem?_eq_getElem (by rw [HR.out.len,HN.out];exact hin)⟩
   have HU:Hid (res[k]?=some u∧InU row at' many ⟨xc,xr,xt⟩ u):=⟨hu,HR.out.at' k _ _ hx hu⟩
   obtain⟨hC1,hC2,-⟩:=HF.out.cell _ (List.mem_of_getElem? hx)
   obtain⟨⟨hc1,hc2⟩,hr1,hr2⟩:=adr.isC_iff.1 hC1
   dsimp only at hc1 hc2 hr1 hr2
   have HZ:Hid (xt.size≠0):=hC2
   obtain⟨gx,ox,rfl,hgx⟩:=HX.out.at hx
   obtain⟨q0,q1,q2⟩:=FM.cells (HX.out.below HL.out.below) hx
   dsimp only at q0 q1 q2
   clear hx hu hC1 hC2
   cases row with
   | false =>
    by_cases hl:xc<at'
    ·have hg:¬ at'≤xc:=by omega
     have HY:Hid (mv1 false at' many ⟨xc,xr,xt⟩=⟨xc,xr,xt⟩):=if_pos hl
     obtain⟨o,ho,hu⟩:=HU.out.2
     rw [HY.out] at hu
     dsimp only at hu
     have HW0:Hid (WS w wr.heap.size ⟨xc,xr,xt⟩ (.slice pv mv cv) (flt res k) (wr.alloc (.cells #[.int .i64 (xc),.int .i64 (xr),.string xt] 44))):=HL.out.box ⟨xc,xr,xt⟩
     have HOU:Hid (res[k]?=some u):=HU.out.1
     have HIN:Hid (∀ wx,Calls Tryz.prog 21 #[C (xc) (xr)] wx fun e w'=>e=.returned (.bool (isC (xc) (xr)))∧Below wx.heap.size wx w'):=fun wx=>rin_any _ _ wx
     have HRO:Hid (∀ wx,Calls Tryz.prog 22 #[.string xt,.agg (fm.C10 2 false at' many 0 0 0 0 0 0)] wx fun e w'=>e=.returned (fm.rwO o)∧Below wx.heap.size wx w'):=HRWt.out xt o HZ.out ho
     clear ho HRWt HU
     go_upto_region 17 with (first | (go_at_call 21;refine (HIN.out _).mono ?_;rintro e w2 ⟨rfl,hb2⟩))
     have HW2:Hid (WS w wr.heap.size ⟨xc,xr,xt⟩ (.slice pv mv cv) (flt res k) w2):=HW0.out.next hb2
     clear HW0 hb2 HIN q0 q1 q2
     cases hI:isC (xc) (xr) with
     | false =>
      have HN4:Hid (none∈res):=mem_none (by rw [HOU.out,hu,hI];rfl)
      clear hI hu
      go_wp2_with fail
      exact bodyPost_ret (v:=.tuple #[.slice none 0 0,.int .i64 4]) (by simp [results,Tryz.results8,go_sem]) rfl ⟨⟨0,_,4,rfl,HT.out,.inr (.inr (.inl ⟨rfl,HAT.out,HN4.out,rfl,rfl⟩))⟩,HW2.out.below⟩
     | true =>
     rw [hI,if_pos rfl] at hu
     clear hI
     obtain⟨⟨z0,z1,z2⟩,zf⟩:=cells3f HW2.out.box
     cases o with
     | none =>
      have HN4:Hid (none∈res):=mem_none (by rw [HOU.out,hu];rfl)
      have HRN:Hid (∀ wx,Calls Tryz.prog 22 #[.string xt,.agg (fm.C10 2 false at' many 0 0 0 0 0 0)] wx fun e w'=>e=.returned (.tuple #[.string fm.nul,.int .i64 4])∧Below wx.heap.size wx w'):=HRO.out
      clear hu HRO
      go_wp2_with (first | (go_at_call 22;refine (HRN.out _).mono ?_;rintro e w3 ⟨rfl,hb3⟩))
      exact bodyPost_ret (v:=.tuple #[.slice none 0 0,.int .i64 4]) (by simp [results,Tryz.results8,go_sem]) rfl ⟨⟨0,_,4,rfl,HT.out,.inr (.inr (.inl ⟨rfl,HAT.out,HN4.out,rfl,rfl⟩))⟩,bnext HW2.out.below hb3 HW2.out.below.size⟩
     | some s1 =>
     have HSN:Hid (res[k]?=some (some [⟨xc,xr,s1⟩])):=by unfold Hid;rw [HOU.out,hu];rfl
     have HRN:Hid (∀ wx,Calls Tryz.prog 22 #[.string xt,.agg (fm.C10 2 false at' many 0 0 0 0 0 0)] wx fun e w'=>e=.returned (.tuple #[.string s1,.int .i64 0])∧Below wx.heap.size wx w'):=HRO.out
     clear hu HRO
     go_upto_region 22 with (first | (go_at_call 22;refine (HRN.out _).mono ?_;rintro e w3 ⟨rfl,hb3⟩))
     have HW3:Hid (WS w wr.heap.size ⟨xc,xr,s1⟩ (.slice pv mv cv) (flt res k) (w3.setCell ⟨wr.heap.size,2,none⟩ (.string s1))):=(HW2.out.next hb3).sets s1
     obtain⟨⟨y0,y1,y2⟩,yf⟩:=cells3f (HW2.out.next hb3).box
     have yf2:=yf 2
     clear z0 z1 z2 zf hb3 HW2 HRN yf
     obtain⟨p',n',c',w6,hr,hLV⟩:=HW3.out.one (Nat.le_trans (flt_len HO1.out k) (by omega)) ⟨xc,xr,s1⟩
     have HRA:Hid ((Builtin.append_ #[22,22] 22 #[.slice pv mv cv,.slice (some ⟨w3.heap.size,0,none⟩) 1 1]).run Tryz.prog ((w3.setCell ⟨wr.heap.size,2,none⟩ (.string s1)).alloc (.cells #[.int .i64 (xc),.int .i64 (xr),.string s1] 44))=.ok (.slice p' n' c') w6):=by unfold Hid;rw [show w3.heap.size=(w3.setCell ⟨wr.heap.size,2,none⟩ (.string s1)).heap.size by simp];exact hr
     have HLV:Hid (LV w (.slice p' n' c') (flt res (k+1)) w6):=by unfold Hid;rw [flt_snoc HSN.out];exact hLV
     have HNS:Hid (NoN res (k+1)):=HNO.out.snoc HSN.out
     clear hr hLV
     go_wp2_with (first | (at_builtin;refine fm.wpList_append_eq rfl _ _ 22 rfl _ _ _ _ rfl rfl HRA.out ?_))
     exact⟨⟨k+1,rfl,hin,HNS.out,⟨_,_,_,rfl⟩,HLV.out⟩,by simp [intOf];omega⟩
    ·have hg:at'≤xc:=by omega
     have HY:Hid (mv1 false at' many ⟨xc,xr,xt⟩=⟨xc+many,xr,xt⟩):=if_neg hl
     obtain⟨o,ho,hu⟩:=HU.out.2
     rw [HY.out] at hu
     dsimp only at hu
     have HW0:Hid (WS w wr.heap.size ⟨xc+many,xr,xt⟩ (.slice pv mv cv) (flt res k) (wr.alloc (.cells #[.int .i64 (xc+many),.int .i64 (xr),.string xt] 44))):=HL.out.box ⟨xc+many,xr,xt⟩
     have HOU:Hid (res[k]?=some u):=HU.out.1
     have HIN:Hid (∀ wx,Calls Tryz.prog 21 #[C (xc+many) (xr)] wx fun e w'=>e=.returned (.bool (isC (xc+many) (xr)))∧Below wx.heap.size wx w'):=fun wx=>rin_any _ _ wx
     have HRO:Hid (∀ wx,Calls Tryz.prog 22 #[.string xt,.agg (fm.C10 2 false at' many 0 0 0 0 0 0)] wx fun e w'=>e=.returned (fm.rwO o)∧Below wx.heap.size wx w'):=HRWt.out xt o HZ.out ho
     clear ho HRWt HU
     go_upto_region 17 with (first | (go_at_call 21;refine (HIN.out _).mono ?_;rintro e w2 ⟨rfl,hb2⟩))
     have HW2:Hid (WS w wr.heap.size ⟨xc+many,xr,xt⟩ (.slice pv mv cv) (flt res k) w2):=HW0.out.next hb2
     clear HW0 hb2 HIN q0 q1 q2
     cases hI:isC (xc+many) (xr) with
     | false =>
      have HN4:Hid (none∈res):=mem_none (by rw [HOU.out,hu,hI];rfl)
      clear hI hu
      go_wp2_with fail
      exact bodyPost_ret (v:=.tuple #[.slice none 0 0,.int .i64 4]) (by simp [results,Tryz.results8,go_sem]) rfl ⟨⟨0,_,4,rfl,HT.out,.inr (.inr (.inl ⟨rfl,HAT.out,HN4.out,rfl,rfl⟩))⟩,HW2.out.below⟩
     | true =>
     rw [hI,if_pos rfl] at hu
     clear hI
     obtain⟨⟨z0,z1,z2⟩,zf⟩:=cells3f HW2.out.box
     cases o with
     | none =>
      have HN4:Hid (none∈res):=mem_none (by rw [HOU.out,hu];rfl)
      have HRN:Hid (∀ wx,Calls Tryz.prog 22 #[.string xt,.agg (fm.C10 2 false at' many 0 0 0 0 0 0)] wx fun e w'=>e=.returned (.tuple #[.string fm.nul,.int .i64 4])∧Below wx.heap.size wx w'):=HRO.out
      clear hu HRO
      go_wp2_with (first | (go_at_call 22;refine (HRN.out _).mono ?_;rintro e w3 ⟨rfl,hb3⟩))
      exact bodyPost_ret (v:=.tuple #[.slice none 0 0,.int .i64 4]) (by simp [results,Tryz.results8,go_sem]) rfl ⟨⟨0,_,4,rfl,HT.out,.inr (.inr (.inl ⟨rfl,HAT.out,HN4.out,rfl,rfl⟩))⟩,bnext HW2.out.below hb3 HW2.out.below.size⟩
     | some s1 =>
     have HSN:Hid (res[k]?=some (some [⟨xc+many,xr,s1⟩])):=by unfold Hid;rw [HOU.out,hu];rfl
     have HRN:Hid (∀ wx,Calls Tryz.prog 22 #[.string xt,.agg (fm.C10 2 false at' many 0 0 0 0 0 0)] wx fun e w'=>e=.returned (.tuple #[.string s1,.int .i64 0])∧Below wx.heap.size wx w'):=HRO.out
     clear hu HRO
     go_upto_region 22 with (first | (go_at_call 22;refine (HRN.out _).mono ?_;rintro e w3 ⟨rfl,hb3⟩))
     have HW3:Hid (WS w wr.heap.size ⟨xc+many,xr,s1⟩ (.slice pv mv cv) (flt res k) (w3.setCell ⟨wr.heap.size,2,none⟩ (.string s1))):=(HW2.out.next hb3).sets s1
     obtain⟨⟨y0,y1,y2⟩,yf⟩:=cells3f (HW2.out.next hb3).box
     have yf2:=yf 2
     clear z0 z1 z2 zf hb3 HW2 HRN yf
     obtain⟨p',n',c',w6,hr,hLV⟩:=HW3.out.one (Nat.le_trans (flt_len HO1.out k) (by omega)) ⟨xc+many,xr,s1⟩
     have HRA:Hid ((Builtin.append_ #[22,22] 22 #[.slice pv mv cv,.slice (some ⟨w3.heap.size,0,none⟩) 1 1]).run Tryz.prog ((w3.setCell ⟨wr.heap.size,2,none⟩ (.string s1)).alloc (.cells #[.int .i64 (xc+many),.int .i64 (xr),.string s1] 44))=.ok (.slice p' n' c') w6):=by unfold Hid;rw [show w3.heap.size=(w3.setCell ⟨wr.heap.size,2,none⟩ (.string s1)).heap.size by simp];exact hr
     have HLV:Hid (LV w (.slice p' n' c') (flt res (k+1)) w6):=by unfold Hid;rw [flt_snoc HSN.out];exact hLV
     have HNS:Hid (NoN res (k+1)):=HNO.out.snoc HSN.out
     clear hr hLV
     go_wp2_with (first | (at_builtin;refine fm.wpList_append_eq rfl _ _ 22 rfl _ _ _ _ rfl rfl HRA.out ?_))
     exact⟨⟨k+1,rfl,hin,HNS.out,⟨_,_,_,rfl⟩,HLV.out⟩,by simp [intOf];omega⟩
   | true =>
    by_cases hl:xr<at'
    ·have hg:¬ at'≤xr:=by omega
     have HY:Hid (mv1 true at' many ⟨xc,xr,xt⟩=⟨xc,xr,xt⟩):=if_pos hl
     obtain⟨o,ho,hu⟩:=HU.out.2
     rw [HY.out] at hu
     dsimp only at hu
     have HW0:Hid (WS w wr.heap.size ⟨xc,xr,xt⟩ (.slice pv mv cv) (flt res k) (wr.alloc (.cells #[.int .i64 (xc),.int .i64 (xr),.string xt] 44))):=HL.out.box ⟨xc,xr,xt⟩
     have HOU:Hid (res[k]?=some u):=HU.out.1
     have HIN:Hid (∀ wx,Calls Tryz.prog 21 #[C (xc) (xr)] wx fun e w'=>e=.returned (.bool (isC (xc) (xr)))∧Below wx.heap.size wx w'):=fun wx=>rin_any _ _ wx
     have HRO:Hid (∀ wx,Calls Tryz.prog 22 #[.string xt,.agg (fm.C10 2 true at' many 0 0 0 0 0 0)] wx fun e w'=>e=.returned (fm.rwO o)∧Below wx.heap.size wx w'):=HRWt.out xt o HZ.out ho
     clear ho HRWt HU
     go_upto_region 17 with (first | (go_at_call 21;refine (HIN.out _).mono ?_;rintro e w2 ⟨rfl,hb2⟩))
     have HW2:Hid (WS w wr.heap.size ⟨xc,xr,xt⟩ (.slice pv mv cv) (flt res k) w2):=HW0.out.next hb2
     clear HW0 hb2 HIN q0 q1 q2
     cases hI:isC (xc) (xr) with
     | false =>
      have HN4:Hid (none∈res):=mem_none (by rw [HOU.out,hu,hI];rfl)
      clear hI hu
      go_wp2_with fail
      exact bodyPost_ret (v:=.tuple #[.slice none 0 0,.int .i64 4]) (by simp [results,Tryz.results8,go_sem]) rfl ⟨⟨0,_,4,rfl,HT.out,.inr (.inr (.inl ⟨rfl,HAT.out,HN4.out,rfl,rfl⟩))⟩,HW2.out.below⟩
     | true =>
     rw [hI,if_pos rfl] at hu
     clear hI
     obtain⟨⟨z0,z1,z2⟩,zf⟩:=cells3f HW2.out.box
     cases o with
     | none =>
      have HN4:Hid (none∈res):=mem_none (by rw [HOU.out,hu];rfl)
      have HRN:Hid (∀ wx,Calls Tryz.prog 22 #[.string xt,.agg (fm.C10 2 true at' many 0 0 0 0 0 0)] wx fun e w'=>e=.returned (.tuple #[.string fm.nul,.int .i64 4])∧Below wx.heap.size wx w'):=HRO.out
      clear hu HRO
      go_wp2_with (first | (go_at_call 22;refine (HRN.out _).mono ?_;rintro e w3 ⟨rfl,hb3⟩))
      exact bodyPost_ret (v:=.tuple #[.slice none 0 0,.int .i64 4]) (by simp [results,Tryz.results8,go_sem]) rfl ⟨⟨0,_,4,rfl,HT.out,.inr (.inr (.inl ⟨rfl,HAT.out,HN4.out,rfl,rfl⟩))⟩,bnext HW2.out.below hb3 HW2.out.below.size⟩
     | some s1 =>
     have HSN:Hid (res[k]?=some (some [⟨xc,xr,s1⟩])):=by unfold Hid;rw [HOU.out,hu];rfl
     have HRN:Hid (∀ wx,Calls Tryz.prog 22 #[.string xt,.agg (fm.C10 2 true at' many 0 0 0 0 0 0)] wx fun e w'=>e=.returned (.tuple #[.string s1,.int .i64 0])∧Below wx.heap.size wx w'):=HRO.out
     clear hu HRO
     go_upto_region 22 with (first | (go_at_call 22;refine (HRN.out _).mono ?_;rintro e w3 ⟨rfl,hb3⟩))
     have HW3:Hid (WS w wr.heap.size ⟨xc,xr,s1⟩ (.slice pv mv cv) (flt res k) (w3.setCell ⟨wr.heap.size,2,none⟩ (.string s1))):=(HW2.out.next hb3).sets s1
     obtain⟨⟨y0,y1,y2⟩,yf⟩:=cells3f (HW2.out.next hb3).box
     have yf2:=yf 2
     clear z0 z1 z2 zf hb3 HW2 HRN yf
     obtain⟨p',n',c',w6,hr,hLV⟩:=HW3.out.one (Nat.le_trans (flt_len HO1.out k) (by omega)) ⟨xc,xr,s1⟩
     have HRA:Hid ((Builtin.append_ #[22,22] 22 #[.slice pv mv cv,.slice (some ⟨w3.heap.size,0,none⟩) 1 1]).run Tryz.prog ((w3.setCell ⟨wr.heap.size,2,none⟩ (.string s1)).alloc (.cells #[.int .i64 (xc),.int .i64 (xr),.string s1] 44))=.ok (.slice p' n' c') w6):=by unfold Hid;rw [show w3.heap.size=(w3.setCell ⟨wr.heap.size,2,none⟩ (.string s1)).heap.size by simp];exact hr
     have HLV:Hid (LV w (.slice p' n' c') (flt res (k+1)) w6):=by unfold Hid;rw [flt_snoc HSN.out];exact hLV
     have HNS:Hid (NoN res (k+1)):=HNO.out.snoc HSN.out
     clear hr hLV
     go_wp2_with (first | (at_builtin;refine fm.wpList_append_eq rfl _ _ 22 rfl _ _ _ _ rfl rfl HRA.out ?_))
     exact⟨⟨k+1,rfl,hin,HNS.out,⟨_,_,_,rfl⟩,HLV.out⟩,by simp [intOf];omega⟩
    ·have hg:at'≤xr:=by omega
     have HY:Hid (mv1 true at' many ⟨xc,xr,xt⟩=⟨xc,xr+many,xt⟩):=if_neg hl
     obtain⟨o,ho,hu⟩:=HU.out.2
     rw [HY.out] at hu
     dsimp only at hu
     have HW0:Hid (WS w wr.heap.size ⟨xc,xr+many,xt⟩ (.slice pv mv cv) (flt res k) (wr.alloc (.cells #[.int .i64 (xc),.int .i64 (xr+many),.string xt] 44))):=HL.out.box ⟨xc,xr+many,xt⟩
     have HOU:Hid (res[k]?=some u):=HU.out.1
     have HIN:Hid (∀ wx,Calls Tryz.prog 21 #[C (xc) (xr+many)] wx fun e w'=>e=.returned (.bool (isC (xc) (xr+many)))∧Below wx.heap.size wx w'):=fun wx=>rin_any _ _ wx
     have HRO:Hid (∀ wx,Calls Tryz.prog 22 #[.string xt,.agg (fm.C10 2 true at' many 0 0 0 0 0 0)] wx fun e w'=>e=.returned (fm.rwO o)∧Below wx.heap.size wx w'):=HRWt.out xt o HZ.out ho
     clear ho HRWt HU
     go_upto_region 17 with (first | (go_at_call 21;refine (HIN.out _).mono ?_;rintro e w2 ⟨rfl,hb2⟩))
     have HW2:Hid (WS w wr.heap.size ⟨xc,xr+many,xt⟩ (.slice pv mv cv) (flt res k) w2):=HW0.out.next hb2
     clear HW0 hb2 HIN q0 q1 q2
     cases hI:isC (xc) (xr+many) with
     | false =>
      have HN4:Hid (none∈res):=mem_none (by rw [HOU.out,hu,hI];rfl)
      clear hI hu
      go_wp2_with fail
      exact bodyPost_ret (v:=.tuple #[.slice none 0 0,.int .i64 4]) (by simp [results,Tryz.results8,go_sem]) rfl ⟨⟨0,_,4,rfl,HT.out,.inr (.inr (.inl ⟨rfl,HAT.out,HN4.out,rfl,rfl⟩))⟩,HW2.out.below⟩
     | true =>
     rw [hI,if_pos rfl] at hu
     clear hI
     obtain⟨⟨z0,z1,z2⟩,zf⟩:=cells3f HW2.out.box
     cases o with
     | none =>
      have HN4:Hid (none∈res):=mem_none (by rw [HOU.out,hu];rfl)
      have HRN:Hid (∀ wx,Calls Tryz.prog 22 #[.string xt,.agg (fm.C10 2 true at' many 0 0 0 0 0 0)] wx fun e w'=>e=.returned (.tuple #[.string fm.nul,.int .i64 4])∧Below wx.heap.size wx w'):=HRO.out
      clear hu HRO
      go_wp2_with (first | (go_at_call 22;refine (HRN.out _).mono ?_;rintro e w3 ⟨rfl,hb3⟩))
      exact bodyPost_ret (v:=.tuple #[.slice none 0 0,.int .i64 4]) (by simp [results,Tryz.results8,go_sem]) rfl ⟨⟨0,_,4,rfl,HT.out,.inr (.inr (.inl ⟨rfl,HAT.out,HN4.out,rfl,rfl⟩))⟩,bnext HW2.out.below hb3 HW2.out.below.size⟩
     | some s1 =>
     have HSN:Hid (res[k]?=some (some [⟨xc,xr+many,s1⟩])):=by unfold Hid;rw [HOU.out,hu];rfl
     have HRN:Hid (∀ wx,Calls Tryz.prog 22 #[.string xt,.agg (fm.C10 2 true at' many 0 0 0 0 0 0)] wx fun e w'=>e=.returned (.tuple #[.string s1,.int .i64 0])∧Below wx.heap.size wx w'):=HRO.out
     clear hu HRO
     go_upto_region 22 with (first | (go_at_call 22;refine (HRN.out _).mono ?_;rintro e w3 ⟨rfl,hb3⟩))
     have HW3:Hid (WS w wr.heap.size ⟨xc,xr+many,s1⟩ (.slice pv mv cv) (flt res k) (w3.setCell ⟨wr.heap.size,2,none⟩ (.string s1))):=(HW2.out.next hb3).sets s1
     obtain⟨⟨y0,y1,y2⟩,yf⟩:=cells3f (HW2.out.next hb3).box
     have yf2:=yf 2
     clear z0 z1 z2 zf hb3 HW2 HRN yf
     obtain⟨p',n',c',w6,hr,hLV⟩:=HW3.out.one (Nat.le_trans (flt_len HO1.out k) (by omega)) ⟨xc,xr+many,s1⟩
     have HRA:Hid ((Builtin.append_ #[22,22] 22 #[.slice pv mv cv,.slice (some ⟨w3.heap.size,0,none⟩) 1 1]).run Tryz.prog ((w3.setCell ⟨wr.heap.size,2,none⟩ (.string s1)).alloc (.cells #[.int .i64 (xc),.int .i64 (xr+many),.string s1] 44))=.ok (.slice p' n' c') w6):=by unfold Hid;rw [show w3.heap.size=(w3.setCell ⟨wr.heap.size,2,none⟩ (.string s1)).heap.size by simp];exact hr
     have HLV:Hid (LV w (.slice p' n' c') (flt res (k+1)) w6):=by unfold Hid;rw [flt_snoc HSN.out];exact hLV
     have HNS:Hid (NoN res (k+1)):=HNO.out.snoc HSN.out
     clear hr hLV
     go_wp2_with (first | (at_builtin;refine fm.wpList_append_eq rfl _ _ 22 rfl _ _ _ _ rfl rfl HRA.out ?_))
     exact⟨⟨k+1,rfl,hin,HNS.out,⟨_,_,_,rfl⟩,HLV.out⟩,by simp [intOf];omega⟩
  ·have hin':¬ (k:Int)<(n:Int):=by omega
   have e:k=n:=by omega
   subst e
   have HNA:Hid (none ∉ res):=NoN.all (by rw [HR.out.len,HN.out];exact HNO.out)
   have HSR:Hid (sortR (flt res k)=flt res k):=by
    have:=in_srt hm0 HR.out HF.out.srt
    rw [HN.out] at this
    exact (srt_same this (sortR_srt this.dst) (sortR_perm _)).symm
   have HYL:Hid ((flt res k).length≤200):=Nat.le_trans (flt_len HO1.out k) hn2
   have HYS:Hid (∀ v w',(∃ p c,v=Value.slice p (flt res k).length c∧FM w' p (flt res k))→ChO k res (fm.okL row at' many) 0 v 0 w'):=fun v w' h=>.inr (.inr (.inr ⟨rfl,HAT.out,HNA.out,rfl,h⟩))
   generalize flt res k=ys at *
   obtain⟨m,hm⟩:∃ m,ys.length=m:=⟨_,rfl⟩
   have HYN:Hid (ys.length=m):=hm
   rw [hm] at HYS HYL
   clear hm
   obtain⟨p4,c4,e4,-⟩:=FB.shape (own_base HL.out.own (Nat.zero_le _))
   injection e4 with e5 e6 e7
   rw [HYN.out] at e6
   subst e5 e6 e7
   have HC:Hid (Calls Tryz.prog 23 #[.slice pv mv cv] wr fun e w'=>(∃ q d,e=.returned (.slice q mv d)∧FM w' q ys)∧Below wr.heap.size wr w'):=by
    have h:=rsorted_any pv cv ys wr ((TW.start HL.out).fm rfl) (by rw [HYN.out];exact HYL.out)
    rw [HYN.out,HSR.out] at h
    exact h
   go_wp2_with (first | (go_at_call 23;refine HC.out.mono ?_;rintro e w5 ⟨⟨p',c',rfl,hM⟩,hb5⟩))
   exact bodyPost_ret (v:=.tuple #[.slice p' mv c',.int .i64 0]) (by simp [results,Tryz.results8,go_sem]) rfl ⟨⟨0,_,0,rfl,HT.out,HYS.out _ _ ⟨p',c',rfl,hM⟩⟩,bnext HL.out.below hb5 HL.out.below.size⟩
end Go.Proofs.YtgifkepklnhddaaGreatDoor.ps
namespace Go.Proofs.YtgifkepklnhddaaGreatDoor.ps
open Go.RowKit
open adr (C isC ckc)
open fm (fv)
abbrev CLO (br ba bm:Nat):Array Value:=#[fv 25 #[ptr ba,ptr bm],fv 26 #[ptr br,ptr ba,ptr bm]]
structure CK (w:World) (xs:List Fl) (p:Option Addr) (br ba bm:Nat) (row:Bool) (at' many:Int) (w1:World):Prop where
 hm:FM w1 p xs
 ln:LN (w.alloc (.cells (CLO br ba bm) 62)) xs.length xs xs.length w1
 cb:w1.heap[w.heap.size]?=some (.cells (CLO br ba bm) 62 (0,0))
 env:fm.EnvW w1
 c1:w1.cell? ⟨br,0,none⟩=some (.bool row)
 c2:w1.cell? ⟨ba,0,none⟩=some (.int .i64 at')
 c3:w1.cell? ⟨bm,0,none⟩=some (.int .i64 many)
 l1:br<w1.heap.size
 l2:ba<w1.heap.size
 l3:bm<w1.heap.size
 below:Below w.heap.size w w1
theorem CK.next {w:World} {xs:List Fl} {p:Option Addr} {br ba bm:Nat} {row:Bool} {at' many:Int} {w1 w2:World} (h:CK w xs p br ba bm row at' many w1) (hb:Below w1.heap.size w1 w2):CK w xs p br ba bm row at' many w2 :=
 ⟨h.hm.below hb,h.ln.next hb,(hb.block _ (fm.lt_blk h.cb)).trans h.cb,h.env.next hb,(hb.cell (p:=⟨br,0,none⟩) h.l1).trans h.c1,(hb.cell (p:=⟨ba,0,none⟩) h.l2).trans h.c2,(hb.cell (p:=⟨bm,0,none⟩) h.l3).trans h.c3,Nat.lt_of_lt_of_le h.l1 hb.size,Nat.lt_of_lt_of_le h.l2 hb.size,Nat.lt_of_lt_of_le h.l3 hb.size,bnext h.below hb h.below.size⟩
theorem CK.clo {w:World} {xs:List Fl} {p:Option Addr} {br ba bm:Nat} {row:Bool} {at' many:Int} {w1:World} (h:CK w xs p br ba bm row at' many w1):w1.cell? ⟨w.heap.size,0,none⟩=some (fv 25 #[ptr ba,ptr bm])∧w1.cell? ⟨w.heap.size,1,none⟩=some (fv 26 #[ptr br,ptr ba,ptr bm]):=fm.cells2 h.cb
abbrev LG (wb:World) (cb bf ba bm:Nat) (xc xr at' many:Int) (wx:World):Prop:=wx.cell? ⟨cb,0,none⟩=some (fv 25 #[ptr ba,ptr bm])∧wx.cell? ⟨bf,0,none⟩=some (.int .i64 xc)∧wx.cell? ⟨bf,1,none⟩=some (.int .i64 xr)∧wx.cell? ⟨ba,0,none⟩=some (.int .i64 at')∧wx.cell? ⟨bm,0,none⟩=some (.int .i64 many)∧Below wb.heap.size wb wx
theorem lgb {wb:World} {cb bf ba bm:Nat} {xc xr at' many:Int} {wx:World} (h:LG wb cb bf ba bm xc xr at' many wx):Below wb.heap.size wb wx:=h.2.2.2.2.2
theorem lg3 {wb:World} {cb bf ba bm:Nat} {xc xr at' many:Int} {wx:World} (h:LG wb cb bf ba bm xc xr at' many wx):wx.cell? ⟨ba,0,none⟩=some (.int .i64 at'):=h.2.2.2.1
theorem lg4 {wb:World} {cb bf ba bm:Nat} {xc xr at' many:Int} {wx:World} (h:LG wb cb bf ba bm xc xr at' many wx):wx.cell? ⟨bm,0,none⟩=some (.int .i64 many):=h.2.2.2.2.1
theorem lg_on {wb:World} {cb bf ba bm:Nat} {xc xr at' many:Int} (h:LG wb cb bf ba bm xc xr at' many wb) (h1:cb<wb.heap.size) (h2:bf<wb.heap.size) (h3:ba<wb.heap.size) (h4:bm<wb.heap.size) (wx:World) (hb:Below wb.heap.size wb wx):LG wb cb bf ba bm xc xr at' many wx :=
 ⟨(hb.cell (p:=⟨cb,0,none⟩) h1).trans h.1,(hb.cell (p:=⟨bf,0,none⟩) h2).trans h.2.1,(hb.cell (p:=⟨bf,1,none⟩) h2).trans h.2.2.1,(hb.cell (p:=⟨ba,0,none⟩) h3).trans h.2.2.2.1,(hb.cell (p:=⟨bm,0,none⟩) h4).trans h.2.2.2.2.1,hb⟩
def ln1 (at' many l:Int):Int:=if l<at' then l else l+many
theorem mv1_ln (row:Bool) (at' many xc xr:Int) (xt:ByteArray):mv1 row at' many ⟨xc,xr,xt⟩=⟨inC row xc (ln1 at' many (lnO row xc xr)),inR row xr (ln1 at' many (lnO row xc xr)),xt⟩:=by
 cases row<;>simp [mv1,inC,inR,ln1,lnO]<;>split<;>rfl
theorem ln1_pos {row:Bool} {at' many c r:Int} (h:isC c r=true) (h0:0≤many):ln1 at' many (lnO row c r)≠0:=by
 obtain⟨⟨h1,h2⟩,h3,h4⟩:=adr.isC_iff.1 h
 unfold ln1 lnO
 cases row<;>simp<;>split<;>omega
theorem lnO_rng {row:Bool} {c r:Int} (h:isC c r=true):0≤lnO row c r∧lnO row c r≤1000:=by
 obtain⟨⟨h1,h2⟩,h3,h4⟩:=adr.isC_iff.1 h
 unfold lnO
 cases row<;>simp<;>omega
theorem pw_two (o:Option ByteArray):∃ S V,fm.pwO o=.tuple #[.string S,V]∧((o=some S∧V=.nilIface)∨(o=none∧V=.iface 100 (.int .i64 4))):=by
 cases o with
 | none=>exact⟨_,_,rfl,.inr ⟨rfl,rfl⟩⟩
 | some s=>exact⟨_,_,rfl,.inl ⟨rfl,rfl⟩⟩
set_option maxRecDepth 100000 in
set_option maxHeartbeats 8000000 in
theorem changed_ins (p:Option Addr) (c:Nat) (xs:List Fl) (row:Bool) (at' many:Int) (br ba bm:Nat) (w:World) (hx:FM w p xs) (hE:EnvP w) (hW:fm.EnvW w) (res:List (Option (List Fl))) (hres:Told xs 0→fm.okL row at' many=true→Ress (InU row at' many) xs res)
  (l1:br<w.heap.size) (l2:ba<w.heap.size) (l3:bm<w.heap.size) (c1:w.cell? ⟨br,0,none⟩=some (.bool row)) (c2:w.cell? ⟨ba,0,none⟩=some (.int .i64 at')) (c3:w.cell? ⟨bm,0,none⟩=some (.int .i64 many)) :
  Calls Tryz.prog 24 #[.slice p xs.length c,.bool row,.int .i64 at',.int .i64 many,.agg (CLO br ba bm)] w fun e w'=>(∃ t v q,e=.returned (.tuple #[v,errV q])∧Told xs t∧ChO xs.length res (fm.okL row at' many) t v q w')∧Below w.heap.size w w':=by
 have hb0:Below w.heap.size w (w.alloc (.cells (CLO br ba bm) 62)):=(Below.refl _ _).alloc (Nat.le_refl _) _
 have hcb:=fm.blk_new w (.cells (CLO br ba bm) 62)
 have hFo:=formulas_nd p c xs (w.alloc (.cells (CLO br ba bm) 62)) (hx.below hb0) (hE.below hb0 hE.size)
 obtain⟨n,hn⟩:∃ n,xs.length=n:=⟨_,rfl⟩
 have HN:Hid (xs.length=n):=hn
 rw [hn] at hFo ⊢
 have H:Hid (Calls Tryz.prog 53 #[.slice p n c] (w.alloc (.cells (CLO br ba bm) 62)) fun e w'=>(∃ vl t,e=.returned (.tuple #[vl,errV t])∧Told xs t∧(t=0→vl=.slice (some ⟨(w.alloc (.cells (CLO br ba bm) 62)).heap.size,0,none⟩) n n∧LN (w.alloc (.cells (CLO br ba bm) 62)) n xs n w'))∧Below (w.alloc (.cells (CLO br ba bm) 62)).heap.size (w.alloc (.cells (CLO br ba bm) 62)) w'):=hFo
 have HRS:Hid (Told xs 0→fm.okL row at' many=true→Ress (InU row at' many) xs res):=hres
 have HCK:Hid (∀ w1,LN (w.alloc (.cells (CLO br ba bm) 62)) n xs n w1→Below (w.alloc (.cells (CLO br ba bm) 62)).heap.size (w.alloc (.cells (CLO br ba bm) 62)) w1→CK w xs p br ba bm row at' many w1):=fun w1 hl hb=>by
  have hb':=bnext hb0 hb hb0.size
  exact⟨hx.below hb',by rw [hn];exact hl,(hb.block _ (fm.lt_blk hcb)).trans hcb,hW.next hb',(hb'.cell (p:=⟨br,0,none⟩) l1).trans c1,(hb'.cell (p:=⟨ba,0,none⟩) l2).trans c2,(hb'.cell (p:=⟨bm,0,none⟩) l3).trans c3,Nat.lt_of_lt_of_le l1 hb'.size,Nat.lt_of_lt_of_le l2 hb'.size,Nat.lt_of_lt_of_le l3 hb'.size,hb'⟩
 have HB0:Hid (Below w.heap.size w (w.alloc (.cells (CLO br ba bm) 62))):=hb0
 clear hx hn hres hFo hb0 hcb l1 l2 l3 c1 c2 c3 hE hW
 go_enter Tryz.func24,Tryz.ntmps24
 go_upto_region 2 with (first | (go_at_call 53;refine H.out.mono ?_;rintro e w1 ⟨⟨vl,t,rfl,hT,hL⟩,hb⟩;obtain⟨ev,hev⟩:∃ ev,errV t=ev:=⟨_,rfl⟩;rw [hev]))
 have HT:Hid (Told xs t):=hT
 have HB:Hid (Below w.heap.size w w1):=bnext HB0.out hb HB0.out.size
 by_cases ht:t≠0
 ·have e1:ev=.iface 100 (.int .i64 t):=by rw [← hev,errV_some ht]
  have HV:Hid (errV t=.iface 100 (.int .i64 t)):=errV_some ht
  subst e1
  clear hT hL hb H hev HCK HB0
  go_wp2_with fail
  exact bodyPost_ret (v:=.tuple #[.slice none 0 0,.iface 100 (.int .i64 t)]) (by simp [results,Tryz.results24,go_sem]) rfl ⟨⟨t,_,t,by rw [HV.out],HT.out,.inl ⟨ht,rfl,rfl⟩⟩,HB.out⟩
 have ht:t=0:=Classical.byContradiction ht
 subst ht
 have e1:ev=.nilIface:=by rw [← hev];rfl
 subst e1
 obtain⟨rfl,hLN⟩:=hL rfl
 have HC1:Hid (CK w xs p br ba bm row at' many w1):=HCK.out w1 hLN hb
 clear hT hb H hev HCK HB0 hLN hL
 have HI:Hid (∀ wx,Calls Tryz.prog 54 #[.bool row,.int .i64 at',.int .i64 many] wx fun e w'=>e=.returned (errV (if fm.okL row at' many=true then 0 else 1))∧Below wx.heap.size wx w'):=fun wx=>fm.clines_any row at' many wx
 cases hA:fm.okL row at' many with
 | false =>
  have HA:Hid (fm.okL row at' many=false):=hA
  have HI1:Hid (∀ wx,Calls Tryz.prog 54 #[.bool row,.int .i64 at',.int .i64 many] wx fun e w'=>e=.returned (.iface 100 (.int .i64 1))∧Below wx.heap.size wx w'):=fun wx=>by
   have h:=HI.out wx
   rw [hA] at h
   exact h
  clear hA HI
  go_wp2_with (first | (go_at_call 54;refine (HI1.out _).mono ?_;rintro e w2 ⟨rfl,hb2⟩))
  exact bodyPost_ret (v:=.tuple #[.slice none 0 0,.iface 100 (.int .i64 1)]) (by simp [results,Tryz.results24,go_sem]) rfl ⟨⟨0,_,1,rfl,HT.out,.inr (.inl ⟨rfl,HA.out,rfl,rfl⟩)⟩,bnext HB.out hb2 HB.out.size⟩
 | true =>
 have HI1:Hid (∀ wx,Calls Tryz.prog 54 #[.bool row,.int .i64 at',.int .i64 many] wx fun e w'=>e=.returned .nilIface∧Below wx.heap.size wx w'):=fun wx=>by
  have h:=HI.out wx
  rw [hA] at h
  exact h
 have HAT:Hid (fm.okL row at' many=true):=hA
 have HF:Hid (Fine xs):=HT.out.fine
 have HR:Hid (Ress (InU row at' many) xs res):=HRS.out HT.out hA
 have HO1:Hid (One res):=in_one HR.out
 have hmany:0≤many∧many≤99:=by
  unfold fm.okL at hA
  simp only [Bool.and_eq_true,decide_eq_true_eq] at hA
  refine⟨hA.1.2,Int.le_trans hA.2 ?_⟩
  unfold fm.cntOf
  split<;>decide
 obtain⟨hm0,hm1⟩:=hmany
 have hn2:n≤200:=by rw [← HN.out];exact HF.out.len
 clear HRS hA HI
 go_upto_region 7 with (first | (go_at_call 54;refine (HI1.out _).mono ?_;rintro e w2 ⟨rfl,hb2⟩))
 have HC2:Hid (CK w xs p br ba bm row at' many w2):=HC1.out.next hb2
 have HB2:Hid (Below w.heap.size w w2):=bnext HB.out hb2 HB.out.size
 clear hb2 HC1 HI1 HB
 go_wp2_with fail
 go_loopw [15,36] (fun v i wr=>∃ k:Nat,i=.int .i64 k∧k≤n∧NoN res k∧(∃ p m c,v=.slice p m c)∧LV w2 v (flt res k) wr) (fun _ i _=>n - (intOf i).toNat)
 case atStart=>exact⟨0,rfl,Nat.zero_le _,fun i hi=>absurd hi (Nat.not_lt_zero _),⟨none,0,0,rfl⟩,LV.nil w2⟩
 case round =>
  obtain⟨k,rfl,hk,hno,⟨pv,mv,cv,rfl⟩,hL⟩:=hrel
  have HL:Hid (LV w2 (.slice pv mv cv) (flt res k) wr):=hL
  have HNO:Hid (NoN res k):=hno
  clear hL hno
  by_cases hin:k<n
  ·have hiN:(k:Int)<(n:Int):=by omega
   have hi0:(0:Int)≤(k:Int):=by omega
   have hi200:(k:Int)≤200:=by omega
   obtain⟨⟨xc,xr,xt⟩,hx⟩:∃ x,xs[k]?=some x:=⟨_,List.getElem?_eq_getElem (by rw [HN.out];exact hin)⟩
   obtain⟨u,hu⟩:∃ u,res[k]?=some u:=⟨_,List.getElem?_eq_getElem (by rw [HR.out.len,HN.out];exact hin)⟩
   obtain⟨hC1,hC2,-⟩:=HF.out.cell _ (List.mem_of_getElem? hx)
   obtain⟨o,ho,hU⟩:=HR.out.at' k _ _ hx hu
   rw [mv1_ln] at hU
   have HXK:Hid (xs[k]?=some ⟨xc,xr,xt⟩):=hx
   have HCr:Hid (CK w xs p br ba bm row at' many wr):=HC2.out.next HL.out.below
   have HLR:Hid ((0≤lnO row xc xr∧lnO row xc xr≤1000)∧0≤many∧many≤1000):=⟨lnO_rng hC1,hm0,by omega⟩
   have hL0:¬ ln1 at' many (lnO row xc xr)=0:=ln1_pos hC1 hm0
   obtain⟨L,hLL⟩:∃ L,ln1 at' many (lnO row xc xr)=L:=⟨_,rfl⟩
   rw [hLL] at hU hL0
   have hL0':(L == 0)=false:=by simp [hL0]
   have HLE:Hid (ln1 at' many (lnO row xc xr)=L):=hLL
   obtain⟨yc,hyc⟩:∃ yc,inC row xc L=yc:=⟨_,rfl⟩
   obtain⟨yr,hyr⟩:∃ yr,inR row xr L=yr:=⟨_,rfl⟩
   rw [hyc,hyr] at hU
   dsimp only at hU
   have HINS:Hid (∀ wx:World,wx.cell? ⟨ba,0,none⟩=some (.int .i64 at')→wx.cell? ⟨bm,0,none⟩=some (.int .i64 many)→Calls Tryz.prog 25 #[.int .i64 (lnO row xc xr),ptr ba,ptr bm] wx fun e w'=>e=.returned (.int .i64 L)∧w'=wx):=fun wx h2 h3=>by
    have h:=fm.ins1_any (lnO row xc xr) at' many ba bm wx HLR.out.1 HLR.out.2 h2 h3
    rw [← hLL]
    exact h
   have HIL:Hid (∀ wx,Calls Tryz.prog 56 #[C xc xr,.bool row,.int .i64 L] wx fun e w'=>e=.returned (C yc yr)∧Below wx.heap.size wx w'):=by rw [← hyc,← hyr];exact fun wx=>inLine_any row xc xr L wx
   have HOU:Hid (res[k]?=some u∧u=if isC yc yr=true then o.map (fun s=>[⟨yc,yr,s⟩]) else none):=⟨hu,hU⟩
   obtain⟨S,V,hSV,hSO⟩:=pw_two o
   have HSO:Hid ((o=some S∧V=.nilIface)∨(o=none∧V=.iface 100 (.int .i64 4))):=hSO
   have HPW:Hid (∀ wx,CK w xs p br ba bm row at' many wx→∃ (k1 n1:Int) (s1:ByteArray) (ra rb:fm.Rf) (p1:Option Addr) (m1 q1:Nat),(∀ q v,(fm.N12 k1 n1 s1 ra rb (.slice p1 m1 q1))[q]?=some v→wx.cell? ⟨(w.alloc (.cells (CLO br ba bm) 62)).heap.size,k*12+q,none⟩=some v)∧∀ wy,Below wx.heap.size wx wy→Calls Tryz.prog 58 #[.string xt,fm.NV k1 n1 s1 ra rb (.slice p1 m1 q1),fv 26 #[ptr br,ptr ba,ptr bm]] wy fun e w'=>e=.returned (.tuple #[.string S,V])∧Below wy.heap.size wy w'):=fun wx hk=>by
    obtain⟨k1,n1,s1,ra,rb,p1,m1,q1,g1,g2⟩:=hk.ln.2 k _ (by rw [HN.out];exact hin) hx
    refine⟨k1,n1,s1,ra,rb,p1,m1,q1,g1,fun wy hb=>?_⟩
    have hk':=hk.next hb
    rw [← hSV]
    exact fm.prew_ins xt hC2 row at' many HAT.out o ho br ba bm wy hk'.env (P:=fun b=>(w.alloc (.cells (CLO br ba bm) 62)).heap.size<b∧b<wx.heap.size) (fun b h=>Nat.lt_of_lt_of_le h.2 hb.size) (fun he=>by
     obtain⟨T,kk,g3,g4⟩:=g2 he
     exact⟨T,kk,g3,g4.mono (fun b h=>hb.block b h.2) (fun _ h=>h)⟩) hk'.l1 hk'.l2 hk'.l3 hk'.c1 hk'.c2 hk'.c3
   obtain⟨gx,ox,rfl,hgx⟩:=HC2.out.hm.at hx
   obtain⟨q0,q1,q2⟩:=FM.cells HCr.out.hm hx
   dsimp only at q0 q1 q2
   have hWB:=HL.out.box ⟨xc,xr,xt⟩
   dsimp only at hWB
   have hal:Below wr.heap.size wr (wr.alloc (.cells #[.int .i64 xc,.int .i64 xr,.string xt] 44)):=(Below.refl _ _).alloc (Nat.le_refl _) _
   have hCb:=HCr.out.next hal
   obtain⟨⟨z0,z1,z2⟩,zf⟩:=cells3f hWB.box
   dsimp only at z0 z1 z2
   have SOF:Hid (∀ wx,Below (wr.alloc (.cells #[.int .i64 xc,.int .i64 xr,.string xt] 44)).heap.size (wr.alloc (.cells #[.int .i64 xc,.int .i64 xr,.string xt] 44)) wx→LG (wr.alloc (.cells #[.int .i64 xc,.int .i64 xr,.string xt] 44)) w.heap.size wr.heap.size ba bm xc xr at' many wx):=lg_on ⟨hCb.clo.1,z0,z1,hCb.c2,hCb.c3,Below.refl _ _⟩ (fm.lt_blk hCb.cb) (fm.lt_blk hWB.box) hCb.l2 hCb.l3
   have h0d:LG (wr.alloc (.cells #[.int .i64 xc,.int .i64 xr,.string xt] 44)) w.heap.size wr.heap.size ba bm xc xr at' many (wr.alloc (.cells #[.int .i64 xc,.int .i64 xr,.string xt] 44)).drew:=SOF.out _ (Below.refl _ _).drew
   have HWB:Hid (WS w2 wr.heap.size ⟨xc,xr,xt⟩ (.slice pv mv cv) (flt res k) (wr.alloc (.cells #[.int .i64 xc,.int .i64 xr,.string xt] 44))∧CK w xs (some ⟨gx,ox,none⟩) br ba bm row at' many (wr.alloc (.cells #[.int .i64 xc,.int .i64 xr,.string xt] 44))):=⟨hWB,hCb⟩
   clear hx hu hC1 hC2 ho hU hLL hyc hyr hSV hSO hWB hal hCb z0 z1 z2 zf HCr
   go_upto_region 11 with fail
   clear q0 q1 q2
   generalize wr.alloc (.cells #[.int .i64 xc,.int .i64 xr,.string xt] 44)=wb at *
   go_cut [18] (fun s18 wx=>s18=.int .i64 L∧Below wb.heap.size wb wx)
   case first =>
    go_region_held3 (fun wx=>LG wb w.heap.size wr.heap.size ba bm xc xr at' many wx) (first | with_reducible exact h0d | with_reducible exact SOF.out _ (by assumption) | with_reducible exact SOF.out _ (bnext (lgb (by assumption)) (by assumption) (lgb (by assumption)).size)) (first | (go_at_call 55;refine (lineOf_any row xc xr _).mono ?_;rintro e w3 ⟨rfl,hb3⟩;have hw3:=bnext (lgb (by assumption)) hb3 (lgb (by assumption)).size) | (go_at_call 25;refine (HINS.out _ (lg3 (wb:=wb) (cb:=w.heap.size) (bf:=wr.heap.size) (bm:=bm) (xc:=xc) (xr:=xr) (many:=many) (by assumption)) (lg4 (wb:=wb) (cb:=w.heap.size) (bf:=wr.heap.size) (ba:=ba) (xc:=xc) (xr:=xr) (at':=at') (by assumption))).mono ?_;rintro e w4 ⟨rfl,hw4⟩;have hv:=hw4.symm;clear hw4;subst hv))
    all_goals
     go_wp2_with fail
     go_meet
     case rel=>exact⟨rfl,by assumption⟩
   case rest =>
   obtain⟨rfl,hbc⟩:=hcut
   have HW3:Hid (WS w2 wr.heap.size ⟨xc,xr,xt⟩ (.slice pv mv cv) (flt res k) wc):=HWB.out.1.next hbc
   clear hbc HWB SOF h0d HINS HLR HLE
   obtain⟨⟨z0,z1,z2⟩,zf⟩:=cells3f HW3.out.box
   dsimp only at z0 z1 z2
   go_upto_region 14 with (first | (go_at_call 56;refine (HIL.out _).mono ?_;rintro e w3 ⟨rfl,hb3⟩;obtain⟨⟨y0,y1,y2⟩,yf⟩:=cells3f (HW3.out.next hb3).box;have yf0:=yf 0;have yf1:=yf 1))
   have hW4:=(HW3.out.next hb3).set2 yc yr
   dsimp only at hW4
   clear z0 z1 z2 zf y0 y1 y2 yf yf0 yf1 hb3 HW3 HIL hL0 hL0'
   generalize (w3.setCell ⟨wr.heap.size,0,none⟩ (.int .i64 yc)).setCell ⟨wr.heap.size,1,none⟩ (.int .i64 yr)=w4 at *
   have HW4:Hid (WS w2 wr.heap.size ⟨yc,yr,xt⟩ (.slice pv mv cv) (flt res k) w4):=hW4
   clear hW4
   obtain⟨⟨z0,z1,z2⟩,zf⟩:=cells3f HW4.out.box
   dsimp only at z0 z1 z2
   have HCh:Hid (∀ wx,Calls Tryz.prog 57 #[C yc yr] wx fun e w'=>e=.returned (ckc (isC yc yr))∧Below wx.heap.size wx w'):=fun wx=>adr.check_any yc yr wx
   cases hI:isC yc yr with
   | false =>
    have HN4:Hid (none∈res):=mem_none (by rw [HOU.out.1,HOU.out.2,hI];rfl)
    have HC0:Hid (∀ wx,Calls Tryz.prog 57 #[C yc yr] wx fun e w'=>e=.returned (.iface 100 (.int .i64 1))∧Below wx.heap.size wx w'):=fun wx=>by
     have h:=HCh.out wx
     rw [hI] at h
     exact h
    clear hI HCh
    go_wp2_with (first | (go_at_call 57;refine (HC0.out _).mono ?_;rintro e w5 ⟨rfl,hb5⟩))
    exact bodyPost_ret (v:=.tuple #[.slice none 0 0,.iface 100 (.int .i64 4)]) (by simp [results,Tryz.results24,go_sem]) rfl ⟨⟨0,_,4,rfl,HT.out,.inr (.inr (.inl ⟨rfl,HAT.out,HN4.out,rfl,rfl⟩))⟩,bnext HB2.out (bnext HW4.out.below hb5 HW4.out.below.size) HB2.out.size⟩
   | true =>
   have HOT:Hid (u=o.map (fun s=>[⟨yc,yr,s⟩])):=by
    have h:=HOU.out.2
    rw [hI,if_pos rfl] at h
    exact h
   have HC0:Hid (∀ wx,Calls Tryz.prog 57 #[C yc yr] wx fun e w'=>e=.returned .nilIface∧Below wx.heap.size wx w'):=fun wx=>by
    have h:=HCh.out wx
    rw [hI] at h
    exact h
   clear hI HCh
   go_upto_region 16 with (first | (go_at_call 57;refine (HC0.out _).mono ?_;rintro e w5 ⟨rfl,hb5⟩))
   have hW5:=HW4.out.next hb5
   have HW5:Hid (WS w2 wr.heap.size ⟨yc,yr,xt⟩ (.slice pv mv cv) (flt res k) w5):=hW5
   have hK5:=HC2.out.next hW5.below
   clear z0 z1 z2 zf HW4 HC0 hb5
   obtain⟨⟨z0,z1,z2⟩,zf⟩:=cells3f hW5.box
   dsimp only at z0 z1 z2
   obtain⟨k1,n1,s1,ra,rb,p1,m1,q1,g1,g2⟩:=HPW.out w5 hK5
   rw [World.size_alloc] at g1
   have HRW:Hid (∀ wy,Below w5.heap.size w5 wy→Calls Tryz.prog 58 #[.string xt,fm.NV k1 n1 s1 ra rb (.slice p1 m1 q1),fv 26 #[ptr br,ptr ba,ptr bm]] wy fun e w'=>e=.returned (.tuple #[.string S,V])∧Below wy.heap.size wy w'):=g2
   have x0:w5.cell? ⟨w.heap.size+1,k*12,none⟩=some (.int .i64 k1):=g1 0 _ rfl
   have x1:w5.cell? ⟨w.heap.size+1,k*12+1,none⟩=some (.int .i64 n1):=g1 1 _ rfl
   have x2:w5.cell? ⟨w.heap.size+1,k*12+2,none⟩=some (.string s1):=g1 2 _ rfl
   have x3:w5.cell? ⟨w.heap.size+1,k*12+3,none⟩=some (.int .i64 ra.c):=g1 3 _ rfl
   have x4:w5.cell? ⟨w.heap.size+1,k*12+4,none⟩=some (.int .i64 ra.r):=g1 4 _ rfl
   have x5:w5.cell? ⟨w.heap.size+1,k*12+5,none⟩=some (.bool ra.fc):=g1 5 _ rfl
   have x6:w5.cell? ⟨w.heap.size+1,k*12+6,none⟩=some (.bool ra.fr):=g1 6 _ rfl
   have x7:w5.cell? ⟨w.heap.size+1,k*12+7,none⟩=some (.int .i64 rb.c):=g1 7 _ rfl
   have x8:w5.cell? ⟨w.heap.size+1,k*12+8,none⟩=some (.int .i64 rb.r):=g1 8 _ rfl
   have x9:w5.cell? ⟨w.heap.size+1,k*12+9,none⟩=some (.bool rb.fc):=g1 9 _ rfl
   have x10:w5.cell? ⟨w.heap.size+1,k*12+10,none⟩=some (.bool rb.fr):=g1 10 _ rfl
   have x11:w5.cell? ⟨w.heap.size+1,k*12+11,none⟩=some (.slice p1 m1 q1):=g1 11 _ rfl
   obtain⟨-,cl1⟩:=hK5.clo
   clear hW5 hK5 g1 g2 HPW
   go_cut [13] (fun s13 wx=>s13=V∧WS w2 wr.heap.size ⟨yc,yr,S⟩ (.slice pv mv cv) (flt res k) wx)
   case first =>
    clear z0 z1 zf
    go_region_with (first | (go_at_call 58;refine (HRW.out _ (Below.refl _ _).drew).mono ?_;rintro e w6 ⟨rfl,hb6⟩;have hWS6:=HW5.out.next (bnext (Below.refl w5.heap.size w5).drew hb6 (Nat.le_refl _));obtain⟨⟨y0,y1,y2⟩,yf⟩:=cells3f hWS6.box;have yf2:=yf 2) | fail)
    all_goals
     go_wp2_with fail
     go_meet
     case rel=>exact⟨rfl,hWS6.sets S⟩
   case rest =>
   obtain⟨rfl,hW6⟩:=hcut
   have HW6:Hid (WS w2 wr.heap.size ⟨yc,yr,S⟩ (.slice pv mv cv) (flt res k) wc):=hW6
   obtain⟨⟨y0,y1,y2⟩,yf⟩:=cells3f hW6.box
   dsimp only at y0 y1 y2
   clear hW6 x0 x1 x2 x3 x4 x5 x6 x7 x8 x9 x10 x11 z0 z1 z2 zf cl1 HRW HW5
   rcases HSO.out with ⟨ho,hV⟩ | ⟨ho,hV⟩
   ·subst hV
    subst ho
    have HSN:Hid (res[k]?=some (some [⟨yc,yr,S⟩])):=by unfold Hid;rw [HOU.out.1,HOT.out];rfl
    obtain⟨p',n',c',w7,hr,hLV⟩:=HW6.out.one (Nat.le_trans (flt_len HO1.out k) (by omega)) ⟨yc,yr,S⟩
    have HRA:Hid ((Builtin.append_ #[22,22] 22 #[.slice pv mv cv,.slice (some ⟨wc.heap.size,0,none⟩) 1 1]).run Tryz.prog (wc.alloc (.cells #[.int .i64 yc,.int .i64 yr,.string S] 44))=.ok (.slice p' n' c') w7):=hr
    have HLV:Hid (LV w2 (.slice p' n' c') (flt res (k+1)) w7):=by unfold Hid;rw [flt_snoc HSN.out];exact hLV
    have HNS:Hid (NoN res (k+1)):=HNO.out.snoc HSN.out
    clear hr hLV
    go_wp2_with (first | (at_builtin;refine fm.wpList_append_eq rfl _ _ 22 rfl _ _ _ _ rfl rfl HRA.out ?_))
    exact⟨⟨k+1,rfl,hin,HNS.out,⟨_,_,_,rfl⟩,HLV.out⟩,by simp [intOf];omega⟩
   ·subst hV
    subst ho
    have HN4:Hid (none∈res):=mem_none (by rw [HOU.out.1,HOT.out];rfl)
    go_wp2_with fail
    exact bodyPost_ret (v:=.tuple #[.slice none 0 0,.iface 100 (.int .i64 4)]) (by simp [results,Tryz.results24,go_sem]) rfl ⟨⟨0,_,4,rfl,HT.out,.inr (.inr (.inl ⟨rfl,HAT.out,HN4.out,rfl,rfl⟩))⟩,bnext HB2.out HW6.out.below HB2.out.size⟩
  ·have hin':¬ (k:Int)<(n:Int):=by omega
   have e:k=n:=by omega
   subst e
   have HNA:Hid (none ∉ res):=NoN.all (by rw [HR.out.len,HN.out];exact HNO.out)
   obtain⟨p4,c4,e4,hf4⟩:=FB.shape (own_base HL.out.own (Nat.zero_le _))
   injection e4 with e5 e6 e7
   subst e5 e6 e7
   have HFM:Hid (FM wr pv (flt res k)):=hf4
   clear hf4
   go_wp2_with fail
   exact bodyPost_ret (v:=.tuple #[.slice pv (flt res k).length cv,.nilIface]) (by simp [results,Tryz.results24,go_sem]) rfl ⟨⟨0,_,0,rfl,HT.out,.inr (.inr (.inr ⟨rfl,HAT.out,HNA.out,rfl,_,_,rfl,HFM.out⟩))⟩,bnext HB2.out HL.out.below HB2.out.size⟩
end Go.Proofs.YtgifkepklnhddaaGreatDoor.ps
