import Derived.Test.YtgifkepklnhddaaGreatDoorQ7Fx
import Derived.Test.YtgifkepklnhddaaGreatDoorQ7Fm3
import Derived.Deep.RegionHeld3
import Derived.Test.YtgifkepklnhddaaGreatDoorQ7Qa
namespace Go.Proofs.YtgifkepklnhddaaGreatDoor.fm
open Go.RowKit
theorem Nd.twelve {w:World} {P:Nat→Prop} {v:Value} {t:T} (h:Nd w P v t):v.cells.toList.length=12:=by
 cases h;rfl
theorem cellsL_at:∀ (us:List Value),(∀ (i:Nat) u,us[i]?=some u→u.cells.toList.length=12)→∀ (i j:Nat) u,us[i]?=some u→j<12→(cellsL us)[i*12+j]?=u.cells.toList[j]?
 | [],_,i,j,u,h,_=>by simp at h
 | v::us,h12,i,j,u,h,hj=>by
  have h0:=h12 0 v rfl
  show (v.cells.toList++cellsL us)[i*12+j]?=_
  cases i with
  | zero =>
   simp at h
   subst h
   rw [List.getElem?_append_left (by omega)]
   congr 1
   omega
  | succ i =>
   rw [List.getElem?_append_right (by omega),h0,show (i+1)*12+j - 12=i*12+j from by omega]
   exact cellsL_at us (fun i u hu=>h12 (i+1) u hu) i j u h hj
theorem kid_at {w:World} {P:Nat→Prop} {p:Option Addr} {n c:Nat} {us:List Value} {ts:List T} (hk:Kids w P p n c us) (hl:us.length=ts.length) (hs:∀ (i:Nat) u t',us[i]?=some u→ts[i]?=some t'→Nd w P u t') (i:Nat) (hi:i<n) :
  ∃ g o u t',p=some ⟨g,o,none⟩∧g<w.heap.size∧us[i]?=some u∧ts[i]?=some t'∧∀ j x,u.cells.toList[j]?=some x→w.cell? ⟨g,o+i*12+j,none⟩=some x:=by
 obtain⟨h1,h2⟩:=hk
 rcases h2 with ⟨_,h3,_⟩ | ⟨g,o,h3,h4,h5,h6⟩
 ·omega
 have hi1:i<us.length:=by omega
 have hi2:i<ts.length:=by omega
 have h12:∀ (i:Nat) u,us[i]?=some u→u.cells.toList.length=12:=fun i u hu=>by
  have hj:i<us.length:=(List.getElem?_eq_some_iff.1 hu).1
  exact (hs i u _ hu (List.getElem?_eq_getElem (by omega))).twelve
 have hc:∀ j x,us[i].cells.toList[j]?=some x→w.cell? ⟨g,o+i*12+j,none⟩=some x:=fun j x hx=>by
  have hj:j<12:=by
   have:=(List.getElem?_eq_some_iff.1 hx).1
   rw [h12 i _ (List.getElem?_eq_getElem hi1)] at this
   exact this
  have:=h6 (i*12+j) x (by rw [cellsL_at us h12 i j _ (List.getElem?_eq_getElem hi1) hj];exact hx)
  rw [Nat.add_assoc];exact this
 refine⟨g,o,us[i],ts[i],h3,?_,List.getElem?_eq_getElem hi1,List.getElem?_eq_getElem hi2,hc⟩
 have hN:=hs i _ _ (List.getElem?_eq_getElem hi1) (List.getElem?_eq_getElem hi2)
 have h0:(0:Nat)<us[i].cells.toList.length:=by rw [hN.twelve];omega
 have:=hc 0 _ (List.getElem?_eq_getElem h0)
 unfold World.cell? at this
 rcases Nat.lt_or_ge g w.heap.size with h | h
 ·exact h
 ·rw [Array.getElem?_eq_none h] at this
  simp at this
end Go.Proofs.YtgifkepklnhddaaGreatDoor.fm
namespace Go.Proofs.YtgifkepklnhddaaGreatDoor.fm
open Go.RowKit
structure SB (w w1:World) (cs ds:Array Value) (wr:World):Prop where
 a:wr.heap[w1.heap.size]?=some (.cells cs 57 (0,0))
 b:wr.heap[w1.heap.size+1]?=some (.cells ds 57 (0,0))
 below:Below w.heap.size w wr
 below1:Below w1.heap.size w1 wr
theorem SB.start {w w1:World} (h:Below w.heap.size w w1) (cs ds:Array Value):SB w w1 cs ds ((w1.alloc (.cells cs 57)).alloc (.cells ds 57)):=by
 refine⟨?_,?_,(h.alloc h.size _).alloc (by simp;have:=h.size;omega) _,((Below.refl _ _).alloc (Nat.le_refl _) _).alloc (by simp) _⟩
 ·rw [Below.heap_alloc _ _ _ (by simp)];exact blk_new _ _
 ·have:=blk_new (w1.alloc (.cells cs 57)) (.cells ds 57)
  simpa using this
theorem SB.next {w w1 wr wx:World} {cs ds:Array Value} (h:SB w w1 cs ds wr) (hb:Below wr.heap.size wr wx):SB w w1 cs ds wx :=
 ⟨by rw [hb.block _ (lt_blk h.a)];exact h.a,by rw [hb.block _ (lt_blk h.b)];exact h.b,h.below.trans (hb.mono h.below.size),h.below1.trans (hb.mono h.below1.size)⟩
theorem SB.drew {w w1 wr:World} {cs ds:Array Value} (h:SB w w1 cs ds wr):SB w w1 cs ds wr.drew:=⟨h.a,h.b,h.below.drew,h.below1.drew⟩
end Go.Proofs.YtgifkepklnhddaaGreatDoor.fm
namespace Go.Proofs.YtgifkepklnhddaaGreatDoor.fm
open Go.RowKit
structure OB (w w1:World) (cs:Array Value) (wr:World):Prop where
 a:wr.heap[w1.heap.size]?=some (.cells cs 57 (0,0))
 below:Below w.heap.size w wr
 below1:Below w1.heap.size w1 wr
theorem OB.start {w w1:World} (h:Below w.heap.size w w1) (cs:Array Value):OB w w1 cs (w1.alloc (.cells cs 57)) :=
 ⟨blk_new _ _,h.alloc h.size _,(Below.refl _ _).alloc (Nat.le_refl _) _⟩
theorem OB.next {w w1 wr wx:World} {cs:Array Value} (h:OB w w1 cs wr) (hb:Below wr.heap.size wr wx):OB w w1 cs wx :=
 ⟨by rw [hb.block _ (lt_blk h.a)];exact h.a,h.below.trans (hb.mono h.below.size),h.below1.trans (hb.mono h.below1.size)⟩
theorem OB.drew {w w1 wr:World} {cs:Array Value} (h:OB w w1 cs wr):OB w w1 cs wr.drew:=⟨h.a,h.below.drew,h.below1.drew⟩
theorem cnt_take {ts:List T} {j:Nat} {t:T} (h:ts[j]?=some t):cntL (ts.take (j+1))=cntL (ts.take j)+t.cnt:=by
 rw [List.take_add_one,h,cntL_app]
 simp [cntL]
theorem cnt_take_le (ts:List T) (j:Nat):cntL (ts.take j)≤cntL ts:=by
 conv=>rhs;rw [← List.take_append_drop j ts,cntL_app]
 omega
set_option maxRecDepth 100000 in
set_option maxHeartbeats 4000000 in
theorem count_any {w:World} {P:Nat→Prop} {v:Value} {t:T} (h:Nd w P v t):Bd 9223372036854775807 t→∀ most:Nat,most≤200→∀ w1,Below w.heap.size w w1 →
  Calls Tryz.prog 128 #[v,.int .i64 (most:Nat)] w1 fun e w'=>e=.returned (.int .i64 ((min t.cnt (most+1):Nat):Int))∧Below w1.heap.size w1 w':=by
 induction h with
 | @mk k n s r t p m c us ts hk hl hs ih =>
 intro hB most hmost w1 hb1
 have hm:m=ts.length:=by rw [hk.1,hl]
 have hB1:ts.length≤9223372036854775807:=by cases hB with | mk h1 h2=>exact h1
 have hB2:∀ (i:Nat) u,ts[i]?=some u→Bd 9223372036854775807 u:=by cases hB with | mk h1 h2=>exact h2
 have hS0:=OB.start hb1 (N12 k n s r t (.slice p m c))
 rw [cnt_eq]
 clear hB
 have HK:Hid (Kids w P p m c us):=hk
 have HL:Hid (us.length=ts.length):=hl
 have HS:Hid (∀ (i:Nat) u t',us[i]?=some u→ts[i]?=some t'→Nd w P u t'):=hs
 have HI:Hid (∀ (i:Nat) u t',us[i]?=some u→ts[i]?=some t'→Bd 9223372036854775807 t'→∀ most:Nat,most≤200→∀ w1,Below w.heap.size w w1→Calls Tryz.prog 128 #[u,.int .i64 (most:Nat)] w1 fun e w'=>e=.returned (.int .i64 ((min t'.cnt (most+1):Nat):Int))∧Below w1.heap.size w1 w'):=fun i u t' h1 h2=>ih i u t' h1 h2
 have HB2:Hid (∀ (i:Nat) u,ts[i]?=some u→Bd 9223372036854775807 u):=hB2
 have HM:Hid (m=ts.length):=hm
 have hB3:m≤9223372036854775807:=by omega
 clear hl hk hs ih hB2 hB1 hm
 obtain⟨C,hC⟩:∃ C:Nat→Nat,(fun j=>min (cntL (ts.take j)+1) (most+1))=C:=⟨_,rfl⟩
 have HC:Hid ((fun j=>min (cntL (ts.take j)+1) (most+1))=C):=hC
 have hC0:(1:Int)=((C 0:Nat):Int):=by rw [← hC];simp [cntL]
 clear hC
 obtain⟨⟨a0,a1,a2,a3,a4,a5,a6,a7,a8,a9,a10,a11⟩,af⟩:=cells12 hS0.a
 go_enter Tryz.func128,Tryz.ntmps128
 go_wp2_with fail
 clear a0 a1 a2 a3 a4 a5 a6 a7 a8 a9 a10 a11 af
 generalize w1.alloc _=w2 at *
 go_loopw [5,7,11] (fun a _ i wr=>∃ j:Nat,i=.int .i64 j∧a=.int .i64 ((C j:Nat):Int)∧j≤m∧OB w w1 (N12 k n s r t (.slice p m c)) wr) (fun _ _ i _=>m - (intOf i).toNat)
 case atStart=>exact⟨0,rfl,by rw [← hC0],Nat.zero_le _,hS0⟩
 case round =>
  clear hS0 hC0
  obtain⟨j,rfl,rfl,hj,hS⟩:=hrel
  by_cases hlt:j<m
  ·obtain⟨g,o,u,t1,rfl,hg,hu,ht1,hc⟩:=kid_at HK.out HL.out HS.out j hlt
   have hN:=HS.out j u t1 hu ht1
   have hCj:C j=min (cntL (ts.take j)+1) (most+1):=by rw [← HC.out]
   have hCj1:C (j+1)=min (cntL (ts.take j)+t1.cnt+1) (most+1):=by rw [← HC.out];simp only;rw [cnt_take ht1]
   have HR:Hid (∀ wx,C j≤most→Below w.heap.size w wx→Calls Tryz.prog 128 #[u,.int .i64 ((most:Int) - (C j:Int))] wx fun e w'=>e=.returned (.int .i64 ((C (j+1):Int) - (C j:Int)))∧Below wx.heap.size wx w'):=fun wx hle hb=>by
    have:=HI.out j u t1 hu ht1 (HB2.out j t1 ht1) (most - C j) (by omega) wx hb
    rw [show ((most - C j:Nat):Int)=(most:Int) - (C j:Int) from by omega] at this
    refine this.mono ?_
    rintro e w' ⟨rfl,h2⟩
    refine⟨congrArg Ending.returned (congrArg (Value.int .i64) ?_),h2⟩
    omega
   have e1:∀ jj x,u.cells.toList[jj]?=some x→wr.cell? ⟨g,o+j*12+jj,none⟩=some x:=fun jj x hx=>by rw [hS.below.cell (p:=⟨g,_,none⟩) hg];exact hc jj x hx
   have HJ:Hid (C j=min (cntL (ts.take j)+1) (most+1)):=hCj
   have HJ1:Hid (C (j+1)=min (cntL (ts.take j)+t1.cnt+1) (most+1)):=hCj1
   have hCb:C j≤201:=by omega
   have hCb1:C (j+1)≤201:=by omega
   clear hCj hCj1 HI hc
   cases hN with
   | @mk k1 n1 s1 ra rb p1 m1 q1 us1 ts1 _ _ _ =>
   have hlt':(j:Int)<(m:Int):=by omega
   have hj':(0:Int)≤(j:Int):=by omega
   have x0:=e1 0 _ rfl
   have x1:=e1 1 _ rfl
   have x2:=e1 2 _ rfl
   have x3:=e1 3 _ rfl
   have x4:=e1 4 _ rfl
   have x5:=e1 5 _ rfl
   have x6:=e1 6 _ rfl
   have x7:=e1 7 _ rfl
   have x8:=e1 8 _ rfl
   have x9:=e1 9 _ rfl
   have x10:=e1 10 _ rfl
   have x11:=e1 11 _ rfl
   simp only [Nat.add_zero] at x0
   go_wp2_with fail
   ·go_ret
    refine⟨?_,hS.below1.alloc hS.below1.size _⟩
    have h1:=HJ.out
    have h2:=cnt_take_le ts j
    refine congrArg Ending.returned (congrArg (Value.int .i64) ?_)
    omega
   ·refine (HR.out _ (by omega) (hS.below.alloc hS.below.size _)).mono ?_
    rintro e w3 ⟨rfl,hb3⟩
    go_wp2_with fail
    exact⟨⟨j+1,by simp,congrArg (Value.int .i64) (by omega),hlt,(hS.next ((Below.refl _ _).alloc (Nat.le_refl _) _)).next hb3⟩,by simp [intOf];omega⟩
  ·have hkn:j=m:=by omega
   subst hkn
   go_wp2_with fail
   go_ret
   refine⟨?_,hS.below1⟩
   have h1:C j=min (cntL (ts.take j)+1) (most+1):=by rw [← HC.out]
   rw [List.take_of_length_le (by rw [← HM.out];exact Nat.le_refl _)] at h1
   exact congrArg Ending.returned (congrArg (Value.int .i64) (by rw [h1]))
end Go.Proofs.YtgifkepklnhddaaGreatDoor.fm
