import Derived.Test.YtgifkepklnhddaaGreatDoorQ7Je
import Derived.Test.YtgifkepklnhddaaGreatDoorQ7Num
import Derived.Test.YtgifkepklnhddaaGreatDoorQ7Int
import Derived.Test.YtgifkepklnhddaaGreatDoorQ7IsInt
import Derived.Test.YtgifkepklnhddaaGreatDoorQ7IntMul
import Derived.Test.YtgifkepklnhddaaGreatDoorQ7IntAdd
import Derived.Test.YtgifkepklnhddaaGreatDoorQ7Neg
import Derived.Deep.DeepCutAuto
import Derived.Lib.IndexBytes
import Derived.Test.YtgifkepklnhddaaGreatDoorQ7Amath
import Derived.Test.YtgifkepklnhddaaGreatDoorQ7Jd
import Derived.Deep.QuietTactic
import Derived.BigQuiet
import Derived.Test.YtgifkepklnhddaaGreatDoorQ7Fv
namespace Go.Proofs.YtgifkepklnhddaaGreatDoor.ps
open Go.RowKit
open adr (C isC ckc)
def setsAt (b o:Nat):Nat→List Value→World→World
 | _,[],w=>w
 | q,u::us,w=>setsAt b o (q+1) us (w.setCell ⟨b,o+q,none⟩ u)
theorem setsAt_blk (b o:Nat) (t:TypeId):∀ (us:List Value) (q:Nat) (w:World) (cs:Array Value),w.heap[b]?=some (.cells cs t (0,0)) →
  ∃ cs',(setsAt b o q us w).heap[b]?=some (.cells cs' t (0,0))∧cs'.size=cs.size∧(∀ j u,us[j]?=some u→o+q+j<cs.size→cs'[o+q+j]?=some u)∧(∀ x,x<o+q∨o+q+us.length≤x→cs'[x]?=cs[x]?)∧fm.Kp (·=b) w (setsAt b o q us w)
 | [],q,w,cs,h=>⟨cs,h,rfl,fun j u hu=>by simp at hu,fun _ _=>rfl,fm.Kp.refl _ _⟩
 | u::us,q,w,cs,h=>by
  have h1:=fm.blk_set (o:=o+q) (u:=u) h
  obtain⟨cs',g1,g2,g3,g4,g5⟩:=setsAt_blk b o t us (q+1) _ _ h1
  refine⟨cs',g1,by rw [g2];simp,fun j v hv hj=>?_,fun x hx=>?_,(fm.kpset w b (o+q) u).trans g5 (fun n hn=>.inl hn)⟩
  ·cases j with
   | zero =>
    have e:u=v:=by simpa using hv
    subst e
    rw [g4 (o+q+0) (.inl (by omega))]
    simp only [Nat.add_zero] at hj ⊢
    simp [hj]
   | succ j =>
    have:=g3 j v (by simpa using hv) (by simp;omega)
    rw [show o+q+(j+1)=o+(q+1)+j by omega]
    exact this
  ·rw [g4 x (by simp at hx;omega)]
   rw [Array.getElem?_setIfInBounds_ne (by simp at hx;omega)]
def NdAt (w wr:World) (j:Nat) (s:ByteArray):Prop :=
 ∃ k n z r t p m c,(∀ q u,(fm.N12 k n z r t (.slice p m c))[q]?=some u→wr.cell? ⟨w.heap.size,j*12+q,none⟩=some u)∧(eqS s=true→∃ T kk,fm.parse fm.lexP s=.ok T kk∧fm.Nd wr (fun b=>w.heap.size<b∧b<wr.heap.size) (fm.NV k n z r t (.slice p m c)) T)
def LN (w:World) (n:Nat) (xs:List Fl) (i:Nat) (wr:World):Prop:=LW w n wr∧∀ j x,j<i→xs[j]?=some x→NdAt w wr j x.s
theorem NdAt.next {w wr wx:World} {j:Nat} {s:ByteArray} (h:NdAt w wr j s) (hw:w.heap.size<wr.heap.size) (hb:Below wr.heap.size wr wx):NdAt w wx j s:=by
 obtain⟨k,n,z,r,t,p,m,c,h1,h2⟩:=h
 exact⟨k,n,z,r,t,p,m,c,fun q u hu=>(hb.cell (p:=⟨w.heap.size,j*12+q,none⟩) hw).trans (h1 q u hu),fun he=>by
  obtain⟨T,kk,h2,h3⟩:=h2 he
  exact⟨T,kk,h2,h3.mono (fun b hb'=>hb.block b hb'.2) (fun b hb'=>⟨hb'.1,Nat.lt_of_lt_of_le hb'.2 hb.size⟩)⟩⟩
theorem LN.next {w:World} {n:Nat} {xs:List Fl} {i:Nat} {wr wx:World} (h:LN w n xs i wr) (hb:Below wr.heap.size wr wx):LN w n xs i wx :=
 ⟨h.1.next hb,fun j x hj hx=>(h.2 j x hj hx).next (fm.lt_blk h.1.2.choose_spec.1) hb⟩
theorem LN.put {w:World} {n:Nat} {xs:List Fl} {i:Nat} {w2 wc:World} (h:LN w n xs i w2) {x:Fl} (hx:xs[i]?=some x) (hin:i<n) {k1 n1:Int} {s1:ByteArray} {r1 t1:fm.Rf} {p1:Option Addr} {m1 e1:Nat} (hnd:NdT x.s wc w2 (fm.NV k1 n1 s1 r1 t1 (.slice p1 m1 e1))) (hz:ckT x.s=0) (hwc:w.heap.size<wc.heap.size) :
  LN w n xs (i+1) ((((((((((((w2.setCell ⟨w.heap.size,i*12,none⟩ (.int .i64 k1)).setCell ⟨w.heap.size,i*12+1,none⟩ (.int .i64 n1)).setCell ⟨w.heap.size,i*12+2,none⟩ (.string s1)).setCell ⟨w.heap.size,i*12+3,none⟩ (.int .i64 r1.c)).setCell ⟨w.heap.size,i*12+4,none⟩ (.int .i64 r1.r)).setCell ⟨w.heap.size,i*12+5,none⟩ (.bool r1.fc)).setCell ⟨w.heap.size,i*12+6,none⟩ (.bool r1.fr)).setCell ⟨w.heap.size,i*12+7,none⟩ (.int .i64 t1.c)).setCell ⟨w.heap.size,i*12+8,none⟩ (.int .i64 t1.r)).setCell ⟨w.heap.size,i*12+9,none⟩ (.bool t1.fc)).setCell ⟨w.heap.size,i*12+10,none⟩ (.bool t1.fr)).setCell ⟨w.heap.size,i*12+11,none⟩ (.slice p1 m1 e1)):=by
 obtain⟨cs,hcs,hsz⟩:=h.1.2
 obtain⟨cs',g1,g2,g3,g4,g5⟩:=setsAt_blk w.heap.size (i*12) 57 (fm.N12 k1 n1 s1 r1 t1 (.slice p1 m1 e1)).toList 0 w2 cs hcs
 have key:∀ W,W=setsAt w.heap.size (i*12) 0 (fm.N12 k1 n1 s1 r1 t1 (.slice p1 m1 e1)).toList w2→LN w n xs (i+1) W:=by
  rintro W rfl
  refine⟨⟨?_,cs',g1,by rw [g2,hsz]⟩,fun j y hj hy=>?_⟩
  ·exact h.1.1.trans (g5.toBelow h.1.1.size (fun n hn e=>by omega))
  ·by_cases hji:j<i
   ·obtain⟨k,n',z,r,t,p,m,c,q1,q2⟩:=h.2 j y hji hy
    refine⟨k,n',z,r,t,p,m,c,fun q u hu=>?_,fun he=>by
     obtain⟨T,kk,q2,q3⟩:=q2 he
     exact⟨T,kk,q2,q3.mono (fun b hb=>g5.block b hb.2 (fun e=>by have:=hb.1;omega)) (fun b hb=>⟨hb.1,Nat.lt_of_lt_of_le hb.2 g5.size⟩)⟩⟩
    have:=q1 q u hu
    have hq:q<12:=(Array.getElem?_eq_some_iff.1 hu).1
    rw [fm.cell_blk hcs] at this
    rw [fm.cell_blk g1,g4 _ (.inl (by omega))]
    exact this
   ·obtain rfl:j=i:=by omega
    rw [hx] at hy
    injection hy with hy
    subst hy
    refine⟨k1,n1,s1,r1,t1,p1,m1,e1,fun q u hu=>?_,fun he=>by
     obtain⟨T,kk,q2,q3⟩:=hnd hz he
     exact⟨T,kk,q2,q3.mono (fun b hb=>g5.block b hb.2 (fun e=>by have:=hb.1;omega)) (fun b hb=>⟨by have:=hb.1;omega,Nat.lt_of_lt_of_le hb.2 g5.size⟩)⟩⟩
    have hq:q<12:=(Array.getElem?_eq_some_iff.1 hu).1
    rw [fm.cell_blk g1]
    have:=g3 q u (by simpa using hu) (by omega)
    simpa using this
 exact key _ rfl
set_option maxRecDepth 100000 in
set_option maxHeartbeats 8000000 in
theorem formulas_nd (p:Option Addr) (c:Nat) (xs:List Fl) (w:World) (hx:FM w p xs) (hE:EnvP w) :
  Calls Tryz.prog 53 #[.slice p xs.length c] w fun e w'=>(∃ vl t,e=.returned (.tuple #[vl,errV t])∧Told xs t∧(t=0→vl=.slice (some ⟨w.heap.size,0,none⟩) xs.length xs.length∧LN w xs.length xs xs.length w'))∧Below w.heap.size w w':=by
 obtain⟨n,hn⟩:∃ n,xs.length=n:=⟨_,rfl⟩
 have HN:Hid (xs.length=n):=hn
 rw [hn]
 have HX:Hid (FM w p xs∧EnvP w):=⟨hx,hE⟩
 clear hx hE hn
 go_enter Tryz.func53,Tryz.ntmps53
 by_cases h2:n≤200
 ·have hl:¬ (200:Int)<(n:Int):=by omega
  have hl2:(n:Int)≤200:=by omega
  have hmk:∀ W:World,(Instr.makeSlice 55 (.int .i64 (n:Int)) (.int .i64 (n:Int))).run Tryz.prog W=.ok (.slice (some ⟨W.heap.size,0,none⟩) n n) (W.alloc (.cells (zr12 n) 57)):=fun W=>make65 n (by omega) W
  go_wp2_with fail
  have HL0:Hid (LW w n (w.alloc (.cells (zr12 n) 57))):=LW.make w n
  generalize w.alloc (.cells (zr12 n) 57)=W0 at *
  clear hmk
  go_loopw [19] (fun a wr=>∃ i:Nat,a=.int .i64 i∧i≤n∧FK xs i∧LN w n xs i wr) (fun a _=>n - (intOf a).toNat)
  case atStart=>exact⟨0,rfl,Nat.zero_le _,fun j hj=>absurd hj (Nat.not_lt_zero _),HL0.out,fun j x hj=>absurd hj (Nat.not_lt_zero _)⟩
  case round =>
   obtain⟨i,rfl,hi,hF,hL⟩:=hrel
   have HK:Hid (FK xs i∧LW w n wr):=⟨hF,hL.1⟩
   have HKN:Hid (LN w n xs i wr):=hL
   clear hF hL HL0
   by_cases hin:i<n
   ·have hiN:(i:Int)<(n:Int):=by omega
    have hi0:(0:Int)≤(i:Int):=by omega
    obtain⟨x,hx⟩:∃ x,xs[i]?=some x:=⟨_,List.getElem?_eq_getElem (by rw [HN.out];exact hin)⟩
    have HXi:Hid (xs[i]?=some x):=hx
    obtain⟨gx,ox,rfl,hgx⟩:=HX.out.1.at hx
    have hfw:=HX.out.1.next HK.out.2.ahead (fun g o e=>by injection e with e;injection e with e1;rw [← e1];exact hgx)
    obtain⟨q0,q1,q2⟩:=FM.cells hfw hx
    have hbx:(wr.alloc (.cells #[.int .i64 x.c,.int .i64 x.r,.string x.s] 44)).heap[wr.heap.size]?=some (.cells #[.int .i64 x.c,.int .i64 x.r,.string x.s] 44 (0,0)):=heap_alloc_new _ _
    have HB:Hid (∀ w1,Below (wr.alloc (.cells #[.int .i64 x.c,.int .i64 x.r,.string x.s] 44)).heap.size (wr.alloc (.cells #[.int .i64 x.c,.int .i64 x.r,.string x.s] 44)) w1→LW w n w1∧w1.heap[wr.heap.size]?=some (.cells #[.int .i64 x.c,.int .i64 x.r,.string x.s] 44 (0,0))∧FM w1 (some ⟨gx,ox,none⟩) xs∧EnvP w1):=fun w1 hb=>by
     have h1:=(HK.out.2.next ((Below.refl _ _).alloc (Nat.le_refl _) (.cells #[.int .i64 x.c,.int .i64 x.r,.string x.s] 44))).next hb
     exact⟨h1,(hb.block _ (fm.lt_blk hbx)).trans hbx,HX.out.1.next h1.ahead (fun g o e=>by injection e with e;injection e with e1;rw [← e1];exact hgx),HX.out.2.below h1.ahead HX.out.2.size⟩
    clear hx hfw
    go_wp2_with fail
    refine (adr.check_any x.c x.r _).mono ?_
    rintro e w1 ⟨rfl,hb1⟩
    obtain⟨g1,g2,g3,g4⟩:=HB.out w1 hb1
    have HW1b:Hid (Below wr.heap.size wr w1):=bnext ((Below.refl _ _).alloc (Nat.le_refl _) _) hb1 (by simp)
    have HW1:Hid (LW w n w1∧w1.heap[wr.heap.size]?=some (.cells #[.int .i64 x.c,.int .i64 x.r,.string x.s] 44 (0,0))∧FM w1 (some ⟨gx,ox,none⟩) xs∧EnvP w1):=⟨g1,g2,g3,g4⟩
    obtain⟨b0,b1,b2⟩:=cells3 g2
    clear g1 g2 g3 g4 hb1 hbx q0 q1 q2 HB
    cases hC:isC x.c x.r with
    | false =>
     rw [show ckc false=.iface 100 (.int .i64 1) from rfl]
     have HC:Hid (isC x.c x.r=false):=hC
     clear hC
     go_wp2_with fail
     exact bodyPost_ret (v:=.tuple #[.slice none 0 0,.iface 100 (.int .i64 1)]) (by simp [results,Tryz.results53,go_sem]) rfl ⟨⟨_,1,rfl,HK.out.1.found (by rw [HN.out];exact h2) HXi.out (cd_range HXi.out HC.out) (by decide),fun h=>by cases h⟩,HW1.out.1.ahead⟩
    | true =>
     rw [show ckc true=.nilIface from rfl]
     have HC:Hid (isC x.c x.r=true):=hC
     clear hC
     go_upto_region 10 with fail
     go_cut [43] (fun s43 wx=>∃ b:Bool,s43=.bool b∧b=ordB xs i x∧Below w1.heap.size w1 wx)
     case first =>
      by_cases hz:i=0
      ·subst hz
       go_quiet (fail)
       go_wp2_with fail
       go_meet
       case rel=>exact⟨false,rfl,rfl,drewN_below _ _⟩
      ·obtain⟨k,rfl⟩:∃ k,i=k+1:=⟨i - 1,by omega⟩
       obtain⟨y,hy⟩:∃ y,xs[k]?=some y:=⟨_,List.getElem?_eq_getElem (by rw [HN.out];omega)⟩
       have HY:Hid (xs[k]?=some y):=hy
       obtain⟨y0,y1,-⟩:=FM.cells HW1.out.2.2.1 hy
       have h0d:FG w1 gx (ox+k*3) wr.heap.size y x w1.drew:=⟨y0,y1,b0,b1,(Below.refl _ _).drew⟩
       have SOF:Hid (∀ wx,Below w1.heap.size w1 wx→FG w1 gx (ox+k*3) wr.heap.size y x wx):=fun wx hb=>⟨(hb.cell (p:=⟨gx,_,none⟩) (Nat.lt_of_lt_of_le hgx HW1.out.1.ahead.size)).trans y0,(hb.cell (p:=⟨gx,_,none⟩) (Nat.lt_of_lt_of_le hgx HW1.out.1.ahead.size)).trans y1,(hb.cell (p:=⟨wr.heap.size,_,none⟩) (fm.lt_blk HW1.out.2.1)).trans b0,(hb.cell (p:=⟨wr.heap.size,_,none⟩) (fm.lt_blk HW1.out.2.1)).trans b1,hb⟩
       have e1:((k+1:Nat):Int)=(k:Int)+1:=rfl
       have hk0:(0:Int)<(k:Int)+1:=by omega
       have hk00:(0:Int)≤(k:Int):=by omega
       have hkN:(k:Int)<(n:Int):=by omega
       have hk200:(k:Int)≤200:=by omega
       have hw1':IntKind.i64.wrap ((k:Int)+1 - 1)=(k:Int):=by rw [Int.add_sub_cancel];exact Go.IntWalk.i64_in _ (by omega)
       have hw2':IntKind.i64.wrap (k:Int)=(k:Int):=Go.IntWalk.i64_in _ (by omega)
       have hw3':(k:Int)+1 - 1=(k:Int):=by omega
       rw [e1]
       clear hy e1 b0 b1 b2 hiN hi0
       go_region_held3 (fun wx=>FG w1 gx (ox+k*3) wr.heap.size y x wx) (first | exact h0d | exact SOF.out _ (bnext (fgb (by assumption)) (by assumption) (fgb (by assumption)).size)) (first | (go_at_call 88;refine (less_any y.c y.r x.c x.r _).mono ?_;rintro e w2 ⟨rfl,hb2⟩;have hw2:=bnext (fgb (by assumption)) hb2 (fgb (by assumption)).size))
       all_goals
        go_wp2_with fail
        go_meet
        case rel =>
         refine⟨_,rfl,?_,hw2⟩
         unfold ordB
         simp only [HY.out]
         first | rfl | (simp [lt];done)
     case rest =>
     obtain⟨b,rfl,hA,hbc⟩:=hcut
     have HWc:Hid (LN w n xs i wc∧wc.heap[wr.heap.size]?=some (.cells #[.int .i64 x.c,.int .i64 x.r,.string x.s] 44 (0,0))∧EnvP wc):=⟨(HKN.out.next (HW1b.out)).next hbc,(hbc.block _ (fm.lt_blk HW1.out.2.1)).trans HW1.out.2.1,HX.out.2.below (HW1.out.1.next hbc).ahead HX.out.2.size⟩
     have HWc1:Hid (LW w n wc):=HWc.out.1.1
     have HA:Hid (b=ordB xs i x):=hA
     clear hA hbc b0 b1 b2 HW1
     cases b with
     | true =>
      go_wp2_with fail
      exact bodyPost_ret (v:=.tuple #[.slice none 0 0,.iface 100 (.int .i64 5)]) (by simp [results,Tryz.results53,go_sem]) rfl ⟨⟨_,5,rfl,HK.out.1.found (by rw [HN.out];exact h2) HXi.out (cd_order HXi.out HC.out HA.out.symm) (by decide),fun h=>by cases h⟩,HWc1.out.ahead⟩
     | false =>
      obtain⟨b0,b1,b2⟩:=cells3 HWc.out.2.1
      have HF:Hid (Calls Tryz.prog 89 #[.string x.s] wc fun e w'=>(∃ k n z r t kd m c v,e=.returned (.tuple #[fm.NV k n z r t (.slice kd m c),v])∧v=errV (ckT x.s)∧NdT x.s wc w' (fm.NV k n z r t (.slice kd m c)))∧Below wc.heap.size wc w'):=formulaOf_nd x.s wc HWc.out.2.2 (by have h1:=HX.out.2.size;have h2:=fm.lt_blk HWc.out.2.1;have h3:=fm.lt_blk HK.out.2.2.choose_spec.1;omega)
      go_wp2_with fail
      refine HF.out.mono ?_
      rintro e w2 ⟨⟨k1,n1,s1,r1,t1,p1,m1,e1,v,rfl,hfo,hnd⟩,hb2⟩
      have hL2:=HWc1.out.next hb2
      have HN2:Hid (LN w n xs i w2∧NdT x.s wc w2 (fm.NV k1 n1 s1 r1 t1 (.slice p1 m1 e1))∧w.heap.size<wc.heap.size):=⟨HWc.out.1.next hb2,hnd,fm.lt_blk HWc1.out.2.choose_spec.1⟩
      clear hnd
      have HL2:Hid (LW w n w2):=hL2
      have hlt:w.heap.size<w2.heap.size:=fm.lt_blk hL2.2.choose_spec.1
      clear hb2 HF b0 b1 b2
      have HT:Hid (cd xs i=ckT x.s):=cd_text HXi.out HC.out HA.out.symm
      by_cases hk0:ckT x.s=0
      ·have HZ:Hid (ckT x.s=0):=hk0
       have ev:v=.nilIface:=by rw [hfo,hk0];rfl
       subst ev
       clear hfo hk0
       obtain⟨⟨a0,x0⟩,z0⟩:=hL2.at hin (j:=0) (by decide)
       obtain⟨⟨a1,x1⟩,z1⟩:=hL2.at hin (j:=1) (by decide)
       obtain⟨⟨a2,x2⟩,z2⟩:=hL2.at hin (j:=2) (by decide)
       obtain⟨⟨a3,x3⟩,z3⟩:=hL2.at hin (j:=3) (by decide)
       obtain⟨⟨a4,x4⟩,z4⟩:=hL2.at hin (j:=4) (by decide)
       obtain⟨⟨a5,x5⟩,z5⟩:=hL2.at hin (j:=5) (by decide)
       obtain⟨⟨a6,x6⟩,z6⟩:=hL2.at hin (j:=6) (by decide)
       obtain⟨⟨a7,x7⟩,z7⟩:=hL2.at hin (j:=7) (by decide)
       obtain⟨⟨a8,x8⟩,z8⟩:=hL2.at hin (j:=8) (by decide)
       obtain⟨⟨a9,x9⟩,z9⟩:=hL2.at hin (j:=9) (by decide)
       obtain⟨⟨a10,x10⟩,z10⟩:=hL2.at hin (j:=10) (by decide)
       obtain⟨⟨a11,x11⟩,z11⟩:=hL2.at hin (j:=11) (by decide)
       rw [Nat.add_zero] at x0 z0
       clear hL2
       go_wp2_with fail
       exact⟨⟨i+1,rfl,hin,HK.out.1.snoc (HT.out.trans HZ.out),LN.next (HN2.out.1.put HXi.out hin HN2.out.2.1 HZ.out HN2.out.2.2) ((Below.refl _ _).alloc (Nat.le_refl _) _)⟩,by simp [intOf];omega⟩
      ·have HZ:Hid (ckT x.s≠0):=hk0
       obtain⟨q,hq⟩:∃ q,ckT x.s=q:=⟨_,rfl⟩
       have HQ:Hid (ckT x.s=q):=hq
       have ev:v=.iface 100 (.int .i64 q):=by rw [hfo,errV_some hk0,hq]
       subst ev
       clear hfo hk0 hL2 hq
       go_wp2_with fail
       refine bodyPost_ret (v:=.tuple #[.slice none 0 0,.iface 100 (.int .i64 q)]) (by simp [results,Tryz.results53,go_sem]) rfl ⟨⟨_,q,by rw [errV_some (by rw [← HQ.out];exact HZ.out)],HK.out.1.found (by rw [HN.out];exact h2) HXi.out (HT.out.trans HQ.out) (by rw [← HQ.out];exact HZ.out),fun h=>absurd (HQ.out.trans h) HZ.out⟩,?_⟩
       exact HL2.out.ahead.alloc HL2.out.ahead.size _
   ·have hin':¬ (i:Int)<(n:Int):=by omega
    go_wp2_with fail
    have e:i=n:=by omega
    subst e
    exact bodyPost_ret (v:=.tuple #[.slice (some ⟨w.heap.size,0,none⟩) i i,.nilIface]) (by simp [results,Tryz.results53,go_sem]) rfl ⟨⟨_,0,rfl,FK.none (by rw [HN.out];exact HK.out.1) (by rw [HN.out];exact h2),fun _=>⟨rfl,HKN.out⟩⟩,HK.out.2.ahead⟩
 ·have hl:(200:Int)<(n:Int):=by omega
  go_wp2_with fail
  exact bodyPost_ret (v:=.tuple #[.slice none 0 0,.iface 100 (.int .i64 4)]) (by simp [results,Tryz.results53,go_sem]) rfl ⟨⟨_,4,rfl,.inl ⟨by rw [HN.out];omega,rfl⟩,fun h=>by cases h⟩,Below.refl _ _⟩
end Go.Proofs.YtgifkepklnhddaaGreatDoor.ps
namespace Go.Proofs.YtgifkepklnhddaaGreatDoor
open Go.Lib
def dig (c:UInt8):Bool:=decide (48≤c.toNat) && decide (c.toNat≤57)
def dv (l:List UInt8):Nat:=l.foldl (fun a c=>a*10+(c.toNat - 48)) 0
theorem dv_snoc (l:List UInt8) (c:UInt8):dv (l++[c])=dv l*10+(c.toNat - 48):=by simp [dv]
theorem dv_nil:dv []=0:=rfl
theorem rev_ind {P:List UInt8→Prop} (h0:P []) (h1:∀ l c,P l→P (l++[c])) (l:List UInt8):P l:=by
 have:∀ r:List UInt8,P r.reverse:=by
  intro r
  induction r with
  | nil=>exact h0
  | cons c r ih=>rw [List.reverse_cons];exact h1 _ _ ih
 have h:=this l.reverse
 rwa [List.reverse_reverse] at h
theorem dv_lt (l:List UInt8):l.all dig=true→dv l<10 ^ l.length:=by
 refine rev_ind (P:=fun l=>l.all dig=true→dv l<10 ^ l.length) ?_ ?_ l
 ·intro _;decide
 ·intro l c ih h
  rw [List.all_append,Bool.and_eq_true] at h
  have h1:=ih h.1
  have h2:48≤c.toNat∧c.toNat≤57:=by
   have:=h.2
   simp [dig] at this
   exact this
  rw [dv_snoc,List.length_append,List.length_singleton,Nat.pow_succ]
  omega
theorem small_of {x i:Nat} (hx:x<10 ^ i) (hi:i≤140737488355329):Small x:=by
 intro n f hN hv
 match n,hN,hv with
 | 0,_,_=>omega
 | n+1,hN,hv =>
  have h1:W32 ^ n≤valN (n+1) f:=valN_ge (hN n rfl)
  have h2:(10 ^ 9) ^ n≤W32 ^ n:=Nat.pow_le_pow_left (by decide) n
  rw [← Nat.pow_mul] at h2
  have h3:10 ^ (9*n)<10 ^ i:=by omega
  have h4:=(Nat.pow_lt_pow_iff_right (by decide:1<10)).1 h3
  omega
def canon (l:List UInt8):Prop:=l.all dig=true∧l≠[]∧(l.head?=some 48→l=[48])
theorem dv_pos (l:List UInt8):canon l→l≠[48]→0<dv l:=by
 refine rev_ind (P:=fun l=>canon l→l≠[48]→0<dv l) ?_ ?_ l
 ·rintro⟨_,h,_⟩;exact absurd rfl h
 ·intro l c ih ⟨h1,h2,h3⟩ h4
  rw [List.all_append,Bool.and_eq_true] at h1
  have hc:48≤c.toNat∧c.toNat≤57:=by
   have:=h1.2
   simp [dig] at this
   exact this
  rw [dv_snoc]
  by_cases hl:l=[]
  ·subst hl
   have:c≠48:=by
    rintro rfl
    exact h4 rfl
   have hne:c.toNat≠48:=by
    intro e
    apply this
    exact UInt8.toNat_inj.1 (by rw [e];rfl)
   simp [dv]
   omega
  ·have hh:l.head?≠some 48:=by
    intro e
    have:=h3 (by rw [List.head?_append,e];rfl)
    have hlen:=congrArg List.length this
    simp at hlen
    exact hl hlen
   have:=ih ⟨h1.1,hl,fun e=>absurd e hh⟩ (by intro e;rw [e] at hh;exact hh rfl)
   omega
theorem dec_dv (l:List UInt8):canon l→decDigits (dv l)=l:=by
 refine rev_ind (P:=fun l=>canon l→decDigits (dv l)=l) ?_ ?_ l
 ·rintro⟨_,h,_⟩;exact absurd rfl h
 ·intro l c ih ⟨h1,h2,h3⟩
  rw [List.all_append,Bool.and_eq_true] at h1
  have hc:48≤c.toNat∧c.toNat≤57:=by
   have:=h1.2
   simp [dig] at this
   exact this
  have hb:UInt8.ofNat (48+(c.toNat - 48))=c:=by
   rw [show 48+(c.toNat - 48)=c.toNat from by omega]
   exact UInt8.ofNat_toNat
  rw [dv_snoc]
  by_cases hl:l=[]
  ·subst hl
   rw [dv_nil,Nat.zero_mul,Nat.zero_add,decDigits_one (by omega),hb]
   rfl
  ·have hh:l.head?≠some 48:=by
    intro e
    have:=h3 (by rw [List.head?_append,e];rfl)
    have hlen:=congrArg List.length this
    simp at hlen
    exact hl hlen
   have hcn:canon l:=⟨h1.1,hl,fun e=>absurd e hh⟩
   have hp:=dv_pos l hcn (by intro e;rw [e] at hh;exact hh rfl)
   rw [decDigits,dif_neg (by omega),show (dv l*10+(c.toNat - 48)) / 10=dv l from by omega,show (dv l*10+(c.toNat - 48)) % 10=c.toNat - 48 from by omega,ih hcn,hb]
theorem dv_dec (u:Nat):dv (decDigits u)=u∧canon (decDigits u):=by
 induction u using Nat.strongRecOn with
 | _ u ih =>
  by_cases c:u<10
  ·rw [decDigits_one c]
   refine⟨by simp [dv];omega,?_,by simp,?_⟩
   ·simp [dig];omega
   ·intro e
    rw [List.head?_cons] at e
    injection e with e
    rw [e]
  ·obtain⟨h1,h2,h3,h4⟩:=ih (u / 10) (by omega)
   have e:decDigits u=decDigits (u / 10)++[UInt8.ofNat (48+u % 10)]:=by rw [decDigits,dif_neg c]
   have hd:u % 10<10:=by omega
   rw [e]
   refine⟨by rw [dv_snoc,h1,digit_nat hd];omega,?_,by simp,?_⟩
   ·rw [List.all_append,h2];simp [dig];omega
   ·intro q
    rw [List.head?_append] at q
    have:(decDigits (u / 10)).head?=some 48:=by
     cases hh:(decDigits (u / 10)).head? with
     | none=>rw [List.head?_eq_none_iff] at hh;exact absurd hh h3
     | some a=>rw [hh] at q;exact q
    have h5:=h4 this
    rw [h5] at h1
    have:u / 10=0:=by rw [← h1];rfl
    omega
end Go.Proofs.YtgifkepklnhddaaGreatDoor
namespace Go.Proofs.YtgifkepklnhddaaGreatDoor
open Go.RowKit
theorem fit_iff {neg:Bool} {x:Nat}:fitI neg x=true↔x<9223372036854775808∨(neg=true∧x=9223372036854775808):=by
 unfold fitI
 simp
set_option maxHeartbeats 1000000 in
theorem fits_any (bz x:Nat) (neg:Bool) (w:World) (hz:BigInt w bz neg x) :
  Calls Tryz.prog 171 #[ptr bz] w fun e w'=>e=.returned (.bool (fitI neg x))∧w'=w:=by
 go_enter Tryz.func171,Tryz.ntmps171
 go_wp2_with fail
 refine (isInt_any bz x neg _ hz).mono ?_
 rintro e w1 ⟨rfl,rfl⟩
 go_wp2_with fail
 go_ret
 exact⟨rfl,rfl⟩
theorem take_snoc (t:ByteArray) (k:Nat) (h:k<t.size):t.data.toList.take (k+1)=t.data.toList.take k++[t[k]]:=by
 rw [List.take_succ_eq_append_getElem (by simpa using h)];rfl
theorem byte_lt (c:UInt8):c.toNat<256:=UInt8.toNat_lt c
theorem mul10 (bz x:Nat) (w:World) (hz:BigInt w bz false x) (b2:Nat) (hy:BigInt w b2 false 10) (hs:Small x) :
  Calls Tryz.prog 168 #[ptr bz,ptr bz,ptr b2] w fun e w'=>e=.returned (ptr bz)∧BigInt w' bz false (x*10)∧∀ B,B≤bz→Below B w w' :=
 mulM bz b2 x 10 false false w hz hy hs (by omega)
def wAns (neg:Bool) (x:Nat):Int:=if fitI neg x=true then (if neg=true then -(x:Int) else (x:Int)) else 0
def wRes (neg:Bool) (l:List UInt8):Int:=if l.all dig=true then wAns neg (dv l) else 0
def wOk (neg:Bool) (l:List UInt8):Bool:=l.all dig && fitI neg (dv l)
theorem w_no {neg:Bool} {t:ByteArray} {k:Nat} (hlt:k<t.size) (h:dig t[k]=false):wRes neg t.data.toList=0∧wOk neg t.data.toList=false:=by
 have:t.data.toList.all dig=false:=by
  rw [List.all_eq_false]
  exact⟨t[k],Array.mem_toList_iff.2 (Array.getElem_mem (xs:=t.data) hlt),by simp [h]⟩
 unfold wRes wOk
 rw [this]
 exact⟨if_neg (by simp),by simp⟩
set_option maxRecDepth 100000 in
set_option maxHeartbeats 4000000 in
theorem wholeF_go (s:ByteArray) (w:World) (hs:s.size≤140737488355328)
  (hok:s.toList.isEmpty=false) (hp:0<s.size) (h48:(((s[0]'hp).toNat:Int) == 48)=false∨((((s[0]'hp).toNat:Int) == 48)=true∧(s.toList == [48])=true)) :
  Calls Tryz.prog 141 #[.string s,.bool false] w fun e w'=>e=.returned (.tuple #[.int .i64 (wRes false s.data.toList),.bool (wOk false s.data.toList)])∧Below w.heap.size w w':=by
 have HOK:Hid (s.toList.isEmpty=false):=hok
 have H48:Hid ((((s[0]'hp).toNat:Int) == 48)=false∨((((s[0]'hp).toNat:Int) == 48)=true∧(s.toList == [48])=true)):=h48
 clear hok h48
 go_enter Tryz.func141,Tryz.ntmps141
 go_upto_region 2 with fail
 go_cut [20] (fun s20 wx=>s20=.bool false∧w=wx)
 case first =>
  go_wp2_with fail
  go_meet
  case rel=>exact⟨rfl,rfl⟩
 case rest =>
 obtain⟨rfl,rfl⟩:=hcut
 go_upto_region 4 with fail
 go_cut [33] (fun s33 wx=>s33=.bool false∧w=wx)
 case first =>
  have hok:=HOK.out
  rcases H48.out with h48 | ⟨h48,h48b⟩
  ·go_wp2_with fail
   go_meet
   case rel=>exact⟨by simp,rfl⟩
  ·go_wp2_with fail
   go_meet
   case rel=>exact⟨by simp,rfl⟩
 case rest =>
 obtain⟨rfl,rfl⟩:=hcut
 clear HOK H48
 have hn0:=BigInt.new w 239
 go_upto_region 6 with fail
 go_cut [7] (fun s7 wx=>∃ bn,s7=ptr bn∧w.heap.size≤bn∧BigInt wx bn false 0∧Below w.heap.size w wx)
 case first =>
  go_wp2_with fail
  go_meet
  case rel=>exact⟨_,rfl,Nat.le_refl _,hn0,(Below.refl _ _).alloc (Nat.le_refl _) _⟩
 case rest =>
 clear hn0
 obtain⟨bn,rfl,hbn,hZ,hB⟩:=hcut
 go_wp2_with fail
 go_loopw [8] (fun i wr=>∃ k:Nat,k≤s.size∧i=.int .i64 k∧(s.data.toList.take k).all dig=true∧BigInt wr bn false (dv (s.data.toList.take k))∧Below w.heap.size w wr) (fun i _=>s.size - (intOf i).toNat)
 case atStart=>exact⟨0,Nat.zero_le _,rfl,by simp,by simpa [dv] using hZ,hB⟩
 case round =>
  clear hZ hB
  obtain⟨k,hk,rfl,hall,hZ,hB⟩:=hrel
  by_cases hlt:k<s.size
  ·have HT:=take_snoc s k hlt
   have HTk:Hid (s.data.toList.take (k+1)=s.data.toList.take k++[s[k]]):=HT
   have HAll:Hid ((s.data.toList.take k).all dig=true):=hall
   have hx:=dv_lt _ hall
   have hlen:(s.data.toList.take k).length≤k:=List.length_take_le _ _
   have hxk:dv (s.data.toList.take k)<10 ^ k:=Nat.lt_of_lt_of_le hx (Nat.pow_le_pow_right (by decide) hlen)
   have HS1:Hid (Small (dv (s.data.toList.take k))):=small_of hxk (by omega)
   have HS2:Hid (Small (dv (s.data.toList.take k)*10)):=small_of (i:=k+1) (by rw [Nat.pow_succ];omega) (by omega)
   have hbl:=byte_lt s[k]
   clear HT hall hx hlen hxk
   by_cases d1:((s[k].toNat:Nat):Int)<48
   ·have HNo:Hid (wRes false s.data.toList=0∧wOk false s.data.toList=false):=w_no hlt (by unfold dig;rw [decide_eq_false (by omega)];rfl)
    clear HTk HAll HS1 HS2
    go_wp2_with fail
    go_ret2
    exact⟨by rw [HNo.out.1,HNo.out.2];rfl,hB⟩
   ·by_cases d2:(57:Int)<((s[k].toNat:Nat):Int)
    ·have HNo:Hid (wRes false s.data.toList=0∧wOk false s.data.toList=false):=w_no hlt (by unfold dig;rw [decide_eq_false (by omega:¬ s[k].toNat≤57)];simp)
     clear HTk HAll HS1 HS2
     go_wp2_with fail
     go_ret2
     exact⟨by rw [HNo.out.1,HNo.out.2];rfl,hB⟩
    ·go_wp2_with fail
     refine (newInt_nn 10 _ (by omega)).mono ?_
     rintro e w1 ⟨⟨b1,rfl,hb1,hT1⟩,q1⟩
     have hZ1:=hZ.below q1
     go_wp2_with fail
     refine (mul10 bn _ _ hZ1 b1 hT1 HS1.out).mono ?_
     rintro e w2 ⟨rfl,hZ2,q2⟩
     go_wp2_with fail
     rw [show (((s[k].toNat:Nat):Int) - 48)=((s[k].toNat - 48:Nat):Int) from by omega]
     refine (newInt_nn (s[k].toNat - 48) _ (by omega)).mono ?_
     rintro e w3 ⟨⟨b3,rfl,hb3,hT3⟩,q3⟩
     have hZ3:=hZ2.below q3
     go_wp2_with fail
     refine (addM bn b3 _ _ _ hZ3 hT3 HS2.out (by omega)).mono ?_
     rintro e w4 ⟨rfl,hZ4,q4⟩
     have HD:Hid (dig s[k]=true):=by
      unfold Hid dig
      rw [decide_eq_true (by omega:48≤s[k].toNat),decide_eq_true (by omega:s[k].toNat≤57)]
      rfl
     have hB4:Below w.heap.size w w4:=((bnext hB q1 hB.size).trans (q2 _ hbn)).trans ((q3.mono (by have:=hB.size;have:=q1.size;have:=(q2 0 (Nat.zero_le _)).size;omega)).trans (q4 _ hbn))
     go_wp2_with fail
     exact⟨⟨k+1,by omega,by go_num,by rw [HTk.out,List.all_append,HAll.out];simp [HD.out],by rw [HTk.out,dv_snoc];exact hZ4,hB4⟩,by simp [intOf];omega⟩
  ·have hkn:k=s.size:=by omega
   subst hkn
   have htk:s.data.toList.take s.size=s.data.toList:=List.take_of_length_le (by simp)
   rw [htk] at hall hZ
   clear htk
   have HAll:Hid (s.data.toList.all dig=true):=hall
   clear hall
   generalize hxx:dv s.data.toList=x at *
   have HXX:Hid (dv s.data.toList=x):=hxx
   clear hxx
   have hne:((s.size:Int) != (s.size:Int))=false:=by simp
   go_wp2_with fail
   refine (fits_any bn x false _ hZ).mono ?_
   rintro e w5 ⟨rfl,rfl⟩
   cases hf:fitI false x
   ·have HR:Hid (wRes false s.data.toList=0∧wOk false s.data.toList=false):=by
     unfold Hid wRes wOk wAns
     rw [HAll.out,HXX.out,hf]
     simp
    clear hf
    go_wp2_with fail
    go_ret2
    exact⟨by rw [HR.out.1,HR.out.2];rfl,hB⟩
   ·have HR:Hid (wRes false s.data.toList=(x:Int)∧wOk false s.data.toList=true):=by
     unfold Hid wRes wOk wAns
     rw [HAll.out,HXX.out,hf]
     simp
    have hfx:=fit_iff.1 hf
    clear hf
    go_wp2_with fail
    refine (int64_pos bn x _ hZ (by simp at hfx;omega)).mono ?_
    rintro e w6 ⟨rfl,rfl⟩
    go_wp2_with fail
    go_ret2
    exact⟨by rw [HR.out.1,HR.out.2];rfl,hB⟩
set_option maxRecDepth 100000 in
set_option maxHeartbeats 4000000 in
theorem wholeF_bad (s:ByteArray) (w:World)
  (hbad:s.toList.isEmpty=true∨(s.toList.isEmpty=false∧(∃ hp:0<s.size,(((s[0]'hp).toNat:Int) == 48)=true)∧(s.toList == [48])=false)) :
  Calls Tryz.prog 141 #[.string s,.bool false] w fun e w'=>e=.returned (.tuple #[.int .i64 0,.bool false])∧Below w.heap.size w w':=by
 rcases hbad with h | ⟨h,⟨hp,h48⟩,h3⟩
 ·go_enter Tryz.func141,Tryz.ntmps141
  go_wp2_with fail
  go_ret2
  exact⟨rfl,Below.refl _ _⟩
 ·go_enter Tryz.func141,Tryz.ntmps141
  go_wp2_with fail
  go_ret2
  exact⟨rfl,Below.refl _ _⟩
theorem size_pos {s:ByteArray} (h:s.toList.isEmpty=false):0<s.size:=by
 rcases Nat.eq_zero_or_pos s.size with q | q
 ·have:s.data.toList=[]:=List.length_eq_zero_iff.1 (by rw [Array.length_toList];exact q)
  rw [ByteArray.toList_eq,this] at h
  cases h
 ·exact q
theorem head_byte {s:ByteArray} (hp:0<s.size):s.data.toList.head?=some (s[0]'hp):=by
 rw [List.head?_eq_getElem?,List.getElem?_eq_getElem (by rw [Array.length_toList];exact hp)]
 rfl
theorem byte_beq {c:UInt8} {n:Nat} (hn:n<256):(((c.toNat:Nat):Int) == (n:Int))=decide (c=UInt8.ofNat n):=by
 rw [Bool.eq_iff_iff,beq_iff_eq,decide_eq_true_iff]
 constructor
 ·intro e
  apply UInt8.toNat_inj.1
  rw [UInt8.toNat_ofNat']
  omega
 ·rintro rfl
  rw [UInt8.toNat_ofNat']
  omega
def wholeN (l:List UInt8):Option Nat :=
 if l=[]∨(l.head?=some 48∧l≠[48]) then none
 else if l.all dig=true then (if dv l<9223372036854775808 then some (dv l) else none) else none
theorem wholeF_any (s:ByteArray) (w:World) (hs:s.size≤140737488355328) :
  Calls Tryz.prog 141 #[.string s,.bool false] w fun e w'=>e=.returned (.tuple #[.int .i64 ((wholeN s.data.toList).getD 0:Nat),.bool (wholeN s.data.toList).isSome])∧Below w.heap.size w w':=by
 by_cases b1:s.data.toList=[]∨(s.data.toList.head?=some 48∧s.data.toList≠[48])
 ·have hw:wholeN s.data.toList=none:=by unfold wholeN;rw [if_pos b1]
  rw [hw]
  refine wholeF_bad s w ?_
  cases hte:s.toList.isEmpty
  ·right
   have htp:=size_pos hte
   have hnil:s.data.toList≠[]:=by
    intro q
    rw [ByteArray.toList_eq,q] at hte
    cases hte
   rcases b1 with b1 | ⟨b1,b2⟩
   ·exact absurd b1 hnil
   ·refine⟨rfl,⟨htp,?_⟩,?_⟩
    ·rw [head_byte htp] at b1
     injection b1 with b1
     rw [b1];rfl
    ·rw [ByteArray.toList_eq];exact beq_eq_false_iff_ne.2 b2
  ·exact Or.inl rfl
 ·have hnil:s.data.toList≠[]:=fun q=>b1 (Or.inl q)
  have hte:s.toList.isEmpty=false:=by
   rw [ByteArray.toList_eq]
   cases h:s.data.toList with
   | nil=>exact absurd h hnil
   | cons a r=>rfl
  have htp:=size_pos hte
  have h48:(((s[0]'htp).toNat:Int) == 48)=false∨((((s[0]'htp).toNat:Int) == 48)=true∧(s.toList == [48])=true):=by
   have hb:=byte_beq (c:=s[0]'htp) (n:=48) (by decide)
   by_cases q:s[0]'htp=UInt8.ofNat 48
   ·right
    refine⟨by rw [show ((48:Int))=((48:Nat):Int) from rfl,hb,decide_eq_true q],?_⟩
    rw [ByteArray.toList_eq,beq_iff_eq]
    apply Classical.byContradiction
    intro r
    apply b1
    refine Or.inr ⟨?_,r⟩
    rw [head_byte htp,q]
    rfl
   ·left
    rw [show ((48:Int))=((48:Nat):Int) from rfl,hb,decide_eq_false q]
  have key:(wRes false s.data.toList=((wholeN s.data.toList).getD 0:Nat))∧(wOk false s.data.toList=(wholeN s.data.toList).isSome):=by
   unfold wholeN
   rw [if_neg b1]
   unfold wRes wOk wAns
   cases hall:s.data.toList.all dig
   ·simp
   ·cases hf:fitI false (dv s.data.toList)
    ·have hl:¬ dv s.data.toList<9223372036854775808:=by
      intro q
      rw [fit_iff.2 (Or.inl q)] at hf
      cases hf
     simp [hl]
    ·have hl:dv s.data.toList<9223372036854775808:=by
      rcases fit_iff.1 hf with q | ⟨q,_⟩
      ·exact q
      ·cases q
     simp [hl]
  rw [← key.1,← key.2]
  exact wholeF_go s w hs hte htp h48
end Go.Proofs.YtgifkepklnhddaaGreatDoor
namespace Go.Proofs.YtgifkepklnhddaaGreatDoor.adr
open Go.RowKit
theorem whole_dec {l:List UInt8} {v:Nat} (h:wholeN l=some v):Lib.decDigits v=l:=by
 unfold wholeN at h
 split at h
 ·cases h
 ·rename_i h1
  split at h
  ·rename_i h2
   split at h
   ·injection h with h
    subst h
    refine dec_dv l ⟨h2,fun q=>h1 (Or.inl q),fun q=>?_⟩
    apply Classical.byContradiction
    intro r
    exact h1 (Or.inr ⟨q,r⟩)
   ·cases h
  ·cases h
theorem dec_whole {v:Nat} (hv:v<9223372036854775808):wholeN (Lib.decDigits v)=some v:=by
 obtain⟨d1,d2,d3,d4⟩:=dv_dec v
 unfold wholeN
 rw [if_neg,if_pos d2,d1,if_pos hv]
 rintro (q | ⟨q,r⟩)
 ·exact d3 q
 ·exact r (d4 q)
theorem row_some {l:List UInt8} {r:Nat} (h:rowAcc 0 l=r) (h1:1≤r):l=Lib.decDigits r∧r≤99:=by
 match l with
 | []=>exact absurd h (by simp only [rowAcc];omega)
 | d::t =>
  by_cases b1:d.toNat<48∨57<d.toNat∨((0:Nat)=0∧d.toNat=48)
  ·rw [rowAcc_bad b1] at h;omega
  ·rw [rowAcc_step b1 (by omega)] at h
   have hd:=byte_lt d
   match t with
   | [] =>
    have e:d.toNat - 48=r:=by simp only [rowAcc] at h;omega
    refine⟨?_,by omega⟩
    rw [dec_small (by omega)]
    congr 1
    apply UInt8.toNat_inj.1
    rw [u8 (by omega)]
    omega
   | e::u =>
    by_cases b2:e.toNat<48∨57<e.toNat∨(0*10+(d.toNat - 48)=0∧e.toNat=48)
    ·rw [rowAcc_bad b2] at h;omega
    ·rw [rowAcc_step b2 (by omega)] at h
     match u with
     | [] =>
      have e1:(0*10+(d.toNat - 48))*10+(e.toNat - 48)=r:=by simpa only [rowAcc] using h
      refine⟨?_,by omega⟩
      rw [dec_two (by omega) (by omega)]
      congr 1
      ·apply UInt8.toNat_inj.1
       rw [u8 (by omega)]
       omega
      ·congr 1
       apply UInt8.toNat_inj.1
       rw [u8 (by omega)]
       omega
     | f::x =>
      by_cases b3:f.toNat<48∨57<f.toNat∨((0*10+(d.toNat - 48))*10+(e.toNat - 48)=0∧f.toNat=48)
      ·rw [rowAcc_bad b3] at h;omega
      ·rw [rowAcc_over (by omega)] at h;omega
structure QS (w:World) (c r:Int) (fc fr:Bool) (wx:World):Prop where
 res:wx.heap[w.heap.size]?=some (.cells #[.int .i64 0,.int .i64 0,.bool false,.bool false] 54 (0,0))
 own:wx.heap[w.heap.size+1]?=some (.cells #[.int .i64 c,.int .i64 r,.bool fc,.bool fr] 54 (0,0))
 below:Below w.heap.size w wx
theorem QS.start (w:World):QS w 0 0 false false ((w.alloc (.cells #[.int .i64 0,.int .i64 0,.bool false,.bool false] 54)).alloc (.cells #[.int .i64 0,.int .i64 0,.bool false,.bool false] 54)) :=
 ⟨by rw [Below.heap_alloc _ _ _ (by simp),heap_at _ _ _ rfl],heap_at _ _ _ (by simp),((Below.refl _ _).alloc (Nat.le_refl _) _).alloc (by simp) _⟩
section
variable {w wx:World} {c r:Int} {fc fr:Bool}
theorem QS.lt (h:QS w c r fc fr wx):w.heap.size+1<wx.heap.size:=lt_of_block h.own
theorem QS.next {wy:World} (h:QS w c r fc fr wx) (hb:Below wx.heap.size wx wy):QS w c r fc fr wy:=by
 have hl:=h.lt
 refine⟨?_,?_,bnext h.below hb h.below.size⟩
 ·rw [hb.block _ (by omega)];exact h.res
 ·rw [hb.block _ (by omega)];exact h.own
theorem QS.set (h:QS w c r fc fr wx) (o:Nat) (u:Value) {c' r':Int} {fc' fr':Bool} (he:(#[.int .i64 c,.int .i64 r,.bool fc,.bool fr]:Array Value).setIfInBounds o u=#[.int .i64 c',.int .i64 r',.bool fc',.bool fr']) :
  QS w c' r' fc' fr' (wx.setCell ⟨w.heap.size+1,o,none⟩ u) :=
 ⟨by rw [Below.heap_setCell _ _ _ _ (by simp)];exact h.res,by rw [block_setCell h.own,he],h.below.setCell (by simp) _⟩
end
def rrA (c v:Int) (ok fc fr:Bool):Array Value:=if (ok && decide (1≤v) && decide (v≤99))=true then #[R c v fc fr,.bool true] else #[R 0 0 false false,.bool false]
theorem isD_cases (s:ByteArray) (k:Nat):(∃ h:k<s.size,(((s[k].toNat:Nat):Int) == 36)=isD s k)∨(¬ k<s.size∧isD s k=false):=by
 by_cases h:k<s.size
 ·left
  refine⟨h,?_⟩
  rw [isD_at h,Bool.eq_iff_iff,beq_iff_eq,beq_iff_eq]
  omega
 ·exact Or.inr ⟨h,isD_no h⟩
set_option maxRecDepth 100000 in
set_option maxHeartbeats 8000000 in
theorem rref_walk (s:ByteArray) (w:World) (hs:s.size≤140737488355328) (k1 k3:Nat) (fc fr:Bool) (hfc:isD s 0=fc) (hk1:b2N fc=k1) (A:Array Value)
  (hfr:isD s (k1+1)=fr) (hk3:k1+1+b2N fr=k3)
  (hA:(¬ k1<s.size∧A=#[R 0 0 false false,.bool false])∨(∃ h:k1<s.size,((s[k1].toNat<65∨90<s[k1].toNat)∧A=#[R 0 0 false false,.bool false])∨((65≤s[k1].toNat∧s[k1].toNat≤90)∧A=rrA ((s[k1].toNat:Int) - 64) ((wholeN (s.data.toList.drop k3)).getD 0:Nat) (wholeN (s.data.toList.drop k3)).isSome fc fr))) :
  Calls Tryz.prog 142 #[.string s] w fun e w'=>e=.returned (.tuple A)∧Below w.heap.size w w':=by
 have HF:Hid (isD s 0=fc):=hfc
 have H1:Hid (b2N fc=k1):=hk1
 have HG:Hid (isD s (k1+1)=fr):=hfr
 have H3:Hid (k1+1+b2N fr=k3):=hk3
 have HA:Hid _:=hA
 have hle:=b2N_le s 0 (Nat.zero_le _)
 rw [hfc,hk1,Nat.zero_add] at hle
 clear hfc hk1 hfr hk3 hA
 have hS:=QS.start w
 go_enter Tryz.func142,Tryz.ntmps142
 go_upto_region 3 with fail
 go_cut [17] (fun s17 wx=>s17=.bool fc∧QS w 0 0 false false wx)
 case first =>
  rcases isD_cases s 0 with ⟨h,hd⟩ | ⟨h,hd⟩
  ·rw [HF.out] at hd
   have HD:Hid ((((s[0].toNat:Nat):Int) == 36)=fc):=hd
   clear hd
   go_wp2_with fail
   go_meet
   case rel=>exact⟨by rw [HD.out],hS⟩
  ·rw [HF.out] at hd
   have HD:Hid (fc=false):=hd
   have h0:¬ (0:Int)<(s.size:Int):=by omega
   clear hd
   go_wp2_with fail
   go_meet
   case rel=>exact⟨by rw [HD.out],hS⟩
 case rest =>
 clear hS
 obtain⟨rfl,hS⟩:=hcut
 go_upto_if 17 with fail
 go_cut [5] (fun s5 wx=>s5=.int .i64 k1∧QS w 0 0 fc false wx)
 case first =>
  cases fc
  ·go_wp2_with fail
   go_meet
   case rel=>exact⟨by rw [← H1.out];rfl,hS⟩
  ·obtain⟨⟨o0,o1,o2,o3⟩,p0,p1,p2,p3⟩:=cells_four hS.own
   go_wp2_with fail
   go_meet
   case rel=>exact⟨by rw [← H1.out];rfl,hS.set 2 _ rfl⟩
 case rest =>
 clear hS H1 HF
 obtain⟨rfl,hS⟩:=hcut
 rcases HA.out with ⟨h,hA⟩ | ⟨h,⟨hb,hA⟩ | ⟨⟨h65,h90⟩,hA⟩⟩
 ·have HAA:Hid (A=#[R 0 0 false false,.bool false]):=hA
  have hlt:¬ (k1:Int)<(s.size:Int):=by omega
  obtain⟨⟨o0,o1,o2,o3⟩,p0,p1,p2,p3⟩:=cells_four hS.res
  have hB:=hS.below
  clear HA hA
  go_wp2_with fail
  exact bodyPost_ret (v:=.tuple #[R 0 0 false false,.bool false]) (by simp [results,Tryz.results142,go_sem,o0,o1,o2,o3]) rfl ⟨by rw [HAA.out],hB.trans (below4 (Nat.le_refl _))⟩
 ·have HAA:Hid (A=#[R 0 0 false false,.bool false]):=hA
  have hlt:(k1:Int)<(s.size:Int):=by omega
  obtain⟨⟨o0,o1,o2,o3⟩,p0,p1,p2,p3⟩:=cells_four hS.res
  have hB:=hS.below
  clear HA hA
  rcases hb with hb | hb
  ·go_wp2_with fail
   exact bodyPost_ret (v:=.tuple #[R 0 0 false false,.bool false]) (by simp [results,Tryz.results142,go_sem,o0,o1,o2,o3]) rfl ⟨by rw [HAA.out],hB.trans (below4 (Nat.le_refl _))⟩
  ·go_wp2_with fail
   exact bodyPost_ret (v:=.tuple #[R 0 0 false false,.bool false]) (by simp [results,Tryz.results142,go_sem,o0,o1,o2,o3]) rfl ⟨by rw [HAA.out],hB.trans (below4 (Nat.le_refl _))⟩
 obtain⟨c,hc⟩:∃ c:Int,c=(s[k1].toNat:Int) - 64:=⟨_,rfl⟩
 rw [← hc] at hA
 have HC:Hid (c=(s[k1].toNat:Int) - 64):=hc
 have HAA:Hid (A=rrA c ((wholeN (s.data.toList.drop k3)).getD 0:Nat) (wholeN (s.data.toList.drop k3)).isSome fc fr):=hA
 clear HA hA hc
 have hlt:(k1:Int)<(s.size:Int):=by omega
 go_upto_region 6 with fail
 go_cut [36] (fun s36 wx=>s36=.bool false∧wx=wc)
 case first =>
  go_wp2_with fail
  go_meet
  case rel=>exact⟨by simp;omega,rfl⟩
 case rest =>
 obtain⟨rfl,rfl⟩:=hcut
 go_upto_region 8 with fail
 go_cut [] (fun wx=>QS w c 0 fc false wx)
 case first =>
  obtain⟨⟨o0,o1,o2,o3⟩,p0,p1,p2,p3⟩:=cells_four hS.own
  go_wp2_with fail
  go_meet
  case rel=>exact hS.set 0 _ (by rw [HC.out];rfl)
 case rest =>
 clear hS HC h65 h90
 have hS:=hcut
 clear hcut
 go_upto_region 10 with fail
 go_cut [56] (fun s56 wx=>s56=.bool fr∧wx=wc)
 case first =>
  rcases isD_cases s (k1+1) with ⟨h',hd⟩ | ⟨h',hd⟩
  ·rw [HG.out] at hd
   have HD:Hid ((((s[k1+1].toNat:Nat):Int) == 36)=fr):=hd
   have hlt2:(k1:Int)+1<(s.size:Int):=by omega
   clear hd
   go_wp2_with fail
   go_meet
   case rel=>exact⟨by rw [HD.out],rfl⟩
  ·rw [HG.out] at hd
   have HD:Hid (fr=false):=hd
   have hlt2:¬ (k1:Int)+1<(s.size:Int):=by omega
   clear hd
   go_wp2_with fail
   go_meet
   case rel=>exact⟨by rw [HD.out],rfl⟩
 case rest =>
 obtain⟨rfl,rfl⟩:=hcut
 have hle3:=b2N_le s (k1+1) (by omega)
 rw [HG.out,H3.out] at hle3
 go_upto_if 56 with fail
 go_cut [5] (fun s5 wx=>s5=.int .i64 k3∧QS w c 0 fc fr wx)
 case first =>
  cases fr
  ·go_wp2_with fail
   go_meet
   case rel=>exact⟨by rw [← H3.out];rfl,hS⟩
  ·obtain⟨⟨o0,o1,o2,o3⟩,p0,p1,p2,p3⟩:=cells_four hS.own
   go_wp2_with fail
   go_meet
   case rel=>exact⟨by rw [← H3.out];rfl,hS.set 3 _ rfl⟩
 case rest =>
 clear hS H3 HG
 obtain⟨rfl,hS⟩:=hcut
 obtain⟨v,hv⟩:∃ v:Nat,(wholeN (s.data.toList.drop k3)).getD 0=v:=⟨_,rfl⟩
 obtain⟨ok,hok⟩:∃ ok,(wholeN (s.data.toList.drop k3)).isSome=ok:=⟨_,rfl⟩
 have hA:=HAA.out
 rw [hv,hok] at hA
 have HV:Hid ((wholeN (s.data.toList.drop k3)).getD 0=v):=hv
 have HO:Hid ((wholeN (s.data.toList.drop k3)).isSome=ok):=hok
 have HA2:Hid (A=rrA c v ok fc fr):=hA
 clear hA HAA hv hok
 go_upto_region 13 with fail
 go_cut [6,7] (fun s6 s7 wx=>s6=.int .i64 v∧s7=.bool ok∧QS w c 0 fc fr wx)
 case first =>
  go_wp2_with fail
  refine (wholeF_any _ _ (by rw [ByteArray.size_extract];omega)).mono ?_
  rintro e w1 ⟨rfl,q1⟩
  have ed:(s.extract k3 s.size).data.toList=s.data.toList.drop k3:=by
   rw [Lib.extract_to_end]
  rw [ed,HV.out,HO.out]
  go_wp2_with fail
  go_meet
  case rel=>exact⟨rfl,rfl,hS.next q1⟩
 case rest =>
 clear hS HV HO
 obtain⟨rfl,rfl,hS⟩:=hcut
 have hB:=hS.below
 obtain⟨⟨o0,o1,o2,o3⟩,p0,p1,p2,p3⟩:=cells_four hS.own
 obtain⟨⟨g0,g1,g2,g3⟩,f0,f1,f2,f3⟩:=cells_four hS.res
 cases ok
 ·have HZ:Hid (A=#[R 0 0 false false,.bool false]):=by unfold Hid;rw [HA2.out];rfl
  clear HA2
  go_wp2_with fail
  exact bodyPost_ret (v:=.tuple #[R 0 0 false false,.bool false]) (by simp [results,Tryz.results142,go_sem,g0,g1,g2,g3]) rfl ⟨by rw [HZ.out],hB.trans (below4 (Nat.le_refl _))⟩
 by_cases hv1:(v:Int)<1
 ·have HZ:Hid (A=#[R 0 0 false false,.bool false]):=by
   unfold Hid
   rw [HA2.out]
   unfold rrA
   rw [if_neg (by simp;omega)]
  clear HA2
  go_wp2_with fail
  exact bodyPost_ret (v:=.tuple #[R 0 0 false false,.bool false]) (by simp [results,Tryz.results142,go_sem,g0,g1,g2,g3]) rfl ⟨by rw [HZ.out],hB.trans (below4 (Nat.le_refl _))⟩
 by_cases hv2:(99:Int)<(v:Int)
 ·have HZ:Hid (A=#[R 0 0 false false,.bool false]):=by
   unfold Hid
   rw [HA2.out]
   unfold rrA
   rw [if_neg (by simp;omega)]
  clear HA2
  go_wp2_with fail
  exact bodyPost_ret (v:=.tuple #[R 0 0 false false,.bool false]) (by simp [results,Tryz.results142,go_sem,g0,g1,g2,g3]) rfl ⟨by rw [HZ.out],hB.trans (below4 (Nat.le_refl _))⟩
 have HZ:Hid (A=#[R c v fc fr,.bool true]):=by
  unfold Hid
  rw [HA2.out]
  unfold rrA
  rw [if_pos (by simp;omega)]
 clear HA2
 go_wp2_with fail
 exact bodyPost_ret (v:=.tuple #[R c v fc fr,.bool true]) (by simp [results,Tryz.results142,go_sem,g0,g1,g2,g3]) rfl ⟨by rw [HZ.out],(hB.setCell (by simp) _).trans (below4 (Nat.le_refl _))⟩
end Go.Proofs.YtgifkepklnhddaaGreatDoor.adr
namespace Go.Proofs.YtgifkepklnhddaaGreatDoor.adr
open Go.RowKit
theorem isC_col {c r:Int} (h:¬ (1≤c∧c≤26)):isC c r=false:=by
 cases q:isC c r
 ·rfl
 ·exact absurd (isC_iff.1 q).1 h
theorem isC_row {c r:Int} (h:¬ (1≤r∧r≤99)):isC c r=false:=by
 cases q:isC c r
 ·rfl
 ·exact absurd (isC_iff.1 q).2 h
theorem row_decA {u:Nat} (h1:1≤u) (h2:u<100):rowAcc 0 (Lib.decDigits u)=u:=by
 by_cases h:u<10
 ·rw [dec_small h,rowAcc_step (by rw [u8 (by omega)];omega) (by rw [u8 (by omega)];omega),u8 (by omega)]
  show _=_
  simp only [rowAcc]
  omega
 ·rw [dec_two h h2,rowAcc_step (by rw [u8 (by omega)];omega) (by rw [u8 (by omega)];omega),u8 (by omega),
   rowAcc_step (by rw [u8 (by omega)];omega) (by rw [u8 (by omega)];omega),u8 (by omega)]
  simp only [rowAcc]
  omega
theorem rdR_short {s:ByteArray} (h:¬ b2N (isD s 0)<s.size):rdR s=⟨0,0,false,false,false⟩:=by unfold rdR;rw [dif_neg h]
theorem rdR_out {s:ByteArray} (h:b2N (isD s 0)<s.size) (h2:isC ((s[b2N (isD s 0)].toNat:Int) - 64) (rowAt s (b2N (isD s 0)+1+b2N (isD s (b2N (isD s 0)+1))))=false):rdR s=⟨0,0,false,false,false⟩:=by
 unfold rdR;rw [dif_pos h,if_neg (by simp [h2])]
theorem rdR_in {s:ByteArray} (h:b2N (isD s 0)<s.size) (h2:isC ((s[b2N (isD s 0)].toNat:Int) - 64) (rowAt s (b2N (isD s 0)+1+b2N (isD s (b2N (isD s 0)+1))))=true) :
  rdR s=⟨(s[b2N (isD s 0)].toNat:Int) - 64,rowAt s (b2N (isD s 0)+1+b2N (isD s (b2N (isD s 0)+1))),isD s 0,isD s (b2N (isD s 0)+1),true⟩:=by
 unfold rdR;rw [dif_pos h,if_pos h2]
theorem rref_any (s:ByteArray) (w:World) (hs:s.size≤140737488355328) :
  Calls Tryz.prog 142 #[.string s] w fun e w'=>e=.returned (.tuple #[R (rdR s).c (rdR s).r (rdR s).fc (rdR s).fr,.bool (rdR s).ok])∧Below w.heap.size w w':=by
 by_cases h:b2N (isD s 0)<s.size
 ·by_cases hl:65≤s[b2N (isD s 0)].toNat∧s[b2N (isD s 0)].toNat≤90
  ·refine rref_walk s w hs _ _ _ _ rfl rfl _ rfl rfl (Or.inr ⟨h,Or.inr ⟨hl,?_⟩⟩)
   generalize hk3:b2N (isD s 0)+1+b2N (isD s (b2N (isD s 0)+1))=k3
   have hrow:rowAt s k3=((rowAcc 0 (s.data.toList.drop k3):Nat):Int):=rfl
   by_cases hr:1≤rowAcc 0 (s.data.toList.drop k3)
   ·obtain⟨e,e99⟩:=row_some (r:=rowAcc 0 (s.data.toList.drop k3)) rfl hr
    have hw:wholeN (s.data.toList.drop k3)=some (rowAcc 0 (s.data.toList.drop k3)):=by
     have:=dec_whole (v:=rowAcc 0 (s.data.toList.drop k3)) (by omega)
     rw [← e] at this
     exact this
    have hc:isC ((s[b2N (isD s 0)].toNat:Int) - 64) (rowAt s k3)=true:=isC_iff.2 ⟨by omega,by rw [hrow];omega⟩
    have hR:=rdR_in h (by rw [hk3];exact hc)
    rw [hk3] at hR
    rw [hR,hw,hrow]
    unfold rrA
    rw [if_pos (by simp;omega)]
    rfl
   ·have hc:isC ((s[b2N (isD s 0)].toNat:Int) - 64) (rowAt s k3)=false:=isC_row (by rw [hrow];omega)
    rw [rdR_out h (by rw [hk3];exact hc)]
    unfold rrA
    rw [if_neg]
    intro q
    cases hw:wholeN (s.data.toList.drop k3) with
    | none=>rw [hw] at q;simp at q
    | some v =>
     rw [hw] at q
     simp at q
     have:=whole_dec hw
     have h2:=row_decA (u:=v) (by omega) (by omega)
     rw [this] at h2
     omega
  ·rw [rdR_out h (isC_col (by omega))]
   exact rref_walk s w hs _ _ _ _ rfl rfl _ rfl rfl (Or.inr ⟨h,Or.inl ⟨by omega,rfl⟩⟩)
 ·rw [rdR_short h]
  exact rref_walk s w hs _ _ _ _ rfl rfl _ rfl rfl (Or.inl ⟨h,rfl⟩)
end Go.Proofs.YtgifkepklnhddaaGreatDoor.adr
namespace Go.Proofs.YtgifkepklnhddaaGreatDoor.fm
open Go.RowKit
def wordR (t:ByteArray):Option T :=
 match wholeN t.data.toList with
 | some v=>some (.nd 1 (v:Nat) nul .z .z [])
 | none=>if (t.toList == [84,82,85,69])=true then some (.nd 3 1 nul .z .z []) else if (t.toList == [70,65,76,83,69])=true then some (.nd 3 0 nul .z .z []) else if (adr.rdR t).ok=true then some (tRef ⟨(adr.rdR t).c,(adr.rdR t).r,(adr.rdR t).fc,(adr.rdR t).fr⟩) else none
def wres (t:ByteArray) (a e:Nat):Rs T:=match wordR t with | none=>.err a 2 | some u=>.ok u e
set_option maxRecDepth 100000 in
set_option maxHeartbeats 8000000 in
theorem rone_word (pb k d:Nat) (wr:Int) (s:ByteArray) (hs:s.size≤200) (w:World) (h:PD w pb s k wr 0 d) (hk:k≤s.size) (t:Tk) (ht:tkR s k=t) (hc:t.kind=1) (htz:t.t.size≤200) (hg:false=(isNm t.t && decide (nx s t.e=40))) (RR:Rs T) (hRR:RR=wres t.t t.a t.e) :
  Calls Tryz.prog 110 #[ptr pb] w (OutR w pb s d wr (RR)):=by
 have hte:t.e≤s.size:=ht ▸ (tk_spec s k hk).2.2
 have HT:Hid (∀ w,Calls Tryz.prog 81 #[.string s,.int .i64 k] w fun e w'=>e=.returned (KV (tkR s k).kind ((tkR s k).a:Nat) ((tkR s k).e:Nat) (tkR s k).t)∧Below w.heap.size w w'):=fun w=>token_at s k w hs hk
 rw [ht] at HT
 clear ht
 have HHC:Hid (t.kind=1):=hc
 clear hc
 have HHRR:Hid (RR=wres t.t t.a t.e):=hRR
 clear hRR
 obtain⟨g,hgf⟩:∃ g:Bool,g=false:=⟨_,rfl⟩
 rw [← hgf] at hg
 have HGF:Hid (g=false):=hgf
 clear hgf
 go_enter Tryz.func110,Tryz.ntmps110
 go_upto_region 1 with fail
 have h0:PD (w.alloc (.cells NZ 57)) pb s k wr 0 d:=h.below ((Below.refl _ _).alloc (Nat.le_refl _) _)
 have hr:(w.alloc (.cells NZ 57)).heap[w.heap.size]?=some (.cells NZ 57 (0,0)):=blk_new _ _
 have hK0:Kp (·=pb) w (w.alloc (.cells NZ 57)):=(Kp.refl _ w).alloc _
 have hlt:=h.lt
 have hrl:w.heap.size<(w.alloc (.cells NZ 57)).heap.size:=by simp
 obtain⟨rb,hrb⟩:∃ rb,w.heap.size=rb:=⟨_,rfl⟩
 rw [hrb] at hr hrl hlt ⊢
 have HRB:Hid (w.heap.size=rb):=hrb
 clear hrb
 generalize w.alloc (.cells NZ 57)=w0 at *
 obtain⟨⟨c0,c1,c2,c3,c4⟩,f0,f1,f2,f3,f4⟩:=h0.cells
 have hrp:rb≠pb:=by omega
 go_cut [3] (fun s3 wx=>∃ kb,s3=ptr kb∧KS w0 t kb wx)
 case first =>
  have hlt0:=h0.lt
  have hne:w0.heap.size≠pb:=by omega
  have hne':pb≠w0.heap.size:=by omega
  have KK:Hid (∀ wx,Below w0.heap.size w0 wx→wx.cell? ⟨pb,0,none⟩=some (.string s)∧wx.cell? ⟨pb,1,none⟩=some (.int .i64 k)):=fun wx hb=>⟨(hb.cell (p:=⟨pb,0,none⟩) hlt0).trans c0,(hb.cell (p:=⟨pb,1,none⟩) hlt0).trans c1⟩
  clear c0 c1 c2 c3 c4 f0 f1 f2 f3 f4
  go_region_held3 (fun wx=>wx.cell? ⟨pb,0,none⟩=some (.string s)∧wx.cell? ⟨pb,1,none⟩=some (.int .i64 k)) (exact KK.out _ (by (repeat (first | exact Below.refl _ _ | assumption | (refine Below.setCell ?_ (by first | exact Nat.le_refl _ | omega) _) | (refine Below.alloc ?_ (by first | exact Nat.le_refl _ | exact hb'.size | omega | (simp<;>omega)) _) | (refine Below.drew ?_))))) ((go_at_call 81;refine (HT.out _).mono ?_;rintro e w1 ⟨rfl,hb⟩;have hb':Below w0.heap.size w0 w1:=(by first | exact kb1 hb | exact kb2 hb);first | (have hz:=kz_a hb;have hz4:=cells4f hz;obtain⟨⟨z0,z1,z2,z3⟩,y0,y1,y2,y3⟩:=hz4) | skip))
  all_goals
   go_wp2_with fail
   go_meet
   case rel=>first | exact⟨_,rfl,ks3 hb⟩ | exact ks2 hb (Q:=fun W=>∃ kb,_=ptr kb∧KS w0 t kb W) (fun w2 h2=>⟨_,rfl,h2⟩)
 case rest =>
 obtain⟨kb,rfl,hS⟩:=hcut
 clear c0 c1 c2 c3 c4 f0 f1 f2 f3 f4 HT
 have hlo:=hS.lo
 have hne:kb≠pb:=by have:=h0.lt;omega
 have hner:kb≠rb:=by omega
 have hP:PD wc pb s k wr 0 d:=h0.below hS.below
 obtain⟨⟨c0,c1,c2,c3,c4⟩,f0,f1,f2,f3,f4⟩:=hP.cells
 obtain⟨⟨z0,z1,z2,z3⟩,y0,y1,y2,y3⟩:=cells4f hS.blk
 have hKx:Kp (·=pb) w wc:=hK0.below hS.below
 have hrc:wc.heap[rb]?=some (.cells NZ 57 (0,0)):=by rw [hS.below.block rb hrl];exact hr
 have hPe:=hP.setAt t.e
 have hKe:Kp (·=pb) wc (wc.setCell ⟨pb,1,none⟩ (.int .i64 t.e)):=kpset _ _ _ _
 have hrce:=hKe.blk hrc hrp
 have hkbe:=hKe.blk hS.blk hne
 have hKw:=hKx.trans hKe (fun n e=>.inl e)
 rw [HHC.out] at z0
 go_upto_region 6 with (first | (go_at_call 117;refine (called_any t.t _ htz).mono ?_;rintro e w3 ⟨rfl,rfl⟩))
 have hPel:=hPe.lt
 obtain⟨⟨e0,e1,e2,e3,e4⟩,h0',h1',h2',h3',h4'⟩:=hPe.cells
 obtain⟨⟨x0,x1,x2,x3⟩,v0,v1,v2,v3⟩:=cells4f hkbe
 clear c0 c1 c2 c3 c4 f0 f1 f2 f3 f4 z0 z1 z2 z3 y0 y1 y2 y3
 generalize wc.setCell ⟨pb,1,none⟩ (.int .i64 t.e)=we at *
 have HG:Hid (g=(isNm t.t && decide (nx s t.e=40))):=hg
 clear hg
 generalize isNm t.t=nm at *
 go_cut [56] (fun s56 wx=>s56=.bool g∧Below we.heap.size we wx)
 case first =>
  cases nm with
  | false =>
   have HG2:Hid (g=false):=by unfold Hid;rw [HG.out];rfl
   clear HG
   go_quiet (fail)
   go_wp2_with fail
   go_meet
   case rel=>exact⟨by rw [HG2.out],below_drewN (Below.refl _ _) _⟩
  | true =>
   by_cases hl:t.e<s.size
   ·have hl':(t.e:Int)<(s.size:Int):=by omega
    have hnn:(0:Int)≤(t.e:Int):=by omega
    have hb:(((s[t.e].toNat:Nat):Int) == 40)=g:=by
     rw [HG.out,nx_in hl,Bool.eq_iff_iff,beq_iff_eq]
     simp
     omega
    clear HG
    go_quiet (fail)
    go_wp2_with fail
    go_meet
    case rel=>exact⟨rfl,below_drewN (Below.refl _ _) _⟩
   ·have hl':¬ (t.e:Int)<(s.size:Int):=by omega
    have HG2:Hid (g=false):=by unfold Hid;rw [HG.out,nx_out hl];simp
    clear HG
    go_quiet (fail)
    go_wp2_with fail
    go_meet
    case rel=>exact⟨by rw [HG2.out],below_drewN (Below.refl _ _) _⟩
 case rest =>
 obtain⟨rfl,hbW⟩:=hcut
 clear e0 e1 e2 e3 e4 h0' h1' h2' h3' h4' x0 x1 x2 x3 v0 v1 v2 v3
 have hP6:PD wc pb s t.e wr 0 d:=hPe.below hbW
 have hr6:wc.heap[rb]?=some (.cells NZ 57 (0,0)):=by rw [hbW.block _ (lt_blk hrce)];exact hrce
 have hk6:wc.heap[kb]?=some (.cells (K4 t) 137 (0,0)):=by rw [hbW.block _ (lt_blk hkbe)];exact hkbe
 have hKw6:=hKw.below hbW
 obtain⟨⟨x0,x1,x2,x3⟩,v0,v1,v2,v3⟩:=cells4f hk6
 rw [HGF.out]
 go_wp2_with fail
 go_at_call 141
 cases hw:wholeN t.t.data.toList with
 | some v =>
  have HR:Hid (RR=.ok (.nd 1 (v:Nat) nul .z .z []) t.e):=by
   unfold Hid
   rw [HHRR.out]
   unfold wres wordR
   rw [hw]
  refine (wholeF_any t.t _ (by omega)).mono ?_
  rw [hw]
  rintro e w7 ⟨rfl,hb7⟩
  clear x0 x1 x2 x3 v0 v1 v2 v3 HHRR hw
  have hr7:w7.heap[rb]?=some (.cells NZ 57 (0,0)):=by rw [hb7.block _ (lt_blk hr6)];exact hr6
  have hk7:w7.heap[kb]?=some (.cells (K4 t) 137 (0,0)):=by rw [hb7.block _ (lt_blk hk6)];exact hk6
  have hP7:=hP6.below hb7
  have hKw7:=hKw6.below hb7
  obtain⟨⟨d0,d1,d2,d3,d4,d5,d6,d7,d8,d9,d10,d11⟩,df⟩:=cells12 hr7
  go_wp2_with fail
  clear d0 d1 d2 d3 d4 d5 d6 d7 d8 d9 d10 d11 df
  refine fin12 hr7 (Q:=bodyPost _ _ _ _ _) ?_
  intro w9 hq9 hk9
  obtain⟨⟨b0,b1,b2,b3,b4,b5,b6,b7,b8,b9,b10,b11⟩,bf⟩:=cells12 hq9
  refine bodyPost_ret (v:=NV 1 (v:Nat) nul .z .z (.slice none 0 0)) (by simp [results,Tryz.results110,go_sem,b0,b1,b2,b3,b4,b5,b6,b7,b8,b9,b10,b11]) rfl ?_
  have hP9:=hP7.keep hk9 (fun e=>hrp e.symm)
  have hK9:=hKw7.trans hk9 (fun n e=>by right;rw [HRB.out,e];exact Nat.le_refl _)
  rw [HR.out]
  exact⟨_,t.e,rfl,Nd.leaf,hP9,hte,rfl,hK9⟩
 | none =>
  refine (wholeF_any t.t _ (by omega)).mono ?_
  rw [hw]
  rintro e w7 ⟨rfl,hb7⟩
  clear x0 x1 x2 x3 v0 v1 v2 v3
  have hr7:w7.heap[rb]?=some (.cells NZ 57 (0,0)):=by rw [hb7.block _ (lt_blk hr6)];exact hr6
  have hk7:w7.heap[kb]?=some (.cells (K4 t) 137 (0,0)):=by rw [hb7.block _ (lt_blk hk6)];exact hk6
  have hP7:=hP6.below hb7
  have hKw7:=hKw6.below hb7
  obtain⟨⟨x0,x1,x2,x3⟩,v0,v1,v2,v3⟩:=cells4f hk7
  obtain⟨⟨d0,d1,d2,d3,d4,d5,d6,d7,d8,d9,d10,d11⟩,df⟩:=cells12 hr7
  cases hT:(t.t.toList == [84,82,85,69]) with
  | true =>
   have HR:Hid (RR=.ok (.nd 3 1 nul .z .z []) t.e):=by
    unfold Hid
    rw [HHRR.out]
    unfold wres wordR
    rw [hw]
    simp only [hT,if_true]
   clear HHRR hw
   go_wp2_with fail
   clear x0 x1 x2 x3 v0 v1 v2 v3 d0 d1 d2 d3 d4 d5 d6 d7 d8 d9 d10 d11 df
   refine fin12 hr7 (Q:=bodyPost _ _ _ _ _) ?_
   intro w9 hq9 hk9
   obtain⟨⟨b0,b1,b2,b3,b4,b5,b6,b7,b8,b9,b10,b11⟩,bf⟩:=cells12 hq9
   refine bodyPost_ret (v:=NV 3 1 nul .z .z (.slice none 0 0)) (by simp [results,Tryz.results110,go_sem,b0,b1,b2,b3,b4,b5,b6,b7,b8,b9,b10,b11]) rfl ?_
   have hP9:=hP7.keep hk9 (fun e=>hrp e.symm)
   have hK9:=hKw7.trans hk9 (fun n e=>by right;rw [HRB.out,e];exact Nat.le_refl _)
   rw [HR.out]
   exact⟨_,t.e,rfl,Nd.leaf,hP9,hte,rfl,hK9⟩
  | false =>
  cases hF:(t.t.toList == [70,65,76,83,69]) with
  | true =>
   have HR:Hid (RR=.ok (.nd 3 0 nul .z .z []) t.e):=by
    unfold Hid
    rw [HHRR.out]
    unfold wres wordR
    rw [hw]
    simp only [hT,hF,if_true]
    rfl
   clear HHRR hw
   go_wp2_with fail
   clear x0 x1 x2 x3 v0 v1 v2 v3 d0 d1 d2 d3 d4 d5 d6 d7 d8 d9 d10 d11 df
   refine fin12 hr7 (Q:=bodyPost _ _ _ _ _) ?_
   intro w9 hq9 hk9
   obtain⟨⟨b0,b1,b2,b3,b4,b5,b6,b7,b8,b9,b10,b11⟩,bf⟩:=cells12 hq9
   refine bodyPost_ret (v:=NV 3 0 nul .z .z (.slice none 0 0)) (by simp [results,Tryz.results110,go_sem,b0,b1,b2,b3,b4,b5,b6,b7,b8,b9,b10,b11]) rfl ?_
   have hP9:=hP7.keep hk9 (fun e=>hrp e.symm)
   have hK9:=hKw7.trans hk9 (fun n e=>by right;rw [HRB.out,e];exact Nat.le_refl _)
   rw [HR.out]
   exact⟨_,t.e,rfl,Nd.leaf,hP9,hte,rfl,hK9⟩
  | false =>
   have HR:Hid (RR=if (adr.rdR t.t).ok=true then .ok (tRef ⟨(adr.rdR t.t).c,(adr.rdR t.t).r,(adr.rdR t.t).fc,(adr.rdR t.t).fr⟩) t.e else .err t.a 2):=by
    unfold Hid
    rw [HHRR.out]
    unfold wres wordR
    rw [hw]
    simp only [hT,hF]
    cases (adr.rdR t.t).ok<;>rfl
   have HRF:Hid (∀ w,Calls Tryz.prog 142 #[.string t.t] w fun e w'=>e=.returned (.tuple #[adr.R (adr.rdR t.t).c (adr.rdR t.t).r (adr.rdR t.t).fc (adr.rdR t.t).fr,.bool (adr.rdR t.t).ok])∧Below w.heap.size w w'):=fun w=>adr.rref_any t.t w (by omega)
   generalize adr.rdR t.t=D at *
   clear HHRR hw
   clear d0 d1 d2 d3 d4 d5 d6 d7 d8 d9 d10 d11 df
   go_wp2_with fail
   go_at_call 142
   refine (HRF.out _).mono ?_
   rintro e w8 ⟨rfl,hb8⟩
   clear x0 x1 x2 x3 v0 v1 v2 v3 HRF
   have hr8:w8.heap[rb]?=some (.cells NZ 57 (0,0)):=by rw [hb8.block _ (lt_blk hr7)];exact hr7
   have hk8:w8.heap[kb]?=some (.cells (K4 t) 137 (0,0)):=by rw [hb8.block _ (lt_blk hk7)];exact hk7
   have hP8:=hP7.below hb8
   have hKw8:=hKw7.below hb8
   have hb9:Below w8.heap.size w8 (w8.alloc (.cells #[.int .i64 D.c,.int .i64 D.r,.bool D.fc,.bool D.fr] 54)):=(Below.refl _ _).alloc (Nat.le_refl _) _
   have hrA:(w8.alloc (.cells #[.int .i64 D.c,.int .i64 D.r,.bool D.fc,.bool D.fr] 54)).heap[rb]?=some (.cells NZ 57 (0,0)):=by rw [hb9.block _ (lt_blk hr8)];exact hr8
   have hkA:(w8.alloc (.cells #[.int .i64 D.c,.int .i64 D.r,.bool D.fc,.bool D.fr] 54)).heap[kb]?=some (.cells (K4 t) 137 (0,0)):=by rw [hb9.block _ (lt_blk hk8)];exact hk8
   have hPA:=hP8.below hb9
   have hKwA:=hKw8.below hb9
   obtain⟨⟨x0,x1,x2,x3⟩,v0,v1,v2,v3⟩:=cells4f hkA
   obtain⟨⟨d0,d1,d2,d3,d4,d5,d6,d7,d8,d9,d10,d11⟩,df⟩:=cells12 hrA
   cases hok:D.ok with
   | true =>
    have HR2:Hid (RR=.ok (tRef ⟨D.c,D.r,D.fc,D.fr⟩) t.e):=by
     unfold Hid
     rw [HR.out,hok,if_pos rfl]
    clear HR
    go_wp2_with fail
    clear x0 x1 x2 x3 v0 v1 v2 v3 d0 d1 d2 d3 d4 d5 d6 d7 d8 d9 d10 d11 df
    refine fin12 hrA (Q:=bodyPost _ _ _ _ _) ?_
    intro w9 hq9 hk9
    obtain⟨⟨b0,b1,b2,b3,b4,b5,b6,b7,b8,b9,b10,b11⟩,bf⟩:=cells12 hq9
    refine bodyPost_ret (v:=NV 5 0 nul ⟨D.c,D.r,D.fc,D.fr⟩ .z (.slice none 0 0)) (by simp [results,Tryz.results110,go_sem,b0,b1,b2,b3,b4,b5,b6,b7,b8,b9,b10,b11]) rfl ?_
    have hP9:=hPA.keep hk9 (fun e=>hrp e.symm)
    have hK9:=hKwA.trans hk9 (fun n e=>by right;rw [HRB.out,e];exact Nat.le_refl _)
    rw [HR2.out]
    exact⟨_,t.e,rfl,Nd.leaf,hP9,hte,rfl,hK9⟩
   | false =>
    have HR2:Hid (RR=.err t.a 2):=by
     unfold Hid
     rw [HR.out,hok,if_neg (by simp)]
    clear HR
    go_wp2_with fail
    go_at_call 82
    refine (fail_first pb t.e d wr s t.a 2 _ hPA).mono ?_
    rintro e wB ⟨rfl,hPB,hKB⟩
    clear x0 x1 x2 x3 v0 v1 v2 v3 d0 d1 d2 d3 d4 d5 d6 d7 d8 d9 d10 d11 df
    have hrB:=hKB.blk hrA hrp
    have hKwB:=hKwA.trans hKB (fun n e=>.inl e)
    obtain⟨⟨d0,d1,d2,d3,d4,d5,d6,d7,d8,d9,d10,d11⟩,df⟩:=cells12 hrB
    go_wp2_with fail
    clear d0 d1 d2 d3 d4 d5 d6 d7 d8 d9 d10 d11 df
    refine fin12 hrB (Q:=bodyPost _ _ _ _ _) ?_
    intro w9 hq9 hk9
    obtain⟨⟨b0,b1,b2,b3,b4,b5,b6,b7,b8,b9,b10,b11⟩,bf⟩:=cells12 hq9
    refine bodyPost_ret (v:=NV 0 0 nul .z .z (.slice none 0 0)) (by simp [results,Tryz.results110,go_sem,b0,b1,b2,b3,b4,b5,b6,b7,b8,b9,b10,b11]) rfl ?_
    have hP9:=hPB.keep hk9 (fun e=>hrp e.symm)
    have hK9:=hKwB.trans hk9 (fun n e=>by right;rw [HRB.out,e];exact Nat.le_refl _)
    rw [HR2.out]
    exact⟨_,_,t.e,rfl,Nd.leaf,hP9,hte,by omega,hK9⟩
end Go.Proofs.YtgifkepklnhddaaGreatDoor.fm
namespace Go.Proofs.YtgifkepklnhddaaGreatDoor.fm
open Go.RowKit
theorem quote_len (s:ByteArray) (k:Nat) (acc:List UInt8):∀ l k',quote s k acc=some (l,k')→l.length+k≤acc.length+k':=by
 fun_induction quote s k acc with
 | case1 k acc h h1 h2 ih=>intro l k' e;have:=ih l k' e;simp at this;omega
 | case2 k acc h h1 h2=>intro l k' e;cases e;omega
 | case3 k acc h h1 ih=>intro l k' e;have:=ih l k' e;simp at this;omega
 | case4 k acc h=>intro l k' e;cases e
theorem bad_size (n:Nat) (h1:1≤n) (h6:n≤6):(sh 4 (n:Nat) YtgifkepklnhddaaGreatDoor.nul).size≤200:=by
 match n,h1,h6 with
 | 1,_,_=>decide +kernel
 | 2,_,_=>decide +kernel
 | 3,_,_=>decide +kernel
 | 4,_,_=>decide +kernel
 | 5,_,_=>decide +kernel
 | 6,_,_=>decide +kernel
 | n+7,_,h6=>omega
theorem tk_text (s:ByteArray) (j:Nat) (hs:s.size≤200) (hj:j≤s.size):(tkR s j).t.size≤200:=by
 have hj1:=(skip_spec s j).2.2 hj
 unfold tkR
 by_cases h0:skip s j=s.size
 ·rw [if_pos h0];exact Nat.zero_le _
 rw [if_neg h0]
 by_cases h1:isW (nx s (skip s j))=true
 ·rw [if_pos h1]
  have:=tok_size s (skip s j) hj1
  have:=(tok_spec s (skip s j)).2.2.1 hj1
  simp only
  omega
 rw [if_neg h1]
 by_cases h2:nx s (skip s j)=34
 ·rw [if_pos h2]
  cases hq:quote s (skip s j+1) [] with
  | none=>exact Nat.zero_le _
  | some p =>
   obtain⟨l,e⟩:=p
   have h1:=quote_spec s _ _ _ _ hq
   have h2:=quote_len s _ _ _ _ hq
   show l.toArray.size≤200
   simp at h2 ⊢
   omega
 rw [if_neg h2]
 by_cases h3:nx s (skip s j)=35
 ·rw [if_pos h3]
  cases hq:badAt s (skip s j) with
  | none=>exact Nat.zero_le _
  | some p =>
   obtain⟨n,len⟩:=p
   have:=badAt_spec hq
   exact bad_size n this.1 this.2.1
 rw [if_neg h3]
 by_cases h4:two2 s (skip s j)=true
 ·rw [if_pos h4];simp only [ByteArray.size_extract];omega
 ·rw [if_neg h4];simp only [ByteArray.size_extract];omega
section
variable (L:Lex) (s:ByteArray)
theorem Operand_skip {d a b:Nat} (ha:a≤s.size) (hb:b≤s.size) (h:skip s a=skip s b):Operand L s d a=Operand L s d b:=by
 rw [Operand_eq L s d a ha,Operand_eq L s d b hb,h]
theorem Expr_skip {l d a b:Nat} (h1:1≤l) (h5:l≤5) (ha:a≤s.size) (hb:b≤s.size) (h:skip s a=skip s b):Expr L s l d a=Expr L s l d b:=by
 rw [Expr_chain L s _ l d a rfl h1 h5 ha,Expr_chain L s _ l d b rfl h1 h5 hb,Operand_skip L s ha hb h]
end
def boxG (s:ByteArray) (tk:Tk):Bool:=(tk.kind == 1) && (adr.rdR tk.t).ok && decide (nx s tk.e=58)
abbrev rfOf (t:ByteArray):Rf:=⟨(adr.rdR t).c,(adr.rdR t).r,(adr.rdR t).fc,(adr.rdR t).fr⟩
theorem refOf_yes {t:ByteArray} (h:(adr.rdR t).ok=true):refOf t=some (rfOf t):=by unfold refOf;rw [if_pos h]
theorem refOf_no {t:ByteArray} (h:(adr.rdR t).ok=false):refOf t=none:=by unfold refOf;rw [if_neg (by simp [h])]
theorem arg_plain (s:ByteArray) (j D:Nat) (hj:j≤s.size) (h:boxG s (tkR s j)=false):Arg lexP s D j=Expr lexP s 1 D j:=by
 have hj1:=(skip_spec s j).2.2 hj
 rw [Arg_eq lexP s D j hj,Expr_skip lexP s (a:=j) (b:=skip s j) (Nat.le_refl _) (by omega) hj hj1 (skip_skip s j).symm]
 cases hw:isW (nx s (skip s j)) with
 | false =>
  rw [tok_none hw]
  have:lexP.ref ⟨#[]⟩=none:=lexP.noref
  rw [this]
 | true =>
  have ht:=tk_word s j hj hw
  rw [ht] at h
  unfold boxG at h
  simp only at h
  cases hok:(adr.rdR (tok s (skip s j))).ok with
  | false=>rw [show lexP.ref (tok s (skip s j))=none from refOf_no hok]
  | true =>
   rw [show lexP.ref (tok s (skip s j))=some _ from refOf_yes hok]
   rw [hok] at h
   simp at h
   simp only
   rw [if_neg h]
theorem arg_box (s:ByteArray) (j D:Nat) (hj:j≤s.size) (h:boxG s (tkR s j)=true) :
  (tkR s j).e<s.size∧(∀ r2,refOf (tok s ((tkR s j).e+1))=some r2→Arg lexP s D j=.ok (tBox (rfOf (tkR s j).t) r2) (tokEnd s ((tkR s j).e+1)))∧(refOf (tok s ((tkR s j).e+1))=none→Arg lexP s D j=.err ((tkR s j).e+1) 2):=by
 have h':=h
 unfold boxG at h
 simp at h
 obtain⟨⟨h1,h2⟩,h3⟩:=h
 have hw:=tk_kind1 s j h1
 have ht:=tk_word s j hj hw
 refine⟨nx_lt (by omega),fun r2 hr=>?_,fun hr=>?_⟩
 ·rw [Arg_eq lexP s D j hj]
  rw [ht] at h2 h3 hr ⊢
  simp only at h2 h3 hr ⊢
  rw [show lexP.ref (tok s (skip s j))=some _ from refOf_yes h2]
  simp only
  rw [if_pos h3,show lexP.ref (tok s (tokEnd s (skip s j)+1))=some r2 from hr]
 ·rw [Arg_eq lexP s D j hj]
  rw [ht] at h2 h3 hr ⊢
  simp only at h2 h3 hr ⊢
  rw [show lexP.ref (tok s (skip s j))=some _ from refOf_yes h2]
  simp only
  rw [if_pos h3,show lexP.ref (tok s (tokEnd s (skip s j)+1))=none from hr]
theorem box_no (s:ByteArray) (q:Nat) (hq:q≤s.size) (h:(tkR s q).a≠q∨(tkR s q).kind≠1∨(adr.rdR (tkR s q).t).ok=false):refOf (tok s q)=none:=by
 have hno:refOf ⟨#[]⟩=none:=lexP.noref
 by_cases hw:isW (nx s q)=true
 ·have hsk:skip s q=q:=skip_else (by intro e;rw [e] at hw;revert hw;decide)
  have ht:=tk_word s q hq (by rw [hsk];exact hw)
  rw [hsk] at ht
  rw [ht] at h
  simp at h
  exact refOf_no h
 ·rw [tok_none (by simpa using hw)];exact hno
theorem box_yes (s:ByteArray) (q:Nat) (hq:q≤s.size) (h1:(tkR s q).a=q) (h2:(tkR s q).kind=1) (h3:(adr.rdR (tkR s q).t).ok=true):refOf (tok s q)=some (rfOf (tkR s q).t)∧(tkR s q).e=tokEnd s q:=by
 have hsk:skip s q=q:=by rw [← (tk_spec s q hq).1];exact h1
 have hw:=tk_kind1 s q h2
 have ht:=tk_word s q hq hw
 rw [hsk] at ht
 rw [ht] at h3 ⊢
 exact⟨refOf_yes h3,rfl⟩
end Go.Proofs.YtgifkepklnhddaaGreatDoor.fm
