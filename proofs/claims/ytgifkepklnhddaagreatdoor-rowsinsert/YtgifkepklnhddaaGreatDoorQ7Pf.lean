import Derived.Test.YtgifkepklnhddaaGreatDoorQ7Pc
namespace Go.Proofs.YtgifkepklnhddaaGreatDoor.fm
open Go.RowKit
set_option maxRecDepth 100000 in
set_option maxHeartbeats 4000000 in
theorem isNode_any {w:World} {P:Nat→Prop} {v:Value} {t:T} (h:Nd w P v t):Ok t→∀ w1,Below w.heap.size w w1 →
  Calls Tryz.prog 150 #[v] w1 fun e w'=>∃ b,e=.returned (.bool b)∧(b=true↔Wf t)∧Below w1.heap.size w1 w':=by
 induction h with
 | @mk k n s r t p m c us ts hk hl hs ih =>
 intro hO w1 hb1
 have hm:m=ts.length:=by rw [hk.1,hl]
 have hO1:n≤9223372036854775807:=by cases hO with | mk h1 h2 h3=>exact h1
 have hO2:ts.length≤9223372036854775807:=by cases hO with | mk h1 h2 h3=>exact h2
 have hO3:∀ (i:Nat) u,ts[i]?=some u→Ok u:=by cases hO with | mk h1 h2 h3=>exact h3
 have HW:Hid (Wf (.nd k n s r t ts)↔(ftB k n s r t m=true∧hmB k n s r t m=false)∧∀ (i:Nat) u,ts[i]?=some u→(u.kd≠6∨k=9)∧Wf u):=by rw [hm];exact wf_iff hO1
 have hS0:=OB.start hb1 (N12 k n s r t (.slice p m c))
 clear hO hO1
 have HK:Hid (Kids w P p m c us):=hk
 have HL:Hid (us.length=ts.length):=hl
 have HS:Hid (∀ (i:Nat) u t',us[i]?=some u→ts[i]?=some t'→Nd w P u t'):=hs
 have HI:Hid (∀ (i:Nat) u t',us[i]?=some u→ts[i]?=some t'→Ok t'→∀ w1,Below w.heap.size w w1→Calls Tryz.prog 150 #[u] w1 fun e w'=>∃ b,e=.returned (.bool b)∧(b=true↔Wf t')∧Below w1.heap.size w1 w'):=fun i u t' h1 h2=>ih i u t' h1 h2
 have HO3:Hid (∀ (i:Nat) u,ts[i]?=some u→Ok u):=hO3
 have HM:Hid (m=ts.length):=hm
 have hB3:m≤9223372036854775807:=by omega
 clear hl hk hs ih hO3 hO2 hm
 obtain⟨⟨a0,a1,a2,a3,a4,a5,a6,a7,a8,a9,a10,a11⟩,af⟩:=cells12 hS0.a
 go_enter Tryz.func150,Tryz.ntmps150
 go_wp2_with fail
 refine (fits_any k n s r t p m c _).mono ?_
 rintro e w2 ⟨rfl,hb2⟩
 have hS1:=hS0.next hb2
 clear a0 a1 a2 a3 a4 a5 a6 a7 a8 a9 a10 a11 af hS0 hb2
 generalize w1.alloc _=w1a at *
 cases hf:ftB k n s r t m
 ·have HF:Hid (ftB k n s r t m=false):=hf
  clear hf
  go_wp2_with fail
  go_ret
  refine⟨_,rfl,?_,hS1.below1⟩
  rw [HW.out,HF.out];simp
 have HF:Hid (ftB k n s r t m=true):=hf
 clear hf
 obtain⟨⟨a0,a1,a2,a3,a4,a5,a6,a7,a8,a9,a10,a11⟩,af⟩:=cells12 hS1.a
 go_wp2_with fail
 refine (more_any k n s r t p m c _).mono ?_
 rintro e w3 ⟨rfl,hb3⟩
 have hS2:=hS1.next hb3
 clear a0 a1 a2 a3 a4 a5 a6 a7 a8 a9 a10 a11 af hS1 hb3
 by_cases hh:hmB k n s r t m=true
 ·have HH:Hid (hmB k n s r t m=true):=hh
  rw [hh]
  clear hh
  go_wp2_with fail
  go_ret
  refine⟨_,rfl,?_,hS2.below1⟩
  rw [HW.out,HH.out];simp
 rw [Bool.not_eq_true] at hh
 have HH:Hid (hmB k n s r t m=false):=hh
 rw [hh]
 clear hh
 obtain⟨⟨a0,a1,a2,a3,a4,a5,a6,a7,a8,a9,a10,a11⟩,af⟩:=cells12 hS2.a
 go_wp2_with fail
 clear a0 a1 a2 a3 a4 a5 a6 a7 a8 a9 a10 a11 af
 go_loopw [4,15] (fun _ i wr=>∃ j:Nat,i=.int .i64 j∧j≤m∧OB w w1 (N12 k n s r t (.slice p m c)) wr∧∀ (i:Nat) u,i<j→ts[i]?=some u→(u.kd≠6∨k=9)∧Wf u) (fun _ i _=>m - (intOf i).toNat)
 case atStart=>exact⟨0,rfl,Nat.zero_le _,hS2,fun i u hi=>absurd hi (Nat.not_lt_zero _)⟩
 case round =>
  clear hS2
  obtain⟨j,rfl,hj,hS,hR⟩:=hrel
  have HR:Hid (∀ (i:Nat) u,i<j→ts[i]?=some u→(u.kd≠6∨k=9)∧Wf u):=hR
  clear hR
  obtain⟨⟨a0,_⟩,_⟩:=cells12 hS.a
  by_cases hlt:j<m
  ·obtain⟨g,o,u,t1,rfl,hg,hu,ht1,hc⟩:=kid_at HK.out HL.out HS.out j hlt
   have hN:=HS.out j u t1 hu ht1
   have HC:=HI.out j u t1 hu ht1 (HO3.out j t1 ht1)
   have e1:∀ jj x,u.cells.toList[jj]?=some x→wr.cell? ⟨g,o+j*12+jj,none⟩=some x:=fun jj x hx=>by rw [hS.below.cell (p:=⟨g,_,none⟩) hg];exact hc jj x hx
   clear HI hc
   have HCC:Hid (∀ w1,Below w.heap.size w w1→Calls Tryz.prog 150 #[u] w1 fun e w'=>∃ b,e=.returned (.bool b)∧(b=true↔Wf t1)∧Below w1.heap.size w1 w'):=HC
   clear HC
   have HT:Hid (ts[j]?=some t1):=ht1
   clear ht1
   cases hN with
   | @mk k1 n1 s1 ra rb p1 m1 q1 us1 ts1 _ _ _ =>
   have hlt':(j:Int)<(m:Int):=by omega
   have hj':(0:Int)≤(j:Int):=by omega
   have x0:=e1 0 _ rfl
   have x1:=e1 1 _ rfl
   have x2:=e1 2 _ rfl
   have x3:=e1 3 _ rfl
   have x4:=e1 4 _ rfl
   have x5:=e1 5 _ rfl
   have x6:=e1 6 _ rfl
   have x7:=e1 7 _ rfl
   have x8:=e1 8 _ rfl
   have x9:=e1 9 _ rfl
   have x10:=e1 10 _ rfl
   have x11:=e1 11 _ rfl
   simp only [Nat.add_zero] at x0
   have hSa:=hS.next ((Below.refl wr.heap.size wr).alloc (Nat.le_refl _) (.cells (N12 k1 n1 s1 ra rb (.slice p1 m1 q1)) 57))
   obtain⟨⟨b0,_⟩,_⟩:=cells12 hSa.a
   clear e1
   by_cases h6:k1=6∧k≠9
   ·obtain⟨rfl,h9⟩:=h6
    have H9:Hid (k≠9):=h9
    go_wp2_with fail
    go_ret
    refine⟨_,rfl,?_,hSa.below1⟩
    rw [HW.out]
    simp only [Bool.false_eq_true,false_iff,not_and]
    intro _ hall
    rcases (hall j _ HT.out).1 with h | h
    ·exact h rfl
    ·exact H9.out h
   ·have H6:Hid ((T.nd k1 n1 s1 ra rb ts1).kd≠6∨k=9):=by
     unfold Hid
     by_cases e:k1=6
     ·right;by_cases e2:k=9
      ·exact e2
      ·exact absurd ⟨e,e2⟩ h6
     ·left;exact e
    by_cases h6':k1=6
    ·subst h6'
     have hk9:k=9:=by rcases H6.out with h | h;exact absurd rfl h;exact h
     subst hk9
     clear h6
     go_wp2_with fail
     refine (HCC.out _ hSa.below).mono ?_
     rintro e w3 ⟨b,rfl,hb,hb3⟩
     have HB:Hid (b=true↔Wf (T.nd 6 n1 s1 ra rb ts1)):=hb
     have hS3:=hSa.next hb3
     clear hb
     cases b
     ·go_wp2_with fail
      go_ret
      refine⟨_,rfl,?_,hS3.below1⟩
      rw [HW.out]
      simp only [Bool.false_eq_true,false_iff,not_and]
      intro _ hall
      exact absurd (HB.out.2 (hall j _ HT.out).2) (by decide)
     ·go_wp2_with fail
      refine⟨⟨j+1,by simp,hlt,hS3,fun i u hi hu2=>?_⟩,by simp [intOf];omega⟩
      by_cases e:i<j
      ·exact⟨.inr (by first | exact trivial | rfl),(HR.out i u e hu2).2⟩
      ·obtain rfl:i=j:=by omega
       rw [HT.out] at hu2
       cases hu2
       exact⟨.inr (by first | exact trivial | rfl),HB.out.1 (by first | exact trivial | rfl)⟩
    ·clear h6
     go_wp2_with fail
     refine (HCC.out _ hSa.below).mono ?_
     rintro e w3 ⟨b,rfl,hb,hb3⟩
     have HB:Hid (b=true↔Wf (T.nd k1 n1 s1 ra rb ts1)):=hb
     have hS3:=hSa.next hb3
     clear hb
     cases b
     ·go_wp2_with fail
      go_ret
      refine⟨_,rfl,?_,hS3.below1⟩
      rw [HW.out]
      simp only [Bool.false_eq_true,false_iff,not_and]
      intro _ hall
      exact absurd (HB.out.2 (hall j _ HT.out).2) (by decide)
     ·go_wp2_with fail
      refine⟨⟨j+1,by simp,hlt,hS3,fun i u hi hu2=>?_⟩,by simp [intOf];omega⟩
      by_cases e:i<j
      ·exact HR.out i u e hu2
      ·obtain rfl:i=j:=by omega
       rw [HT.out] at hu2
       cases hu2
       exact⟨H6.out,HB.out.1 (by first | exact trivial | rfl)⟩
  ·have hkn:j=m:=by omega
   subst hkn
   go_wp2_with fail
   go_ret
   refine⟨_,rfl,?_,hS.below1⟩
   rw [HW.out,HF.out,HH.out]
   simp only [true_iff,and_self,true_and]
   intro i u hu
   exact HR.out i u (by rw [HM.out];exact (List.getElem?_eq_some_iff.1 hu).1) hu
end Go.Proofs.YtgifkepklnhddaaGreatDoor.fm
