import Derived.Test.YtgifkepklnhddaaGreatDoorQ7Fi
namespace Go.Proofs.YtgifkepklnhddaaGreatDoor.fm
open Go.RowKit
theorem Nd.next2 {X:Nat→Prop} {a b:World} {B lb:Nat} {v:Value} {t:T} (h:Nd a (fun n=>(B≤n∧n<a.heap.size)∧n≠lb) v t) (hk:Kp X a b) (hx:∀ n,X n→n<B∨a.heap.size≤n∨n=lb):Nd b (fun n=>(B≤n∧n<b.heap.size)∧n≠lb) v t :=
 h.mono (fun n hn=>hk.block n hn.1.2 (fun x=>by rcases hx n x with h1 | h1 | h1<;>have:=hn.1.1<;>have:=hn.1.2<;>have:=hn.2<;>omega)) (fun n hn=>⟨⟨hn.1.1,Nat.lt_of_lt_of_le hn.1.2 hk.size⟩,hn.2⟩)
theorem Nd.two {w:World} {P:Nat→Prop} {k n:Int} {s:ByteArray} {r t:Rf} {g cap:Nat} {cs ds es:Array Value} {ty:TypeId} {u v:T} (h:w.heap[g]?=some (.cells es ty (0,0))) (he:es.toList=cs.toList++ds.toList) (hg:P g) (hcap:2≤cap) (hu:Nd w P (.agg cs) u) (hv:Nd w P (.agg ds) v) :
  Nd w P (NV k n s r t (.slice (some ⟨g,0,none⟩) 2 cap)) (.nd k n s r t [u,v]) :=
 .mk (us:=[.agg cs,.agg ds]) (Kids.made (us:=[.agg cs,.agg ds]) h rfl (fun i x hx=>by
  have:(cellsL [.agg cs,.agg ds])=es.toList:=by simp [cellsL,Value.cells,he]
  rw [this] at hx
  simpa using hx) hg hcap) rfl (fun i u' t' h1 h2=>by
  match i with
  | 0=>simp at h1 h2;subst h1;subst h2;exact hu
  | 1=>simp at h1 h2;subst h1;subst h2;exact hv
  | i+2=>simp at h1)
section
variable {L:Lex} {s:ByteArray} {E:World→Prop} (F:Leafs L s E)
include F
set_option maxRecDepth 100000 in
set_option maxHeartbeats 8000000 in
theorem expr_level (rb k d l:Nat) (w:World) (hE:E w) (h:RD w rb s k d) (hrb:11≤rb) (hk:k≤s.size) (hl1:1≤l) (hl4:l≤4)
  (hop:∀ j w1,k≤j→j≤s.size→E w1→RD w1 rb s j d→Calls Tryz.prog 176 #[ptr rb,.int .i64 ((l:Int)+1)] w1 (Out w1 rb s d (Expr L s (l+1) d j))) :
  Calls Tryz.prog 176 #[ptr rb,.int .i64 (l:Nat)] w (Out w rb s d (Expr L s l d k)):=by
 have hrl:=h.lt
 obtain⟨RR,hRR⟩:∃ RR,Expr L s l d k=RR:=⟨_,rfl⟩
 rw [hRR]
 rw [Expr_eq L s l d k hl1 hl4 hk] at hRR
 have HRR:Hid ((Expr L s (l+1) d k).bind (fun t k'=>Rest L s l d t k')=RR):=hRR
 have HEX:Hid (∀ j w1,k≤j→j≤s.size→E w1→RD w1 rb s j d→Calls Tryz.prog 176 #[ptr rb,.int .i64 ((l:Int)+1)] w1 (Out w1 rb s d (Expr L s (l+1) d j))):=hop
 have hgt:¬ (4:Int)<(l:Int):=by omega
 clear hRR hop
 have hK0:=(Kp.refl (·=rb) w).alloc (.cells NZ 57)
 have hE0:=F.keep hE hK0 (fun n e=>by omega)
 have hR0:=h.alloc (.cells NZ 57)
 have hq0:=blk_new w (.cells NZ 57)
 go_enter Tryz.func176,Tryz.ntmps176
 go_wp2_with fail
 generalize w.alloc (.cells NZ 57)=w0 at *
 refine wp_scope_jumps 0 (fun a' w'=>∃ (t:T) (j lb:Nat) (cs:Array Value) (u6 u7 u9 u15 u16 u17 u18 u19 u20 u21 u22 u23 u24 u25 u26 u27 u28 u29 u30:Value),a'={ tmps:=#[ptr rb,.int .i64 (l:Nat),undef,undef,ptr w.heap.size,ptr lb,u6,u7,.int .i64 (l:Nat),u9,undef,undef,ptr rb,.int .i64 (l:Nat),.int .i64 ((l:Nat)+1),u15,u16,u17,u18,u19,u20,u21,u22,u23,u24,u25,u26,u27,u28,u29,u30],defers:=[] }∧RD w' rb s j d∧Kp (·=rb) w w'∧w'.heap[w.heap.size]?=some (.cells NZ 57 (0,0))∧w'.heap[lb]?=some (.cells cs 57 (0,0))∧Nd w' (fun b=>(w.heap.size+1≤b∧b<w'.heap.size)∧b≠lb) (.agg cs) t∧k≤j∧j≤s.size∧Rest L s l d t j=RR∧w.heap.size<lb) (fun _ w'=>s.size - atOf w' rb) rfl ?_ ?_
 ·go_wp2_with fail
  refine (HEX.out _ _ (Nat.le_refl _) hk hE0 hR0).mono ?_
  intro e w1 ho
  cases hx:Expr L s (l+1) d k with
  | err k' c =>
   rw [hx] at ho
   obtain⟨rfl,hK1⟩:=ho
   have HRT:Hid (RR=.err k' c):=by
    have h1:=HRR.out
    rw [hx] at h1
    exact h1.symm
   clear hx HRR
   go_wp2_with fail
   simp only [Exit.jump]
   refine⟨rfl,?_⟩
   rw [HRT.out]
   exact⟨rfl,hK0.trans hK1 (fun n e=>.inl e)⟩
  | ok t j =>
   have hpg:=Expr_prog L s (by omega) hk hx
   rw [hx] at ho
   have HRE:Hid (Rest L s l d t j=RR):=by
    have h1:=HRR.out
    rw [hx] at h1
    exact h1
   clear hx HRR
   obtain⟨v,rfl,hN1,hR1,hK1⟩:=ho
   have hKw1:=hK0.trans hK1 (fun n e=>.inl e)
   have hs0:=lt_blk hq0
   cases hN1 with
   | @mk a0 n0 s0 r0 t0 p0 m0 e0 us0 ts0 hk' hl' hs' =>
   have hN1:=Nd.mk (k:=a0) (n:=n0) (s:=s0) (r:=r0) (t:=t0) hk' hl' hs'
   clear hk' hl' hs'
   have hKx:Kp (fun _=>False) w1 (w1.alloc (.cells (N12 a0 n0 s0 r0 t0 (.slice p0 m0 e0)) 57)):=(Kp.refl _ _).alloc _
   have hb:=blk_new w1 (.cells (N12 a0 n0 s0 r0 t0 (.slice p0 m0 e0)) 57)
   have hR:=hR1.alloc (.cells (N12 a0 n0 s0 r0 t0 (.slice p0 m0 e0)) 57)
   have hK:=hKw1.alloc (.cells (N12 a0 n0 s0 r0 t0 (.slice p0 m0 e0)) 57)
   have hN:Nd (w1.alloc (.cells (N12 a0 n0 s0 r0 t0 (.slice p0 m0 e0)) 57)) (fun b=>(w.heap.size+1≤b∧b<(w1.alloc (.cells (N12 a0 n0 s0 r0 t0 (.slice p0 m0 e0)) 57)).heap.size)∧b≠w1.heap.size) (.agg (N12 a0 n0 s0 r0 t0 (.slice p0 m0 e0))) (.nd a0 n0 s0 r0 t0 ts0):=hN1.mono (fun n hn=>Below.heap_alloc _ _ _ hn.2) (fun n hn=>⟨⟨by have:=hn.1;omega,by simp;have:=hn.2;omega⟩,by have:=hn.2;omega⟩)
   have hq:=hKx.blk (hK1.blk hq0 (by omega)) id
   have hlb:w.heap.size<w1.heap.size:=by have:=hK1.size;omega
   have hlr:w1.heap.size≠rb:=by omega
   have hkj:k≤j:=by omega
   have hj:j≤s.size:=hpg.2.1
   clear hN1 hR1 hKw1 hKx hK1 hs0 hpg hq0 hK0 hE0 hR0
   go_wp2_with fail
   go_step3
   generalize w1.heap.size=lb at *
   generalize w1.alloc (.cells (N12 a0 n0 s0 r0 t0 (.slice p0 m0 e0)) 57)=wv at *
   generalize (N12 a0 n0 s0 r0 t0 (.slice p0 m0 e0))=cs at *
   generalize (T.nd a0 n0 s0 r0 t0 ts0)=t at *
   have hEj:=F.keep hE hK (fun n e=>by omega)
   have hj1:=(skip_spec s j).2.2 hj
   have hj0:=(skip_spec s j).1
   have hre:=Rest_eq L s l d t j hl1 hj
   rw [HRE.out] at hre
   have HRQ:Hid _:=hre
   clear hre HRE
   by_cases c:lev (opAt s (skip s j)).1=l
   ·have hop:=opAt_spec s (skip s j)
    have h0:(opAt s (skip s j)).1≠0:=by
     intro e
     rw [e] at c
     simp [lev] at c
     omega
    have hb1:skip s j+(opAt s (skip s j)).2≤s.size:=by omega
    have hb2:j<skip s j+(opAt s (skip s j)).2:=by omega
    have hn11:(opAt s (skip s j)).1≤11:=by omega
    have hz:((((opAt s (skip s j)).1:Nat):Int) == 0)=false:=by rw [beq_eq_false_iff_ne];omega
    have HC:Hid (lev (opAt s (skip s j)).1=l):=c
    have HRS:Hid (RR=(Expr L s (l+1) d (skip s j+(opAt s (skip s j)).2)).bind fun u k'=>Rest L s l d (tTwo (opAt s (skip s j)).1 t u) k'):=by
     have h1:=HRQ.out
     rw [if_pos c] at h1
     exact h1
    clear c hop h0 HRQ
    have HY:Hid (Calls Tryz.prog 201 #[ptr rb,.int .i64 (l:Nat)] wv fun e w'=>e=.returned (.int .i64 ((opAt s (skip s j)).1:Nat))∧RD w' rb s (skip s j+(opAt s (skip s j)).2) d∧Kp (·=rb) wv w'):=F.opYes rb j d l _ hEj hR hj hrb hl1 hl4 HC.out
    generalize opAt s (skip s j)=opp at *
    obtain⟨op,len⟩:=opp
    simp only at *
    go_wp2_with fail
    refine HY.out.mono ?_
    clear HY HC
    rintro e w3 ⟨rfl,hR3,hK3⟩
    have hq3:=hK3.blk hq (by omega)
    have hb3:=hK3.blk hb hlr
    have hN3:=hN.next2 hK3 (fun n e=>by left;omega)
    have hKw3:=hK.trans hK3 (fun n e=>.inl e)
    have hE3:=F.keep hE hKw3 (fun n e=>by omega)
    go_wp2_with fail
    refine (HEX.out _ _ (by omega) hb1 hE3 hR3).mono ?_
    intro e w4 ho
    cases hx:Expr L s (l+1) d (skip s j+len) with
    | err k' c =>
     rw [hx] at ho
     obtain⟨rfl,hK4⟩:=ho
     have HRT:Hid (RR=.err k' c):=by
      have h1:=HRS.out
      rw [hx] at h1
      exact h1
     clear hx HRS
     go_wp2_with fail
     simp only [Exit.jump]
     refine⟨rfl,?_⟩
     rw [HRT.out]
     exact⟨rfl,hKw3.trans hK4 (fun n e=>.inl e)⟩
    | ok u k2 =>
     have hpg2:=Expr_prog L s (by omega) hb1 hx
     rw [hx] at ho
     have HRT:Hid (Rest L s l d (tTwo op t u) k2=RR):=by
      have h1:=HRS.out
      rw [hx] at h1
      exact h1.symm
     clear hx HRS
     obtain⟨v,rfl,hN4,hR4,hK4⟩:=ho
     have hq4:=hK4.blk hq3 (by omega)
     have hb4:=hK4.blk hb3 hlr
     have hN3':=hN3.next2 hK4 (fun n e=>by left;omega)
     have hKw4:=hKw3.trans hK4 (fun n e=>.inl e)
     have hs3:=hKw3.size
     have HLB3:Hid (lb<w3.heap.size):=lt_blk hb3
     cases hN4 with
     | @mk a2 n2 s2 r2 t2 p2 m2 e2 us2 ts2 hk' hl' hs' =>
     have hN4:=Nd.mk (k:=a2) (n:=n2) (s:=s2) (r:=r2) (t:=t2) hk' hl' hs'
     clear hk' hl' hs'
     cases hN3' with
     | @mk a1 n1 s1 r1 t1 p1 m1 e1 us1 ts1 hk' hl' hs' =>
     have hN3':=Nd.mk (k:=a1) (n:=n1) (s:=s1) (r:=r1) (t:=t1) hk' hl' hs'
     clear hk' hl' hs' hN hN3
     go_upto_region 8 with fail
     have hKa:Kp (fun _=>False) w4 (w4.alloc (.cells (N12 a2 n2 s2 r2 t2 (.slice p2 m2 e2)) 57)):=(Kp.refl _ _).alloc _
     have hq5:=hKa.blk hq4 id
     have hb5:=hKa.blk hb4 id
     have hrb5:=blk_new w4 (.cells (N12 a2 n2 s2 r2 t2 (.slice p2 m2 e2)) 57)
     have hR5:=hR4.alloc (.cells (N12 a2 n2 s2 r2 t2 (.slice p2 m2 e2)) 57)
     have hN5:=hN3'.next2 hKa (fun n e=>e.elim)
     have hM5:=hN4.next hKa (fun n e=>e.elim)
     have hKw5:=hKw4.alloc (.cells (N12 a2 n2 s2 r2 t2 (.slice p2 m2 e2)) 57)
     have hlb4:=lt_blk hb4
     have hne4:w4.heap.size≠lb:=by omega
     have hsz5:(w4.alloc (.cells (N12 a2 n2 s2 r2 t2 (.slice p2 m2 e2)) 57)).heap.size=w4.heap.size+1:=by simp
     have HL:Hid (lb<w4.heap.size):=hlb4
     generalize w4.heap.size=rbk at *
     generalize w4.alloc (.cells (N12 a2 n2 s2 r2 t2 (.slice p2 m2 e2)) 57)=w5 at *
     clear hlb4
     have HZ5:Hid (w5.heap.size=rbk+1):=hsz5
     clear hsz5
     obtain⟨⟨b0,b1,b2,b3,b4,b5,b6,b7,b8,b9,b10,b11⟩,bf⟩:=cells12 hb5
     obtain⟨⟨d0,d1,d2,d3,d4,d5,d6,d7,d8,d9,d10,d11⟩,df⟩:=cells12 hrb5
     have hKb:Kp (fun _=>False) w5 (w5.alloc (.cells #[.int .i64 a1,.int .i64 n1,.string s1,.int .i64 r1.c,.int .i64 r1.r,.bool r1.fc,.bool r1.fr,.int .i64 t1.c,.int .i64 t1.r,.bool t1.fc,.bool t1.fr,.slice p1 m1 e1,.int .i64 a2,.int .i64 n2,.string s2,.int .i64 r2.c,.int .i64 r2.r,.bool r2.fc,.bool r2.fr,.int .i64 t2.c,.int .i64 t2.r,.bool t2.fc,.bool t2.fr,.slice p2 m2 e2] 57)):=(Kp.refl _ _).alloc _
     have hb6:=hKb.blk hb5 id
     have hq6:=hKb.blk hq5 id
     have hg6:=blk_new w5 (.cells #[.int .i64 a1,.int .i64 n1,.string s1,.int .i64 r1.c,.int .i64 r1.r,.bool r1.fc,.bool r1.fr,.int .i64 t1.c,.int .i64 t1.r,.bool t1.fc,.bool t1.fr,.slice p1 m1 e1,.int .i64 a2,.int .i64 n2,.string s2,.int .i64 r2.c,.int .i64 r2.r,.bool r2.fc,.bool r2.fr,.int .i64 t2.c,.int .i64 t2.r,.bool t2.fc,.bool t2.fr,.slice p2 m2 e2] 57)
     have hR6:=hR5.alloc (.cells #[.int .i64 a1,.int .i64 n1,.string s1,.int .i64 r1.c,.int .i64 r1.r,.bool r1.fc,.bool r1.fr,.int .i64 t1.c,.int .i64 t1.r,.bool t1.fc,.bool t1.fr,.slice p1 m1 e1,.int .i64 a2,.int .i64 n2,.string s2,.int .i64 r2.c,.int .i64 r2.r,.bool r2.fc,.bool r2.fr,.int .i64 t2.c,.int .i64 t2.r,.bool t2.fc,.bool t2.fr,.slice p2 m2 e2] 57)
     have hK6:=hKw5.alloc (.cells #[.int .i64 a1,.int .i64 n1,.string s1,.int .i64 r1.c,.int .i64 r1.r,.bool r1.fc,.bool r1.fr,.int .i64 t1.c,.int .i64 t1.r,.bool t1.fc,.bool t1.fr,.slice p1 m1 e1,.int .i64 a2,.int .i64 n2,.string s2,.int .i64 r2.c,.int .i64 r2.r,.bool r2.fc,.bool r2.fr,.int .i64 t2.c,.int .i64 t2.r,.bool t2.fc,.bool t2.fr,.slice p2 m2 e2] 57)
     have hN6:=hN5.next2 hKb (fun n e=>e.elim)
     have hM6:=hM5.next hKb (fun n e=>e.elim)
     have hsz6:w5.heap.size<(w5.alloc (.cells #[.int .i64 a1,.int .i64 n1,.string s1,.int .i64 r1.c,.int .i64 r1.r,.bool r1.fc,.bool r1.fr,.int .i64 t1.c,.int .i64 t1.r,.bool t1.fc,.bool t1.fr,.slice p1 m1 e1,.int .i64 a2,.int .i64 n2,.string s2,.int .i64 r2.c,.int .i64 r2.r,.bool r2.fc,.bool r2.fr,.int .i64 t2.c,.int .i64 t2.r,.bool t2.fc,.bool t2.fr,.slice p2 m2 e2] 57)).heap.size:=by simp
     have HSZ:Hid (w5.heap.size<(w5.alloc (.cells #[.int .i64 a1,.int .i64 n1,.string s1,.int .i64 r1.c,.int .i64 r1.r,.bool r1.fc,.bool r1.fr,.int .i64 t1.c,.int .i64 t1.r,.bool t1.fc,.bool t1.fr,.slice p1 m1 e1,.int .i64 a2,.int .i64 n2,.string s2,.int .i64 r2.c,.int .i64 r2.r,.bool r2.fc,.bool r2.fr,.int .i64 t2.c,.int .i64 t2.r,.bool t2.fc,.bool t2.fr,.slice p2 m2 e2] 57)).heap.size):=hsz6
     have HS3:Hid (w.heap.size≤w5.heap.size):=hKw5.size
     have HS4:Hid (w.heap.size≤w3.heap.size):=hs3
     clear hsz6 hs3
     obtain⟨⟨g0,g1,g2,g3,g4,g5,g6,g7,g8,g9,g10,g11⟩,gf⟩:=cells12 hb6
     go_wp2_with fail
     clear b0 b1 b2 b3 b4 b5 b6 b7 b8 b9 b10 b11 bf d0 d1 d2 d3 d4 d5 d6 d7 d8 d9 d10 d11 df g0 g1 g2 g3 g4 g5 g6 g7 g8 g9 g10 g11 gf
     go_step3
     refine fin12 hb6 (Q:=Exit.jump 0 _ _ (Exit.goto 0) _) ?_
     intro w9 hb9 hk9
     have hl9:=HL.out
     have hz9:=HZ5.out
     have hy9:=HSZ.out
     have hx9:=HS3.out
     have hv9:=HS4.out
     have hu9:=HLB3.out
     have ht9:=hk9.size
     have hR9:=hR6.keep hk9 (fun e=>hlr e.symm)
     have hK9:=hK6.trans hk9 (fun n e=>by right;omega)
     have hq9:=hk9.blk hq6 (by omega)
     have hA9:=hN6.next2 hk9 (fun n e=>.inr (.inr e))
     have hB9:Nd w9 (fun n=>(w.heap.size+1≤n∧n<w9.heap.size)∧n≠lb) (NV a2 n2 s2 r2 t2 (.slice p2 m2 e2)) (.nd a2 n2 s2 r2 t2 ts2):=hM6.mono (fun n hn=>hk9.block n hn.2 (by have:=hn.1;omega)) (fun n hn=>⟨⟨by have:=hn.1;omega,Nat.lt_of_lt_of_le hn.2 hk9.size⟩,by have:=hn.1;omega⟩)
     have hC9:Nd w9 (fun n=>(w.heap.size+1≤n∧n<w9.heap.size)∧n≠lb) (NV 8 (op:Nat) nul .z .z (.slice (some ⟨w5.heap.size,0,none⟩) 2 2)) (tTwo op (.nd a1 n1 s1 r1 t1 ts1) (.nd a2 n2 s2 r2 t2 ts2)):=Nd.two (hk9.blk hg6 (by omega)) rfl ⟨⟨by omega,by omega⟩,by omega⟩ (Nat.le_refl _) hA9 hB9
     exact⟨rfl,_,k2,lb,_,_,_,_,_,_,_,_,_,_,_,_,_,_,_,_,_,_,_,_,rfl,hR9,hK9,hq9,hb9,hC9,by omega,hpg2.2.1,HRT.out,hlb⟩
   ·have HC:Hid (¬ lev (opAt s (skip s j)).1=l):=c
    have HRS:Hid (RR=.ok t (skip s j)):=by
     have h1:=HRQ.out
     rw [if_neg c] at h1
     exact h1
    clear c HRQ
    have HY:Hid (Calls Tryz.prog 201 #[ptr rb,.int .i64 (l:Nat)] wv fun e w'=>e=.returned (.int .i64 0)∧RD w' rb s (skip s j) d∧Kp (·=rb) wv w'):=F.opNo rb j d l _ hEj hR hj hrb hl1 hl4 HC.out
    go_wp2_with fail
    refine HY.out.mono ?_
    clear HY HC
    rintro e w3 ⟨rfl,hR3,hK3⟩
    have hq3:=hK3.blk hq (by omega)
    have hb3:=hK3.blk hb hlr
    have hN3:=hN.next2 hK3 (fun n e=>by left;omega)
    have hKw3:=hK.trans hK3 (fun n e=>.inl e)
    cases hN3 with
    | @mk a1 n1 s1 r1 t1 p1 m1 e1 us1 ts1 hk' hl' hs' =>
    have hN3:=Nd.mk (k:=a1) (n:=n1) (s:=s1) (r:=r1) (t:=t1) hk' hl' hs'
    clear hk' hl' hs' hN
    obtain⟨⟨b0,b1,b2,b3,b4,b5,b6,b7,b8,b9,b10,b11⟩,bf⟩:=cells12 hb3
    obtain⟨⟨d0,d1,d2,d3,d4,d5,d6,d7,d8,d9,d10,d11⟩,df⟩:=cells12 hq3
    go_wp2_with fail
    clear b0 b1 b2 b3 b4 b5 b6 b7 b8 b9 b10 b11 bf d0 d1 d2 d3 d4 d5 d6 d7 d8 d9 d10 d11 df
    simp only [Exit.jump]
    refine fin12 hq3 (Q:=bodyPost _ _ _ _ _) ?_
    intro w9 hq9 hk9
    obtain⟨⟨b0,b1,b2,b3,b4,b5,b6,b7,b8,b9,b10,b11⟩,bf⟩:=cells12 hq9
    refine bodyPost_ret (v:=NV a1 n1 s1 r1 t1 (.slice p1 m1 e1)) (by simp [results,Tryz.results176,go_sem,b0,b1,b2,b3,b4,b5,b6,b7,b8,b9,b10,b11]) rfl ?_
    rw [HRS.out]
    refine⟨_,rfl,?_,?_,?_⟩
    ·exact hN3.mono (fun n hn=>hk9.block n hn.1.2 (by have:=hn.1.1;omega)) (fun n hn=>⟨by have:=hn.1.1;omega,Nat.lt_of_lt_of_le hn.1.2 hk9.size⟩)
    ·exact hR3.keep hk9 (by omega)
    ·exact hKw3.trans hk9 (fun n e=>by right;omega)
 ·clear HRR hK0 hE0 hR0 hq0
  rintro a' wv ⟨t,j,lb,cs,u6,u7,u9,u15,u16,u17,u18,u19,u20,u21,u22,u23,u24,u25,u26,u27,u28,u29,u30,rfl,hR,hK,hq,hb,hN,hkj,hj,hre,hlb⟩
  have HRE:Hid (Rest L s l d t j=RR):=hre
  have hlr:lb≠rb:=by omega
  have HA:=atOf_rd hR
  have HAT:Hid (atOf wv rb=j):=HA
  clear hre HA
  have hEj:=F.keep hE hK (fun n e=>by omega)
  have hj1:=(skip_spec s j).2.2 hj
  have hj0:=(skip_spec s j).1
  have hre:=Rest_eq L s l d t j hl1 hj
  rw [HRE.out] at hre
  have HRQ:Hid _:=hre
  clear hre HRE
  by_cases c:lev (opAt s (skip s j)).1=l
  ·have hop:=opAt_spec s (skip s j)
   have h0:(opAt s (skip s j)).1≠0:=by
    intro e
    rw [e] at c
    simp [lev] at c
    omega
   have hb1:skip s j+(opAt s (skip s j)).2≤s.size:=by omega
   have hb2:j<skip s j+(opAt s (skip s j)).2:=by omega
   have hn11:(opAt s (skip s j)).1≤11:=by omega
   have hz:((((opAt s (skip s j)).1:Nat):Int) == 0)=false:=by rw [beq_eq_false_iff_ne];omega
   have HC:Hid (lev (opAt s (skip s j)).1=l):=c
   have HRS:Hid (RR=(Expr L s (l+1) d (skip s j+(opAt s (skip s j)).2)).bind fun u k'=>Rest L s l d (tTwo (opAt s (skip s j)).1 t u) k'):=by
    have h1:=HRQ.out
    rw [if_pos c] at h1
    exact h1
   clear c hop h0 HRQ
   have HY:Hid (Calls Tryz.prog 201 #[ptr rb,.int .i64 (l:Nat)] wv fun e w'=>e=.returned (.int .i64 ((opAt s (skip s j)).1:Nat))∧RD w' rb s (skip s j+(opAt s (skip s j)).2) d∧Kp (·=rb) wv w'):=F.opYes rb j d l _ hEj hR hj hrb hl1 hl4 HC.out
   generalize opAt s (skip s j)=opp at *
   obtain⟨op,len⟩:=opp
   simp only at *
   go_wp2_with fail
   refine HY.out.mono ?_
   clear HY HC
   rintro e w3 ⟨rfl,hR3,hK3⟩
   have hq3:=hK3.blk hq (by omega)
   have hb3:=hK3.blk hb hlr
   have hN3:=hN.next2 hK3 (fun n e=>by left;omega)
   have hKw3:=hK.trans hK3 (fun n e=>.inl e)
   have hE3:=F.keep hE hKw3 (fun n e=>by omega)
   go_wp2_with fail
   refine (HEX.out _ _ (by omega) hb1 hE3 hR3).mono ?_
   intro e w4 ho
   cases hx:Expr L s (l+1) d (skip s j+len) with
   | err k' c =>
    rw [hx] at ho
    obtain⟨rfl,hK4⟩:=ho
    have HRT:Hid (RR=.err k' c):=by
     have h1:=HRS.out
     rw [hx] at h1
     exact h1
    clear hx HRS
    go_wp2_with fail
    simp only [Exit.jump]
    refine⟨rfl,?_⟩
    rw [HRT.out]
    exact⟨rfl,hKw3.trans hK4 (fun n e=>.inl e)⟩
   | ok u k2 =>
    have hpg2:=Expr_prog L s (by omega) hb1 hx
    rw [hx] at ho
    have HRT:Hid (Rest L s l d (tTwo op t u) k2=RR):=by
     have h1:=HRS.out
     rw [hx] at h1
     exact h1.symm
    clear hx HRS
    obtain⟨v,rfl,hN4,hR4,hK4⟩:=ho
    have hq4:=hK4.blk hq3 (by omega)
    have hb4:=hK4.blk hb3 hlr
    have hN3':=hN3.next2 hK4 (fun n e=>by left;omega)
    have hKw4:=hKw3.trans hK4 (fun n e=>.inl e)
    have hs3:=hKw3.size
    have HLB3:Hid (lb<w3.heap.size):=lt_blk hb3
    cases hN4 with
    | @mk a2 n2 s2 r2 t2 p2 m2 e2 us2 ts2 hk' hl' hs' =>
    have hN4:=Nd.mk (k:=a2) (n:=n2) (s:=s2) (r:=r2) (t:=t2) hk' hl' hs'
    clear hk' hl' hs'
    cases hN3' with
    | @mk a1 n1 s1 r1 t1 p1 m1 e1 us1 ts1 hk' hl' hs' =>
    have hN3':=Nd.mk (k:=a1) (n:=n1) (s:=s1) (r:=r1) (t:=t1) hk' hl' hs'
    clear hk' hl' hs' hN hN3
    go_upto_region 8 with fail
    have hKa:Kp (fun _=>False) w4 (w4.alloc (.cells (N12 a2 n2 s2 r2 t2 (.slice p2 m2 e2)) 57)):=(Kp.refl _ _).alloc _
    have hq5:=hKa.blk hq4 id
    have hb5:=hKa.blk hb4 id
    have hrb5:=blk_new w4 (.cells (N12 a2 n2 s2 r2 t2 (.slice p2 m2 e2)) 57)
    have hR5:=hR4.alloc (.cells (N12 a2 n2 s2 r2 t2 (.slice p2 m2 e2)) 57)
    have hN5:=hN3'.next2 hKa (fun n e=>e.elim)
    have hM5:=hN4.next hKa (fun n e=>e.elim)
    have hKw5:=hKw4.alloc (.cells (N12 a2 n2 s2 r2 t2 (.slice p2 m2 e2)) 57)
    have hlb4:=lt_blk hb4
    have hne4:w4.heap.size≠lb:=by omega
    have hsz5:(w4.alloc (.cells (N12 a2 n2 s2 r2 t2 (.slice p2 m2 e2)) 57)).heap.size=w4.heap.size+1:=by simp
    have HL:Hid (lb<w4.heap.size):=hlb4
    generalize w4.heap.size=rbk at *
    generalize w4.alloc (.cells (N12 a2 n2 s2 r2 t2 (.slice p2 m2 e2)) 57)=w5 at *
    clear hlb4
    have HZ5:Hid (w5.heap.size=rbk+1):=hsz5
    clear hsz5
    obtain⟨⟨b0,b1,b2,b3,b4,b5,b6,b7,b8,b9,b10,b11⟩,bf⟩:=cells12 hb5
    obtain⟨⟨d0,d1,d2,d3,d4,d5,d6,d7,d8,d9,d10,d11⟩,df⟩:=cells12 hrb5
    have hKb:Kp (fun _=>False) w5 (w5.alloc (.cells #[.int .i64 a1,.int .i64 n1,.string s1,.int .i64 r1.c,.int .i64 r1.r,.bool r1.fc,.bool r1.fr,.int .i64 t1.c,.int .i64 t1.r,.bool t1.fc,.bool t1.fr,.slice p1 m1 e1,.int .i64 a2,.int .i64 n2,.string s2,.int .i64 r2.c,.int .i64 r2.r,.bool r2.fc,.bool r2.fr,.int .i64 t2.c,.int .i64 t2.r,.bool t2.fc,.bool t2.fr,.slice p2 m2 e2] 57)):=(Kp.refl _ _).alloc _
    have hb6:=hKb.blk hb5 id
    have hq6:=hKb.blk hq5 id
    have hg6:=blk_new w5 (.cells #[.int .i64 a1,.int .i64 n1,.string s1,.int .i64 r1.c,.int .i64 r1.r,.bool r1.fc,.bool r1.fr,.int .i64 t1.c,.int .i64 t1.r,.bool t1.fc,.bool t1.fr,.slice p1 m1 e1,.int .i64 a2,.int .i64 n2,.string s2,.int .i64 r2.c,.int .i64 r2.r,.bool r2.fc,.bool r2.fr,.int .i64 t2.c,.int .i64 t2.r,.bool t2.fc,.bool t2.fr,.slice p2 m2 e2] 57)
    have hR6:=hR5.alloc (.cells #[.int .i64 a1,.int .i64 n1,.string s1,.int .i64 r1.c,.int .i64 r1.r,.bool r1.fc,.bool r1.fr,.int .i64 t1.c,.int .i64 t1.r,.bool t1.fc,.bool t1.fr,.slice p1 m1 e1,.int .i64 a2,.int .i64 n2,.string s2,.int .i64 r2.c,.int .i64 r2.r,.bool r2.fc,.bool r2.fr,.int .i64 t2.c,.int .i64 t2.r,.bool t2.fc,.bool t2.fr,.slice p2 m2 e2] 57)
    have hK6:=hKw5.alloc (.cells #[.int .i64 a1,.int .i64 n1,.string s1,.int .i64 r1.c,.int .i64 r1.r,.bool r1.fc,.bool r1.fr,.int .i64 t1.c,.int .i64 t1.r,.bool t1.fc,.bool t1.fr,.slice p1 m1 e1,.int .i64 a2,.int .i64 n2,.string s2,.int .i64 r2.c,.int .i64 r2.r,.bool r2.fc,.bool r2.fr,.int .i64 t2.c,.int .i64 t2.r,.bool t2.fc,.bool t2.fr,.slice p2 m2 e2] 57)
    have hN6:=hN5.next2 hKb (fun n e=>e.elim)
    have hM6:=hM5.next hKb (fun n e=>e.elim)
    have hsz6:w5.heap.size<(w5.alloc (.cells #[.int .i64 a1,.int .i64 n1,.string s1,.int .i64 r1.c,.int .i64 r1.r,.bool r1.fc,.bool r1.fr,.int .i64 t1.c,.int .i64 t1.r,.bool t1.fc,.bool t1.fr,.slice p1 m1 e1,.int .i64 a2,.int .i64 n2,.string s2,.int .i64 r2.c,.int .i64 r2.r,.bool r2.fc,.bool r2.fr,.int .i64 t2.c,.int .i64 t2.r,.bool t2.fc,.bool t2.fr,.slice p2 m2 e2] 57)).heap.size:=by simp
    have HSZ:Hid (w5.heap.size<(w5.alloc (.cells #[.int .i64 a1,.int .i64 n1,.string s1,.int .i64 r1.c,.int .i64 r1.r,.bool r1.fc,.bool r1.fr,.int .i64 t1.c,.int .i64 t1.r,.bool t1.fc,.bool t1.fr,.slice p1 m1 e1,.int .i64 a2,.int .i64 n2,.string s2,.int .i64 r2.c,.int .i64 r2.r,.bool r2.fc,.bool r2.fr,.int .i64 t2.c,.int .i64 t2.r,.bool t2.fc,.bool t2.fr,.slice p2 m2 e2] 57)).heap.size):=hsz6
    have HS3:Hid (w.heap.size≤w5.heap.size):=hKw5.size
    have HS4:Hid (w.heap.size≤w3.heap.size):=hs3
    clear hsz6 hs3
    obtain⟨⟨g0,g1,g2,g3,g4,g5,g6,g7,g8,g9,g10,g11⟩,gf⟩:=cells12 hb6
    go_wp2_with fail
    clear b0 b1 b2 b3 b4 b5 b6 b7 b8 b9 b10 b11 bf d0 d1 d2 d3 d4 d5 d6 d7 d8 d9 d10 d11 df g0 g1 g2 g3 g4 g5 g6 g7 g8 g9 g10 g11 gf
    go_step3
    refine fin12 hb6 (Q:=Exit.jump 0 _ _ (Exit.goto 0) _) ?_
    intro w9 hb9 hk9
    have hl9:=HL.out
    have hz9:=HZ5.out
    have hy9:=HSZ.out
    have hx9:=HS3.out
    have hv9:=HS4.out
    have hu9:=HLB3.out
    have ht9:=hk9.size
    have hR9:=hR6.keep hk9 (fun e=>hlr e.symm)
    have hK9:=hK6.trans hk9 (fun n e=>by right;omega)
    have hq9:=hk9.blk hq6 (by omega)
    have hA9:=hN6.next2 hk9 (fun n e=>.inr (.inr e))
    have hB9:Nd w9 (fun n=>(w.heap.size+1≤n∧n<w9.heap.size)∧n≠lb) (NV a2 n2 s2 r2 t2 (.slice p2 m2 e2)) (.nd a2 n2 s2 r2 t2 ts2):=hM6.mono (fun n hn=>hk9.block n hn.2 (by have:=hn.1;omega)) (fun n hn=>⟨⟨by have:=hn.1;omega,Nat.lt_of_lt_of_le hn.2 hk9.size⟩,by have:=hn.1;omega⟩)
    have hC9:Nd w9 (fun n=>(w.heap.size+1≤n∧n<w9.heap.size)∧n≠lb) (NV 8 (op:Nat) nul .z .z (.slice (some ⟨w5.heap.size,0,none⟩) 2 2)) (tTwo op (.nd a1 n1 s1 r1 t1 ts1) (.nd a2 n2 s2 r2 t2 ts2)):=Nd.two (hk9.blk hg6 (by omega)) rfl ⟨⟨by omega,by omega⟩,by omega⟩ (Nat.le_refl _) hA9 hB9
    exact⟨rfl,⟨_,k2,lb,_,_,_,_,_,_,_,_,_,_,_,_,_,_,_,_,_,_,_,_,rfl,hR9,hK9,hq9,hb9,hC9,by omega,hpg2.2.1,HRT.out,hlb⟩,by rw [HAT.out,atOf_rd hR9];omega⟩
  ·have HC:Hid (¬ lev (opAt s (skip s j)).1=l):=c
   have HRS:Hid (RR=.ok t (skip s j)):=by
    have h1:=HRQ.out
    rw [if_neg c] at h1
    exact h1
   clear c HRQ
   have HY:Hid (Calls Tryz.prog 201 #[ptr rb,.int .i64 (l:Nat)] wv fun e w'=>e=.returned (.int .i64 0)∧RD w' rb s (skip s j) d∧Kp (·=rb) wv w'):=F.opNo rb j d l _ hEj hR hj hrb hl1 hl4 HC.out
   go_wp2_with fail
   refine HY.out.mono ?_
   clear HY HC
   rintro e w3 ⟨rfl,hR3,hK3⟩
   have hq3:=hK3.blk hq (by omega)
   have hb3:=hK3.blk hb hlr
   have hN3:=hN.next2 hK3 (fun n e=>by left;omega)
   have hKw3:=hK.trans hK3 (fun n e=>.inl e)
   cases hN3 with
   | @mk a1 n1 s1 r1 t1 p1 m1 e1 us1 ts1 hk' hl' hs' =>
   have hN3:=Nd.mk (k:=a1) (n:=n1) (s:=s1) (r:=r1) (t:=t1) hk' hl' hs'
   clear hk' hl' hs' hN
   obtain⟨⟨b0,b1,b2,b3,b4,b5,b6,b7,b8,b9,b10,b11⟩,bf⟩:=cells12 hb3
   obtain⟨⟨d0,d1,d2,d3,d4,d5,d6,d7,d8,d9,d10,d11⟩,df⟩:=cells12 hq3
   go_wp2_with fail
   clear b0 b1 b2 b3 b4 b5 b6 b7 b8 b9 b10 b11 bf d0 d1 d2 d3 d4 d5 d6 d7 d8 d9 d10 d11 df
   simp only [Exit.jump]
   refine fin12 hq3 (Q:=bodyPost _ _ _ _ _) ?_
   intro w9 hq9 hk9
   obtain⟨⟨b0,b1,b2,b3,b4,b5,b6,b7,b8,b9,b10,b11⟩,bf⟩:=cells12 hq9
   refine bodyPost_ret (v:=NV a1 n1 s1 r1 t1 (.slice p1 m1 e1)) (by simp [results,Tryz.results176,go_sem,b0,b1,b2,b3,b4,b5,b6,b7,b8,b9,b10,b11]) rfl ?_
   rw [HRS.out]
   refine⟨_,rfl,?_,?_,?_⟩
   ·exact hN3.mono (fun n hn=>hk9.block n hn.1.2 (by have:=hn.1.1;omega)) (fun n hn=>⟨by have:=hn.1.1;omega,Nat.lt_of_lt_of_le hn.1.2 hk9.size⟩)
   ·exact hR3.keep hk9 (by omega)
   ·exact hKw3.trans hk9 (fun n e=>by right;omega)
end
end Go.Proofs.YtgifkepklnhddaaGreatDoor.fm
namespace Go.Proofs.YtgifkepklnhddaaGreatDoor.fm
open Go.RowKit
def ReadsTo (L:Lex) (s:ByteArray) (E:World→Prop) (m:Nat):Prop :=
 ∀ rb k d w,E w→RD w rb s k d→11≤rb→k≤s.size→s.size - k≤m→d≤30 →
  Calls Tryz.prog 200 #[ptr rb] w (Out w rb s d (Operand L s d k))∧(∀ l,1≤l→l≤5→Calls Tryz.prog 176 #[ptr rb,.int .i64 (l:Nat)] w (Out w rb s d (Expr L s l d k)))∧Calls Tryz.prog 251 #[ptr rb] w (OutA w rb s d (Args L s d k))
section
variable {L:Lex} {s:ByteArray} {E:World→Prop} (F:Leafs L s E) (hs:s.size≤200)
include F hs
theorem operand_of (m:Nat) (ih:∀ m',m'<m→ReadsTo L s E m') (rb k d:Nat) (w:World) (hE:E w) (h:RD w rb s k d) (hrb:11≤rb) (hk:k≤s.size) (hm:s.size - k≤m) (hd:d≤30) :
  Calls Tryz.prog 200 #[ptr rb] w (Out w rb s d (Operand L s d k)):=by
 have hk1:=(skip_spec s k).2.2 hk
 have hk0:=(skip_spec s k).1
 rw [Operand_eq L s d k hk]
 by_cases c45:nx s (skip s k)=45
 ·have hlt:=nx_lt (s:=s) (k:=skip s k) (by omega)
  rw [if_pos c45]
  refine operand_80 F hs rb k d w hE h hrb hk c45 _ fun w1 hE1 hR1=>?_
  refine negative_walk s rb _ d w1 hR1 _ fun w2 hR2 hPF=>?_
  have hE2:=F.keep hE1 hPF.k (fun n e=>e.elim)
  have hl1:=hR1.lt
  by_cases hd30:d=30
  ·subst hd30
   rw [if_pos rfl]
   exact deeper107_full rb _ _ _ s w2 hR2
  ·rw [if_neg hd30]
   refine deeper107_go rb _ _ d _ s w2 hR2 (by omega) _ ?_ (by omega)
   have hKs:=kpset w2 rb 2 (.int .i64 ((d+1:Nat):Int))
   refine neg1 s (by omega) rb _ _ _ (d+1) _ (hR2.setDeep (d+1)) (hKs.blk hPF.p (by omega)) (hKs.blk hPF.n (by omega)) (by omega) (by omega) hlt _ fun w3 hR3 hK3=>?_
   exact (ih (s.size - (skip s k+1)) (by omega) rb _ (d+1) w3 (F.keep (F.keep hE2 hKs (fun n e=>by omega)) hK3 (fun n e=>by omega)) hR3 hrb hlt (Nat.le_refl _) (by omega)).1
 rw [if_neg c45]
 by_cases c40:nx s (skip s k)=40
 ·have hlt:=nx_lt (s:=s) (k:=skip s k) (by omega)
  rw [if_pos c40]
  refine operand_81 F hs rb k d w hE h hrb hk c40 _ fun w1 hE1 hR1=>?_
  refine bracket_walk s rb _ d w1 hR1 _ fun w2 hR2 hPF=>?_
  have hE2:=F.keep hE1 hPF.k (fun n e=>e.elim)
  have hl1:=hR1.lt
  by_cases hd30:d=30
  ·subst hd30
   rw [if_pos rfl]
   exact deeper108_full rb _ _ _ s w2 hR2
  ·rw [if_neg hd30]
   refine deeper108_go rb _ _ d _ s w2 hR2 (by omega) _ ?_ (by omega)
   have hKs:=kpset w2 rb 2 (.int .i64 ((d+1:Nat):Int))
   refine bra1 s (by omega) rb _ _ _ (d+1) _ (hR2.setDeep (d+1)) (hKs.blk hPF.p (by omega)) (hKs.blk hPF.n (by omega)) (by omega) (by omega) (by omega) hlt _ (fun t k1 e=>(Expr_prog L s (Nat.le_refl _) hlt e).2.1) fun w3 hR3 hK3=>?_
   exact (ih (s.size - (skip s k+1)) (by omega) rb _ (d+1) w3 (F.keep (F.keep hE2 hKs (fun n e=>by omega)) hK3 (fun n e=>by omega)) hR3 hrb hlt (Nat.le_refl _) (by omega)).2.1 1 (Nat.le_refl _) (by omega)
 rw [if_neg c40]
 by_cases c34:nx s (skip s k)=34
 ·have hlt:=nx_lt (s:=s) (k:=skip s k) (by omega)
  rw [if_pos c34]
  exact operand_82 F hs rb k d w hE h hrb hk c34 _ fun w1 hE1 hR1=>F.quoted rb _ d w1 hE1 hR1 hlt c34
 rw [if_neg c34]
 by_cases c35:nx s (skip s k)=35
 ·have hlt:=nx_lt (s:=s) (k:=skip s k) (by omega)
  rw [if_pos c35]
  exact operand_83 F hs rb k d w hE h hrb hk c35 _ fun w1 hE1 hR1=>F.bad rb _ d w1 hE1 hR1 hlt hrb
 rw [if_neg c35]
 refine operand_84 F hs rb k d w hE h hrb hk ⟨c45,c40,c34,c35⟩ _ fun w1 hE1 hR1=>?_
 by_cases cn:isNm (tok s (skip s k))=true∧nx s (tokEnd s (skip s k))=40
 ·have hlt:=nx_lt (s:=s) (k:=tokEnd s (skip s k)) (by omega)
  have hlo:=(tok_spec s (skip s k)).1
  have hz:=tok_size s (skip s k) hk1
  rw [if_pos cn]
  refine word_call F hs rb _ d w1 hE1 hR1 hrb hk1 cn.1 cn.2 _ fun w2 hE2 hR2=>?_
  refine call_walk s _ rb _ d w2 hR2 _ fun w3 hR3 hPC=>?_
  have hE3:=F.keep hE2 hPC.k (fun n e=>e.elim)
  have hl2:=hR2.lt
  by_cases hd30:d=30
  ·subst hd30
   rw [if_pos rfl]
   exact deeper132_full rb _ _ _ _ s w3 hR3
  ·rw [if_neg hd30]
   refine deeper132_go rb _ _ d _ _ s w3 hR3 (by omega) _ ?_ (by omega)
   have hKs:=kpset w3 rb 2 (.int .i64 ((d+1:Nat):Int))
   refine call1 s _ (by omega) rb _ _ _ _ (d+1) _ (hR3.setDeep (d+1)) (hKs.blk hPC.p (by omega)) (hKs.blk hPC.s (by omega)) (hKs.blk hPC.n (by omega)) (by omega) (by omega) (by omega) _ fun w4 hR4 hK4=>?_
   rw [show skip s k+(tok s (skip s k)).size+1=tokEnd s (skip s k)+1 from by omega] at hR4
   exact (ih (s.size - (tokEnd s (skip s k)+1)) (by omega) rb _ (d+1) w4 (F.keep (F.keep hE3 hKs (fun n e=>by omega)) hK4 (fun n e=>by omega)) hR4 hrb hlt (Nat.le_refl _) (by omega)).2.2
 ·rw [if_neg cn]
  have cn':isNm (tok s (skip s k))=false∨isNm (tok s (skip s k))=true∧nx s (tokEnd s (skip s k))≠40:=by
   cases hb:isNm (tok s (skip s k)) with
   | false=>exact .inl rfl
   | true=>exact .inr ⟨rfl,fun e=>cn ⟨hb,e⟩⟩
  cases hmn:L.mean (tok s (skip s k)) with
  | none=>exact word_none F hs rb _ d w1 hE1 hR1 hrb hk1 cn' hmn
  | some u=>exact word_some F hs rb _ d w1 hE1 hR1 hrb hk1 cn' u hmn
omit hs in
theorem expr_of (m:Nat) (hop:∀ rb k d w,E w→RD w rb s k d→11≤rb→k≤s.size→s.size - k≤m→d≤30→Calls Tryz.prog 200 #[ptr rb] w (Out w rb s d (Operand L s d k))) :
  ∀ n l,5 - l=n→1≤l→l≤5→∀ rb k d w,E w→RD w rb s k d→11≤rb→k≤s.size→s.size - k≤m→d≤30→Calls Tryz.prog 176 #[ptr rb,.int .i64 (l:Nat)] w (Out w rb s d (Expr L s l d k)):=by
 intro n
 induction n with
 | zero =>
  intro l hn h1 h5 rb k d w hE hR hrb hk hm hd
  obtain rfl:l=5:=by omega
  rw [Expr_five L s d k hk]
  exact expr_five F rb k d w hE hR _ fun w1 hE1 hR1=>hop rb k d w1 hE1 hR1 hrb hk hm hd
 | succ n ih =>
  intro l hn h1 h5 rb k d w hE hR hrb hk hm hd
  refine expr_level F rb k d l w hE hR hrb hk h1 (by omega) fun j w1 hkj hj hE1 hR1=>?_
  have:=ih (l+1) (by omega) (by omega) (by omega) rb j d w1 hE1 hR1 hrb hj (by omega) hd
  rw [show ((l:Int)+1)=((l+1:Nat):Int) from by omega]
  exact this
theorem argument_of (rb k d:Nat) (w:World) (hE:E w) (h:RD w rb s k d) (hrb:11≤rb) (hk:k≤s.size)
  (hex:∀ w1,E w1→RD w1 rb s (skip s k) d→Calls Tryz.prog 176 #[ptr rb,.int .i64 1] w1 (Out w1 rb s d (Expr L s 1 d (skip s k)))) :
  Calls Tryz.prog 263 #[ptr rb] w (Out w rb s d (Arg L s d k)):=by
 rw [Arg_eq L s d k hk]
 cases hr:L.ref (tok s (skip s k)) with
 | none=>exact argument_plain F hs rb k d w hE h hrb hk _ (.inl hr) hex
 | some q =>
  simp only
  by_cases hx:nx s (tokEnd s (skip s k))=58
  ·rw [if_pos hx]
   exact argument_box F hs rb k d w h hk q hr hx
  ·rw [if_neg hx]
   exact argument_plain F hs rb k d w hE h hrb hk _ (.inr ⟨⟨q,hr⟩,hx⟩) hex
theorem reads_to:∀ m,ReadsTo L s E m:=by
 intro m
 induction m using Nat.strongRecOn with
 | _ m ih =>
  have hop:=operand_of F hs m ih
  have hex:=expr_of F m hop
  intro rb k d w hE hR hrb hk hm hd
  refine⟨hop rb k d w hE hR hrb hk hm hd,fun l h1 h5=>hex _ l rfl h1 h5 rb k d w hE hR hrb hk hm hd,?_⟩
  refine arguments_walk F hs rb k d w hE hR hrb hk fun j w1 hkj hj hE1 hR1=>?_
  refine argument_of F hs rb j d w1 hE1 hR1 hrb hj fun w2 hE2 hR2=>?_
  have h0:=(skip_spec s j).1
  exact hex _ 1 rfl (Nat.le_refl _) (by omega) rb _ d w2 hE2 hR2 hrb ((skip_spec s j).2.2 hj) (by omega) hd
end
end Go.Proofs.YtgifkepklnhddaaGreatDoor.fm
