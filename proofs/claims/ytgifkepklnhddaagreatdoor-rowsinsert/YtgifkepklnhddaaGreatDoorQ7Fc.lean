import Derived.Test.YtgifkepklnhddaaGreatDoorQ7Fx
namespace Go.Proofs.YtgifkepklnhddaaGreatDoor.fm
open Go.RowKit
theorem deeper108_full (rb nb k:Nat) (pb:Nat) (s:ByteArray) (w:World) (h:RD w rb s k 30) :
  Calls Tryz.prog 231 #[ptr rb,.func (.func 233) #[] #[ptr pb,ptr nb]] w fun e w'=>e=.panicked [{ v:=flt k 4,recovered:=false }]∧Kp (fun b=>b=rb∨b=nb) w w':=by
 obtain⟨⟨c0,c1,c2⟩,f0,f1,f2⟩:=h.cells
 go_enter Tryz.func231,Tryz.ntmps231
 go_wp2_with fail
 refine (fault_any rb _ 30 4 s _ h).mono ?_
 rintro e w2 ⟨rfl,hb⟩
 go_wp2_with fail
 exact⟨rfl,rfl,(Kp.refl _ _).below hb⟩
theorem deeper108_go (rb nb k d:Nat) (pb:Nat) (s:ByteArray) (w:World) (h:RD w rb s k d) (hd:d<30) (r:Rs T)
  (hin:Calls Tryz.prog 233 #[ptr pb,ptr nb] (w.setCell ⟨rb,2,none⟩ (.int .i64 ((d+1:Nat):Int))) (OutN (w.setCell ⟨rb,2,none⟩ (.int .i64 ((d+1:Nat):Int))) rb nb s (d+1) r)) (hne:nb≠rb) :
  Calls Tryz.prog 231 #[ptr rb,.func (.func 233) #[] #[ptr pb,ptr nb]] w (OutN w rb nb s d r):=by
 obtain⟨⟨c0,c1,c2⟩,f0,f1,f2⟩:=h.cells
 have hq:((d:Int) == 30)=false:=by rw [beq_eq_false_iff_ne];omega
 have HI:=hin
 have HIN:Hid (Calls Tryz.prog 233 #[ptr pb,ptr nb] (w.setCell ⟨rb,2,none⟩ (.int .i64 ((d+1:Nat):Int))) (OutN (w.setCell ⟨rb,2,none⟩ (.int .i64 ((d+1:Nat):Int))) rb nb s (d+1) r)):=hin
 clear hin HI
 go_enter Tryz.func231,Tryz.ntmps231
 go_wp2_with fail
 rw [show ((d:Int)+1)=((d+1:Nat):Int) from by omega]
 have hsz:(w.setCell ⟨rb,2,none⟩ (.int .i64 ((d+1:Nat):Int))).heap.size=w.heap.size:=by simp [World.setCell]
 have hK0:Kp (fun b=>b=rb∨b=nb) w (w.setCell ⟨rb,2,none⟩ (.int .i64 ((d+1:Nat):Int))):=(Kp.refl _ _).setCell (Or.inl (Or.inl rfl)) _
 refine HIN.out.mono ?_
 clear HIN
 generalize (w.setCell ⟨rb,2,none⟩ (.int .i64 ((d+1:Nat):Int)))=w0 at *
 intro e w1 ho
 cases r with
 | ok t k' =>
  obtain⟨rfl,hR,⟨cs,hcs,hN⟩,hK⟩:=ho
  clear c0 c1 c2 f0 f1 f2
  obtain⟨⟨c0,c1,c2⟩,f0,f1,f2⟩:=hR.cells
  go_wp2_with fail
  go_end0
  refine⟨rfl,hR.setDeep d,⟨cs,?_,?_⟩,?_⟩
  ·rw [Below.heap_setCell _ _ _ _ hne];exact hcs
  ·have:=hN.next (X:=fun b=>b=rb) (b:=w1.setCell ⟨rb,2,none⟩ (.int .i64 (d:Int))) (kpset w1 rb 2 _) (fun n e=>by left;rw [e,hsz];exact h.lt)
   exact this.mono (fun _ _=>rfl) (fun n hn=>⟨by have:=hn.1;omega,hn.2⟩)
  ·exact (hK0.trans hK (fun n e=>.inl e)).setCell (Or.inl (Or.inl rfl)) _
 | err k' c =>
  obtain⟨rfl,hK⟩:=ho
  go_wp2_with fail
  exact⟨rfl,rfl,hK0.trans hK (fun n e=>.inl e)⟩
theorem bra1 (s:ByteArray) (hs:s.size≤140737488355328) (rb pb nb k d:Nat) (w:World) (h:RD w rb s k d) (hp:w.heap[pb]?=some (.cells #[ptr rb] 268 (0,0))) (hn:w.heap[nb]?=some (.cells NZ 57 (0,0)))
  (hpr:pb≠rb) (hnr:nb≠rb) (hpn:pb≠nb) (hk:k<s.size) (r:Rs T) (hpg:∀ t k1,r=.ok t k1→k1≤s.size) (hop:∀ w1,RD w1 rb s (k+1) d→Kp (·=rb) w w1→Calls Tryz.prog 176 #[ptr rb,.int .i64 1] w1 (Out w1 rb s d r)) :
  Calls Tryz.prog 233 #[ptr pb,ptr nb] w (OutN w rb nb s d (r.bind fun t k1=>if nx s (skip s k1)=41 then .ok t (skip s k1+1) else .err (skip s k1) 2)):=by
 obtain⟨⟨c0,c1,c2⟩,f0,f1,f2⟩:=h.cells
 obtain⟨p0,p1⟩:=cells1 hp
 have HOP:Hid (∀ w1,RD w1 rb s (k+1) d→Kp (·=rb) w w1→Calls Tryz.prog 176 #[ptr rb,.int .i64 1] w1 (Out w1 rb s d r)):=hop
 have HPG:Hid (∀ t k1,r=.ok t k1→k1≤s.size):=hpg
 clear hop hpg
 go_enter Tryz.func233,Tryz.ntmps233
 go_wp2_with fail
 have hR0:=h.setAt (k+1)
 have hK0:=kpset w rb 1 (.int .i64 ((k+1:Nat):Int))
 have hsz:(w.setCell ⟨rb,1,none⟩ (.int .i64 ((k+1:Nat):Int))).heap.size=w.heap.size:=by simp [World.setCell]
 rw [show ((k:Int)+1)=((k+1:Nat):Int) from by omega]
 generalize w.setCell ⟨rb,1,none⟩ (.int .i64 ((k+1:Nat):Int))=w0 at *
 have hp0:=hK0.blk hp hpr
 have hn0:=hK0.blk hn hnr
 clear c0 c1 c2 f0 f1 f2 p0 p1
 refine (HOP.out _ hR0 hK0).mono ?_
 clear HOP
 intro e w1 ho
 cases r with
 | err k' c =>
  obtain⟨rfl,hK⟩:=ho
  go_wp2_with fail
  exact⟨rfl,rfl,(hK0.trans hK (fun n e=>.inl e)).mono (fun _ _ e=>.inl e)⟩
 | ok t k' =>
  obtain⟨v,rfl,hN,hR1,hK1⟩:=ho
  have hk':=HPG.out t k' rfl
  clear HPG
  have hn1:=hK1.blk hn0 hnr
  have hp1:=hK1.blk hp0 hpr
  have hl1:=lt_blk hn
  cases hN with
  | @mk k1 n1 s1 r1 t1 p1 m1 e1 us ts hk hl hs =>
  have hN:=Nd.mk (k:=k1) (n:=n1) (s:=s1) (r:=r1) (t:=t1) hk hl hs
  clear hk hl hs
  obtain⟨⟨b0,b1,b2,b3,b4,b5,b6,b7,b8,b9,b10,b11⟩,bf⟩:=cells12 hn1
  obtain⟨q0,q1⟩:=cells1 hp1
  go_wp2_with fail
  clear b0 b1 b2 b3 b4 b5 b6 b7 b8 b9 b10 b11 bf
  refine fin12 hn1 (Q:=fun W=>Calls _ _ _ W _) ?_
  intro w2 hq2 hk2
  have hR2:=hR1.keep hk2 (fun e=>hnr e.symm)
  have hN2:Nd w2 (Own w w2) (NV k1 n1 s1 r1 t1 (.slice p1 m1 e1)) (.nd k1 n1 s1 r1 t1 ts):=(hN.next hk2 (fun n e=>by left;omega)).mono (fun _ _=>rfl) (fun n hn=>⟨by have:=hn.1;omega,hn.2⟩)
  have hKw:Kp (fun b=>b=rb∨b=nb) w w2:=((hK0.trans hK1 (fun n e=>.inl e)).mono (fun _ _ e=>Or.inl e)).trans hk2 (fun n e=>.inl (.inr e))
  by_cases hx:nx s (skip s k')=41
  ·refine (mustTake_yes rb k' d 41 s _ hR2 hk' hs (by omega) hx).mono ?_
   rintro e w3 ⟨rfl,hR3,hk3⟩
   have HX:Hid (nx s (skip s k')=41):=hx
   clear hx
   go_wp2_with fail
   go_end0
   show OutN w rb nb s d (if nx s (skip s k')=41 then _ else _) _ _
   rw [if_pos HX.out]
   exact⟨rfl,hR3,⟨_,hk3.blk hq2 hnr,hN2.next hk3 (fun n e=>by left;have:=h.lt;omega)⟩,hKw.trans hk3 (fun n e=>.inl (.inl e))⟩
  ·refine (mustTake_no rb k' d 41 s _ hR2 hk' hs hx).mono ?_
   rintro e w3 ⟨rfl,hk3⟩
   have HX:Hid (¬ nx s (skip s k')=41):=hx
   clear hx
   go_wp2_with fail
   refine⟨rfl,?_⟩
   show OutN w rb nb s d (if nx s (skip s k')=41 then _ else _) _ _
   rw [if_neg HX.out]
   exact⟨rfl,hKw.trans hk3 (fun n e=>.inl (.inl e))⟩
set_option maxHeartbeats 1000000 in
theorem bracket_walk (s:ByteArray) (rb k d:Nat) (w:World) (h:RD w rb s k d) (r:Rs T)
  (hin:∀ w1,RD w1 rb s k d→PF w rb NZ w1→Calls Tryz.prog 231 #[ptr rb,.func (.func 233) #[] #[ptr w.heap.size,ptr (w.heap.size+1+1)]] w1 (OutN w1 rb (w.heap.size+1+1) s d r)) :
  Calls Tryz.prog 219 #[ptr rb] w (Out w rb s d r):=by
 have hmf:∀ (fn:Fn) (first cap:Array Value) (w:World),(Instr.makeFunc fn first cap).run Tryz.prog w=.ok (.func fn first cap) w:=fun _ _ _ _=>rfl
 have HIN:Hid (∀ w1,RD w1 rb s k d→PF w rb NZ w1→Calls Tryz.prog 231 #[ptr rb,.func (.func 233) #[] #[ptr w.heap.size,ptr (w.heap.size+1+1)]] w1 (OutN w1 rb (w.heap.size+1+1) s d r)):=hin
 clear hin
 have hPF:=PF.start w rb NZ
 have hR0:=((h.alloc (.cells #[ptr rb] 268)).alloc (.cells NZ 57)).alloc (.cells NZ 57)
 go_enter Tryz.func219,Tryz.ntmps219
 go_wp2_with fail
 refine (HIN.out _ hR0 hPF).mono ?_
 clear HIN
 generalize ((w.alloc (.cells #[ptr rb] 268)).alloc (.cells NZ 57)).alloc (.cells NZ 57)=w0 at *
 intro e w1 ho
 cases r with
 | err k' c =>
  obtain⟨rfl,hK⟩:=ho
  go_wp2_with fail
  exact⟨rfl,rfl,PF.kp hPF hK⟩
 | ok t k' =>
  obtain⟨rfl,hR1,⟨cs,hn1,hN⟩,hK1⟩:=ho
  have hKw:=PF.kp hPF hK1
  have hrl:=h.lt
  have hq1:=hK1.blk hPF.q (by rintro (e | e)<;>omega)
  have hsz:=hPF.k.size
  have hs1:=hK1.size
  have hql:=lt_blk hPF.q
  cases hN with
  | @mk k1 n1 s1 r1 t1 p1 m1 e1 us ts hk hl hs =>
  have hN:=Nd.mk (k:=k1) (n:=n1) (s:=s1) (r:=r1) (t:=t1) hk hl hs
  clear hk hl hs
  obtain⟨⟨a0,a1,a2,a3,a4,a5,a6,a7,a8,a9,a10,a11⟩,af⟩:=cells12 hn1
  obtain⟨⟨b0,b1,b2,b3,b4,b5,b6,b7,b8,b9,b10,b11⟩,bf⟩:=cells12 hq1
  go_wp2_with fail
  refine fin12 hq1 (Q:=bodyPost _ _ _ _ _) ?_
  intro w2 hq2 hk2
  clear a0 a1 a2 a3 a4 a5 a6 a7 a8 a9 a10 a11 af b0 b1 b2 b3 b4 b5 b6 b7 b8 b9 b10 b11 bf
  obtain⟨⟨b0,b1,b2,b3,b4,b5,b6,b7,b8,b9,b10,b11⟩,bf⟩:=cells12 hq2
  refine bodyPost_ret (v:=NV k1 n1 s1 r1 t1 (.slice p1 m1 e1)) (by simp [results,Tryz.results219,go_sem,b0,b1,b2,b3,b4,b5,b6,b7,b8,b9,b10,b11]) rfl ⟨_,rfl,?_,?_,?_⟩
  ·exact (hN.next hk2 (fun n e=>by left;omega)).mono (fun _ _=>rfl) (fun n hn=>⟨by have:=hn.1;omega,hn.2⟩)
  ·exact hR1.keep hk2 (by omega)
  ·exact hKw.trans hk2 (fun n e=>by right;omega)
end Go.Proofs.YtgifkepklnhddaaGreatDoor.fm
namespace Go.Proofs.YtgifkepklnhddaaGreatDoor.fm
open Go.RowKit
structure NL (w:World) (P:Nat→Prop) (p:Option Addr) (m c:Nat) (us:List Value) (ts:List T):Prop where
 k:Kids w P p m c us
 l:us.length=ts.length
 s:∀ (i:Nat) u t',us[i]?=some u→ts[i]?=some t'→Nd w P u t'
theorem NL.mono {w w':World} {P Q:Nat→Prop} {p:Option Addr} {m c:Nat} {us:List Value} {ts:List T} (h:NL w P p m c us ts) (hw:∀ b,P b→w'.heap[b]?=w.heap[b]?) (hq:∀ b,P b→Q b):NL w' Q p m c us ts :=
 ⟨h.k.mono hw hq,h.l,fun i u t' h1 h2=>(h.s i u t' h1 h2).mono hw hq⟩
theorem NL.next {X:Nat→Prop} {w a b:World} {p:Option Addr} {m c:Nat} {us:List Value} {ts:List T} (h:NL a (Own w a) p m c us ts) (hk:Kp X a b) (hx:∀ n,X n→n<w.heap.size∨a.heap.size≤n):NL b (Own w b) p m c us ts :=
 h.mono (fun n hn=>hk.block n hn.2 (fun x=>by rcases hx n x with h1 | h1<;>have:=hn.1<;>have:=hn.2<;>omega)) (fun n hn=>⟨hn.1,Nat.lt_of_lt_of_le hn.2 hk.size⟩)
def OutA (w:World) (rb:Nat) (s:ByteArray) (d:Nat) (r:Rs (List T)) (e:Ending) (w':World):Prop :=
 match r with
 | .ok ts k=>∃ p m c us,e=.returned (.slice p m c)∧NL w' (Own w w') p m c us ts∧RD w' rb s k d∧Kp (·=rb) w w'
 | .err k c=>e=.panicked [{ v:=flt k c,recovered:=false }]∧Kp (·=rb) w w'
theorem deeper132_full (rb nb k:Nat) (pb sb:Nat) (s:ByteArray) (w:World) (h:RD w rb s k 30) :
  Calls Tryz.prog 231 #[ptr rb,.func (.func 250) #[] #[ptr pb,ptr sb,ptr nb]] w fun e w'=>e=.panicked [{ v:=flt k 4,recovered:=false }]∧Kp (fun b=>b=rb∨b=nb) w w':=by
 obtain⟨⟨c0,c1,c2⟩,f0,f1,f2⟩:=h.cells
 go_enter Tryz.func231,Tryz.ntmps231
 go_wp2_with fail
 refine (fault_any rb _ 30 4 s _ h).mono ?_
 rintro e w2 ⟨rfl,hb⟩
 go_wp2_with fail
 exact⟨rfl,rfl,(Kp.refl _ _).below hb⟩
theorem deeper132_go (rb nb k d:Nat) (pb sb:Nat) (s:ByteArray) (w:World) (h:RD w rb s k d) (hd:d<30) (r:Rs T)
  (hin:Calls Tryz.prog 250 #[ptr pb,ptr sb,ptr nb] (w.setCell ⟨rb,2,none⟩ (.int .i64 ((d+1:Nat):Int))) (OutN (w.setCell ⟨rb,2,none⟩ (.int .i64 ((d+1:Nat):Int))) rb nb s (d+1) r)) (hne:nb≠rb) :
  Calls Tryz.prog 231 #[ptr rb,.func (.func 250) #[] #[ptr pb,ptr sb,ptr nb]] w (OutN w rb nb s d r):=by
 obtain⟨⟨c0,c1,c2⟩,f0,f1,f2⟩:=h.cells
 have hq:((d:Int) == 30)=false:=by rw [beq_eq_false_iff_ne];omega
 have HI:=hin
 have HIN:Hid (Calls Tryz.prog 250 #[ptr pb,ptr sb,ptr nb] (w.setCell ⟨rb,2,none⟩ (.int .i64 ((d+1:Nat):Int))) (OutN (w.setCell ⟨rb,2,none⟩ (.int .i64 ((d+1:Nat):Int))) rb nb s (d+1) r)):=hin
 clear hin HI
 go_enter Tryz.func231,Tryz.ntmps231
 go_wp2_with fail
 rw [show ((d:Int)+1)=((d+1:Nat):Int) from by omega]
 have hsz:(w.setCell ⟨rb,2,none⟩ (.int .i64 ((d+1:Nat):Int))).heap.size=w.heap.size:=by simp [World.setCell]
 have hK0:Kp (fun b=>b=rb∨b=nb) w (w.setCell ⟨rb,2,none⟩ (.int .i64 ((d+1:Nat):Int))):=(Kp.refl _ _).setCell (Or.inl (Or.inl rfl)) _
 refine HIN.out.mono ?_
 clear HIN
 generalize (w.setCell ⟨rb,2,none⟩ (.int .i64 ((d+1:Nat):Int)))=w0 at *
 intro e w1 ho
 cases r with
 | ok t k' =>
  obtain⟨rfl,hR,⟨cs,hcs,hN⟩,hK⟩:=ho
  clear c0 c1 c2 f0 f1 f2
  obtain⟨⟨c0,c1,c2⟩,f0,f1,f2⟩:=hR.cells
  go_wp2_with fail
  go_end0
  refine⟨rfl,hR.setDeep d,⟨cs,?_,?_⟩,?_⟩
  ·rw [Below.heap_setCell _ _ _ _ hne];exact hcs
  ·have:=hN.next (X:=fun b=>b=rb) (b:=w1.setCell ⟨rb,2,none⟩ (.int .i64 (d:Int))) (kpset w1 rb 2 _) (fun n e=>by left;rw [e,hsz];exact h.lt)
   exact this.mono (fun _ _=>rfl) (fun n hn=>⟨by have:=hn.1;omega,hn.2⟩)
  ·exact (hK0.trans hK (fun n e=>.inl e)).setCell (Or.inl (Or.inl rfl)) _
 | err k' c =>
  obtain⟨rfl,hK⟩:=ho
  go_wp2_with fail
  exact⟨rfl,rfl,hK0.trans hK (fun n e=>.inl e)⟩
set_option maxHeartbeats 1000000 in
theorem call1 (s name:ByteArray) (hs:s.size≤140737488355328) (rb pb sb nb k d:Nat) (w:World) (h:RD w rb s k d) (hp:w.heap[pb]?=some (.cells #[ptr rb] 268 (0,0))) (hsb:w.heap[sb]?=some (.cells #[.string name] 9 (0,0))) (hn:w.heap[nb]?=some (.cells (N12 9 0 name .z .z (.slice none 0 0)) 57 (0,0)))
  (hpr:pb≠rb) (hnr:nb≠rb) (hk:k+name.size+1≤s.size) (r:Rs (List T)) (hop:∀ w1,RD w1 rb s (k+name.size+1) d→Kp (·=rb) w w1→Calls Tryz.prog 251 #[ptr rb] w1 (OutA w1 rb s d r)) :
  Calls Tryz.prog 250 #[ptr pb,ptr sb,ptr nb] w (OutN w rb nb s d (r.bind fun l k'=>.ok (tCall name l) k')):=by
 obtain⟨⟨c0,c1,c2⟩,f0,f1,f2⟩:=h.cells
 obtain⟨p0,p1⟩:=cells1 hp
 obtain⟨s0,s1⟩:=cells1 hsb
 have HOP:Hid (∀ w1,RD w1 rb s (k+name.size+1) d→Kp (·=rb) w w1→Calls Tryz.prog 251 #[ptr rb] w1 (OutA w1 rb s d r)):=hop
 clear hop
 go_enter Tryz.func250,Tryz.ntmps250
 go_wp2
 go_region
 go_wp2_with fail
 have hR0:RD (w.setCell ⟨rb,1,none⟩ (.int .i64 ((k+name.size+1:Nat):Int))).drew rb s (k+name.size+1) d:=(h.setAt (k+name.size+1)).drew
 have hK0:Kp (·=rb) w (w.setCell ⟨rb,1,none⟩ (.int .i64 ((k+name.size+1:Nat):Int))).drew:=(kpset w rb 1 (.int .i64 ((k+name.size+1:Nat):Int))).drew
 have hsz:(w.setCell ⟨rb,1,none⟩ (.int .i64 ((k+name.size+1:Nat):Int))).drew.heap.size=w.heap.size:=by simp [World.setCell,World.drew]
 rw [show ((k:Int)+((name.size:Int)+1))=((k+name.size+1:Nat):Int) from by omega]
 generalize (w.setCell ⟨rb,1,none⟩ (.int .i64 ((k+name.size+1:Nat):Int))).drew=w0 at *
 have hp0:=hK0.blk hp hpr
 have hn0:=hK0.blk hn hnr
 clear c0 c1 c2 f0 f1 f2 p0 p1 s0 s1
 refine (HOP.out _ hR0 hK0).mono ?_
 clear HOP
 intro e w1 ho
 cases r with
 | err k' c =>
  obtain⟨rfl,hK⟩:=ho
  go_wp2_with fail
  exact⟨rfl,rfl,(hK0.trans hK (fun n e=>.inl e)).mono (fun _ _ e=>.inl e)⟩
 | ok ts k' =>
  obtain⟨p,m,c,us,rfl,hN,hR1,hK1⟩:=ho
  have hn1:=hK1.blk hn0 hnr
  have hl1:=lt_blk hn
  obtain⟨q,qf⟩:=cells12 hn1
  have q11:=q.2.2.2.2.2.2.2.2.2.2.2
  have qf11:=qf 11
  clear q qf
  go_wp2_with fail
  go_end0
  have hKw:Kp (fun b=>b=rb∨b=nb) w w1:=(hK0.trans hK1 (fun n e=>.inl e)).mono (fun _ _ e=>.inl e)
  have hKs:=kpset w1 nb 11 (.slice p m c)
  have hb:=blk_set (o:=11) (u:=.slice p m c) hn1
  have hR2:=hR1.keep hKs (fun e=>hnr e.symm)
  generalize w1.setCell ⟨nb,11,none⟩ (.slice p m c)=w2 at *
  have hN2:NL w2 (Own w w2) p m c us ts:=(hN.next hKs (fun n e=>by left;omega)).mono (fun _ _=>rfl) (fun n hn=>⟨by have:=hn.1;omega,hn.2⟩)
  exact⟨rfl,hR2,⟨N12 9 0 name .z .z (.slice p m c),hb,.mk hN2.k hN2.l hN2.s⟩,hKw.trans hKs (fun n e=>.inl (.inr e))⟩
structure PC (w:World) (rb:Nat) (name:ByteArray) (wx:World):Prop where
 p:wx.heap[w.heap.size]?=some (.cells #[ptr rb] 268 (0,0))
 s:wx.heap[w.heap.size+1]?=some (.cells #[.string name] 9 (0,0))
 q:wx.heap[w.heap.size+1+1]?=some (.cells NZ 57 (0,0))
 n:wx.heap[w.heap.size+1+1+1]?=some (.cells (N12 9 0 name .z .z (.slice none 0 0)) 57 (0,0))
 k:Kp (fun _=>False) w wx
theorem PC.start (w:World) (rb:Nat) (name:ByteArray):PC w rb name ((((w.alloc (.cells #[ptr rb] 268)).alloc (.cells #[.string name] 9)).alloc (.cells NZ 57)).alloc (.cells (N12 9 0 name .z .z (.slice none 0 0)) 57)):=by
 refine⟨?_,?_,?_,?_,((((Kp.refl _ _).alloc _).alloc _).alloc _).alloc _⟩
 ·rw [Below.heap_alloc _ _ _ (by simp;omega),Below.heap_alloc _ _ _ (by simp;omega),Below.heap_alloc _ _ _ (by simp)];exact blk_new _ _
 ·rw [Below.heap_alloc _ _ _ (by simp),Below.heap_alloc _ _ _ (by simp)]
  have:=blk_new (w.alloc (.cells #[ptr rb] 268)) (.cells #[.string name] 9)
  simpa using this
 ·rw [Below.heap_alloc _ _ _ (by simp)]
  have:=blk_new ((w.alloc (.cells #[ptr rb] 268)).alloc (.cells #[.string name] 9)) (.cells NZ 57)
  simpa using this
 ·have:=blk_new (((w.alloc (.cells #[ptr rb] 268)).alloc (.cells #[.string name] 9)).alloc (.cells NZ 57)) (.cells (N12 9 0 name .z .z (.slice none 0 0)) 57)
  simpa using this
theorem PC.kp {w w0 w1:World} {rb:Nat} {name:ByteArray} (h:PC w rb name w0) (hk:Kp (fun b=>b=rb∨b=w.heap.size+1+1+1) w0 w1):Kp (·=rb) w w1 :=
 (h.k.mono (fun _ _ e=>e.elim)).trans hk (fun n e=>by
  rcases e with e | e
  ·exact .inl e
  ·right;omega)
set_option maxHeartbeats 1000000 in
theorem call_walk (s name:ByteArray) (rb k d:Nat) (w:World) (h:RD w rb s k d) (r:Rs T)
  (hin:∀ w1,RD w1 rb s k d→PC w rb name w1→Calls Tryz.prog 231 #[ptr rb,.func (.func 250) #[] #[ptr w.heap.size,ptr (w.heap.size+1),ptr (w.heap.size+1+1+1)]] w1 (OutN w1 rb (w.heap.size+1+1+1) s d r)) :
  Calls Tryz.prog 238 #[ptr rb,.string name] w (Out w rb s d r):=by
 have hmf:∀ (fn:Fn) (first cap:Array Value) (w:World),(Instr.makeFunc fn first cap).run Tryz.prog w=.ok (.func fn first cap) w:=fun _ _ _ _=>rfl
 have HIN:Hid (∀ w1,RD w1 rb s k d→PC w rb name w1→Calls Tryz.prog 231 #[ptr rb,.func (.func 250) #[] #[ptr w.heap.size,ptr (w.heap.size+1),ptr (w.heap.size+1+1+1)]] w1 (OutN w1 rb (w.heap.size+1+1+1) s d r)):=hin
 clear hin
 have hPC:=PC.start w rb name
 have hR0:=(((h.alloc (.cells #[ptr rb] 268)).alloc (.cells #[.string name] 9)).alloc (.cells NZ 57)).alloc (.cells (N12 9 0 name .z .z (.slice none 0 0)) 57)
 go_enter Tryz.func238,Tryz.ntmps238
 go_wp2_with fail
 refine (HIN.out _ hR0 hPC).mono ?_
 clear HIN
 generalize (((w.alloc (.cells #[ptr rb] 268)).alloc (.cells #[.string name] 9)).alloc (.cells NZ 57)).alloc (.cells (N12 9 0 name .z .z (.slice none 0 0)) 57)=w0 at *
 intro e w1 ho
 cases r with
 | err k' c =>
  obtain⟨rfl,hK⟩:=ho
  go_wp2_with fail
  exact⟨rfl,rfl,PC.kp hPC hK⟩
 | ok t k' =>
  obtain⟨rfl,hR1,⟨cs,hn1,hN⟩,hK1⟩:=ho
  have hKw:=PC.kp hPC hK1
  have hrl:=h.lt
  have hq1:=hK1.blk hPC.q (by rintro (e | e)<;>omega)
  have hsz:=hPC.k.size
  have hs1:=hK1.size
  have hql:=lt_blk hPC.q
  cases hN with
  | @mk k1 n1 s1 r1 t1 p1 m1 e1 us ts hk hl hs =>
  have hN:=Nd.mk (k:=k1) (n:=n1) (s:=s1) (r:=r1) (t:=t1) hk hl hs
  clear hk hl hs
  obtain⟨⟨a0,a1,a2,a3,a4,a5,a6,a7,a8,a9,a10,a11⟩,af⟩:=cells12 hn1
  obtain⟨⟨b0,b1,b2,b3,b4,b5,b6,b7,b8,b9,b10,b11⟩,bf⟩:=cells12 hq1
  go_wp2_with fail
  refine fin12 hq1 (Q:=bodyPost _ _ _ _ _) ?_
  intro w2 hq2 hk2
  clear a0 a1 a2 a3 a4 a5 a6 a7 a8 a9 a10 a11 af b0 b1 b2 b3 b4 b5 b6 b7 b8 b9 b10 b11 bf
  obtain⟨⟨b0,b1,b2,b3,b4,b5,b6,b7,b8,b9,b10,b11⟩,bf⟩:=cells12 hq2
  refine bodyPost_ret (v:=NV k1 n1 s1 r1 t1 (.slice p1 m1 e1)) (by simp [results,Tryz.results238,go_sem,b0,b1,b2,b3,b4,b5,b6,b7,b8,b9,b10,b11]) rfl ⟨_,rfl,?_,?_,?_⟩
  ·exact (hN.next hk2 (fun n e=>by left;omega)).mono (fun _ _=>rfl) (fun n hn=>⟨by have:=hn.1;omega,hn.2⟩)
  ·exact hR1.keep hk2 (by omega)
  ·exact hKw.trans hk2 (fun n e=>by right;omega)
end Go.Proofs.YtgifkepklnhddaaGreatDoor.fm
