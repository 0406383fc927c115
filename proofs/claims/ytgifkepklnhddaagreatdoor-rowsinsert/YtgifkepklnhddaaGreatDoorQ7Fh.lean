import Derived.Test.YtgifkepklnhddaaGreatDoorQ7Fc
import Derived.OwnWalk
namespace Go.Proofs.YtgifkepklnhddaaGreatDoor.fm
open Go.RowKit
abbrev RV (r:Rf):Value:=.agg #[.int .i64 r.c,.int .i64 r.r,.bool r.fc,.bool r.fr]
structure Leafs (L:Lex) (s:ByteArray) (E:World→Prop):Prop where
 keep:∀ {X:Nat→Prop} {w w':World},E w→Kp X w w'→(∀ n,X n→11≤n)→E w'
 size:∀ {w:World},E w→11≤w.heap.size
 opYes:∀ rb k d l w,E w→RD w rb s k d→k≤s.size→11≤rb→1≤l→l≤4→lev (opAt s (skip s k)).1=l→Calls Tryz.prog 201 #[ptr rb,.int .i64 (l:Nat)] w fun e w'=>e=.returned (.int .i64 ((opAt s (skip s k)).1:Nat))∧RD w' rb s (skip s k+(opAt s (skip s k)).2) d∧Kp (·=rb) w w'
 opNo:∀ rb k d l w,E w→RD w rb s k d→k≤s.size→11≤rb→1≤l→l≤4→lev (opAt s (skip s k)).1≠l→Calls Tryz.prog 201 #[ptr rb,.int .i64 (l:Nat)] w fun e w'=>e=.returned (.int .i64 0)∧RD w' rb s (skip s k) d∧Kp (·=rb) w w'
 quoted:∀ rb k d w,E w→RD w rb s k d→k<s.size→nx s k=34→Calls Tryz.prog 220 #[ptr rb] w (Out w rb s d (match quote s (k+1) [] with | none=>.err k 2 | some (l,k')=>.ok (tText ⟨l.toArray⟩) k'))
 bad:∀ rb k d w,E w→RD w rb s k d→k<s.size→11≤rb→Calls Tryz.prog 221 #[ptr rb] w (Out w rb s d (match badAt s k with | none=>.err k 2 | some (n,len)=>.ok (tBad n) (k+len)))
 name:∀ t w,t.size≤200→Calls Tryz.prog 204 #[.string t] w fun e w'=>e=.returned (.bool (isNm t))∧Below w.heap.size w w'
 meanYes:∀ t w u,E w→t.size≤200→L.mean t=some u→Calls Tryz.prog 239 #[.string t] w fun e w'=>(∃ k n x r q,e=.returned (.tuple #[NV k n x r q (.slice none 0 0),.bool true])∧u=.nd k n x r q [])∧Below w.heap.size w w'
 meanNo:∀ t w,E w→t.size≤200→L.mean t=none→Calls Tryz.prog 239 #[.string t] w fun e w'=>e=.returned (.tuple #[NV 0 0 nul .z .z (.slice none 0 0),.bool false])∧Below w.heap.size w w'
 refYes:∀ t w r,t.size≤200→L.ref t=some r→Calls Tryz.prog 252 #[.string t] w fun e w'=>e=.returned (.tuple #[RV r,.nilIface])∧Below w.heap.size w w'
 refNo:∀ t w,t.size≤200→L.ref t=none→Calls Tryz.prog 252 #[.string t] w fun e w'=>e=.returned (.tuple #[RV .z,.iface 100 (.int .i64 2)])∧Below w.heap.size w w'
section
variable {L:Lex} {s:ByteArray} {E:World→Prop} (F:Leafs L s E) (hs:s.size≤200)
include F hs
set_option maxHeartbeats 2000000 in
theorem argument_plain (rb k d:Nat) (w:World) (hE:E w) (h:RD w rb s k d) (hrb:11≤rb) (hk:k≤s.size) (r:Rs T)
  (hno:L.ref (tok s (skip s k))=none∨(∃ q,L.ref (tok s (skip s k))=some q)∧nx s (tokEnd s (skip s k))≠58)
  (hop:∀ w1,E w1→RD w1 rb s (skip s k) d→Calls Tryz.prog 176 #[ptr rb,.int .i64 1] w1 (Out w1 rb s d r)) :
  Calls Tryz.prog 263 #[ptr rb] w (Out w rb s d r):=by
 have hk1:=(skip_spec s k).2.2 hk
 have hz:=tok_size s (skip s k) hk1
 have hte:=(tok_spec s (skip s k)).2.2.1 hk1
 have HOP:Hid (∀ w1,E w1→RD w1 rb s (skip s k) d→Calls Tryz.prog 176 #[ptr rb,.int .i64 1] w1 (Out w1 rb s d r)):=hop
 have HNO:Hid (L.ref (tok s (skip s k))=none∨(∃ q,L.ref (tok s (skip s k))=some q)∧nx s (tokEnd s (skip s k))≠58):=hno
 have hEa:=F.keep hE ((Kp.refl (·=rb) w).alloc (.cells NZ 57)) (fun n e=>by omega)
 clear hop hno
 go_enter Tryz.func263,Tryz.ntmps263
 go_wp2_with fail
 refine (blanks_any rb k d s _ (h.alloc _) hk (by omega)).mono ?_
 rintro e w1 ⟨rfl,hR1,hK1⟩
 have hE1:=F.keep hEa hK1 (fun n e=>by omega)
 have hq1:=hK1.blk (blk_new w (.cells NZ 57)) (by have:=h.lt;omega)
 have hKa:Kp (·=rb) w w1:=((Kp.refl (·=rb) w).alloc (.cells NZ 57)).trans hK1 (fun n e=>.inl e)
 go_wp2_with fail
 refine (token_any rb _ d s _ hR1 hk1 (by omega)).mono ?_
 rintro e w2 ⟨rfl,hb2⟩
 have hR2:=hR1.below hb2
 have hK2:=hKa.below hb2
 go_wp2_with fail
 rcases HNO.out with hno | ⟨⟨q,hq⟩,hx⟩
 ·refine (F.refNo _ _ (by omega) hno).mono ?_
  rintro e w3 ⟨rfl,hb3⟩
  have hK3:=(hK2.below hb3).alloc (.cells #[.int .i64 0,.int .i64 0,.bool false,.bool false] 54)
  have hE3:=F.keep hE hK3 (fun n e=>by omega)
  have hq3:(w3.alloc (.cells #[.int .i64 0,.int .i64 0,.bool false,.bool false] 54)).heap[w.heap.size]?=some (.cells NZ 57 (0,0)):=((((Kp.refl (fun _=>False) w1).below hb2).below hb3).alloc _).blk hq1 id
  have hR3:=(hR2.below hb3).alloc (.cells #[.int .i64 0,.int .i64 0,.bool false,.bool false] 54)
  go_wp2_with fail
  generalize w3.alloc (.cells #[.int .i64 0,.int .i64 0,.bool false,.bool false] 54)=w4 at *
  refine (HOP.out _ hE3 hR3).mono ?_
  clear HOP HNO
  intro e w8 ho
  cases r with
  | err k' c =>
   obtain⟨rfl,hK8⟩:=ho
   go_wp2_with fail
   exact⟨rfl,rfl,hK3.trans hK8 (fun n e=>.inl e)⟩
  | ok t k' =>
   obtain⟨v,rfl,hN,hR8,hK8⟩:=ho
   have hq8:=hK8.blk hq3 (by have:=h.lt;omega)
   have hsz8:=hK3.size
   have hlq:=lt_blk hq3
   have hKw:=hK3.trans hK8 (fun n e=>.inl e)
   have hrl:=h.lt
   cases hN with
   | @mk k1 n1 s1 r1 t1 p1 m1 e1 us ts hk hl hs =>
   have hN:=Nd.mk (k:=k1) (n:=n1) (s:=s1) (r:=r1) (t:=t1) hk hl hs
   clear hk hl hs
   obtain⟨⟨b0,b1,b2,b3,b4,b5,b6,b7,b8,b9,b10,b11⟩,bf⟩:=cells12 hq8
   go_wp2_with fail
   refine fin12 hq8 (Q:=bodyPost _ _ _ _ _) ?_
   intro w9 hq9 hk9
   clear b0 b1 b2 b3 b4 b5 b6 b7 b8 b9 b10 b11 bf
   obtain⟨⟨b0,b1,b2,b3,b4,b5,b6,b7,b8,b9,b10,b11⟩,bf⟩:=cells12 hq9
   refine bodyPost_ret (v:=NV k1 n1 s1 r1 t1 (.slice p1 m1 e1)) (by simp [results,Tryz.results263,go_sem,b0,b1,b2,b3,b4,b5,b6,b7,b8,b9,b10,b11]) rfl ⟨_,rfl,?_,?_,?_⟩
   ·exact (hN.next hk9 (fun n e=>by left;omega)).mono (fun _ _=>rfl) (fun n hn=>⟨by have:=hn.1;omega,hn.2⟩)
   ·exact hR8.keep hk9 (by omega)
   ·exact hKw.trans hk9 (fun n e=>by right;omega)
 ·refine (F.refYes _ _ q (by omega) hq).mono ?_
  rintro e w3 ⟨rfl,hb3⟩
  have hK3:=(hK2.below hb3).alloc (.cells #[.int .i64 q.c,.int .i64 q.r,.bool q.fc,.bool q.fr] 54)
  have hq3:(w3.alloc (.cells #[.int .i64 q.c,.int .i64 q.r,.bool q.fc,.bool q.fr] 54)).heap[w.heap.size]?=some (.cells NZ 57 (0,0)):=((((Kp.refl (fun _=>False) w1).below hb2).below hb3).alloc _).blk hq1 id
  have hR3:=(hR2.below hb3).alloc (.cells #[.int .i64 q.c,.int .i64 q.r,.bool q.fc,.bool q.fr] 54)
  go_wp2_with fail
  generalize w3.alloc (.cells #[.int .i64 q.c,.int .i64 q.r,.bool q.fc,.bool q.fr] 54)=w4 at *
  refine (behind_any rb _ d 58 s _ hR3 hk1 (by omega) (by omega)).mono ?_
  rintro e w5 ⟨rfl,hb5⟩
  rw [decide_eq_false hx]
  have hK5:=hK3.below hb5
  have hE5:=F.keep hE hK5 (fun n e=>by omega)
  have hq5:=((Kp.refl (fun _=>False) w4).below hb5).blk hq3 id
  have hR5:=hR3.below hb5
  go_wp2_with fail
  refine (HOP.out _ hE5 hR5).mono ?_
  clear HOP HNO
  intro e w8 ho
  cases r with
  | err k' c =>
   obtain⟨rfl,hK8⟩:=ho
   go_wp2_with fail
   exact⟨rfl,rfl,hK5.trans hK8 (fun n e=>.inl e)⟩
  | ok t k' =>
   obtain⟨v,rfl,hN,hR8,hK8⟩:=ho
   have hq8:=hK8.blk hq5 (by have:=h.lt;omega)
   have hsz8:=hK5.size
   have hlq:=lt_blk hq5
   have hKw:=hK5.trans hK8 (fun n e=>.inl e)
   have hrl:=h.lt
   cases hN with
   | @mk k1 n1 s1 r1 t1 p1 m1 e1 us ts hk hl hs =>
   have hN:=Nd.mk (k:=k1) (n:=n1) (s:=s1) (r:=r1) (t:=t1) hk hl hs
   clear hk hl hs
   obtain⟨⟨b0,b1,b2,b3,b4,b5,b6,b7,b8,b9,b10,b11⟩,bf⟩:=cells12 hq8
   go_wp2_with fail
   refine fin12 hq8 (Q:=bodyPost _ _ _ _ _) ?_
   intro w9 hq9 hk9
   clear b0 b1 b2 b3 b4 b5 b6 b7 b8 b9 b10 b11 bf
   obtain⟨⟨b0,b1,b2,b3,b4,b5,b6,b7,b8,b9,b10,b11⟩,bf⟩:=cells12 hq9
   refine bodyPost_ret (v:=NV k1 n1 s1 r1 t1 (.slice p1 m1 e1)) (by simp [results,Tryz.results263,go_sem,b0,b1,b2,b3,b4,b5,b6,b7,b8,b9,b10,b11]) rfl ⟨_,rfl,?_,?_,?_⟩
   ·exact (hN.next hk9 (fun n e=>by left;omega)).mono (fun _ _=>rfl) (fun n hn=>⟨by have:=hn.1;omega,hn.2⟩)
   ·exact hR8.keep hk9 (by omega)
   ·exact hKw.trans hk9 (fun n e=>by right;omega)
end
end Go.Proofs.YtgifkepklnhddaaGreatDoor.fm
namespace Go.Proofs.YtgifkepklnhddaaGreatDoor.fm
open Go.RowKit
theorem cells4 {w:World} {b:Nat} {a0 a1 a2 a3:Value} {t:TypeId} (h:w.heap[b]?=some (.cells #[a0,a1,a2,a3] t (0,0))):w.cell? ⟨b,0,none⟩=some a0∧w.cell? ⟨b,1,none⟩=some a1∧w.cell? ⟨b,2,none⟩=some a2∧w.cell? ⟨b,3,none⟩=some a3:=by
 simp [World.cell?,h]
section
variable {L:Lex} {s:ByteArray} {E:World→Prop} (F:Leafs L s E) (hs:s.size≤200)
include F hs
set_option maxHeartbeats 4000000 in
theorem argument_box (rb k d:Nat) (w:World) (h:RD w rb s k d) (hk:k≤s.size) (q:Rf) (hq:L.ref (tok s (skip s k))=some q) (hx:nx s (tokEnd s (skip s k))=58) :
  Calls Tryz.prog 263 #[ptr rb] w (Out w rb s d (match L.ref (tok s (tokEnd s (skip s k)+1)) with | none=>.err (tokEnd s (skip s k)+1) 2 | some r2=>.ok (tBox q r2) (tokEnd s (tokEnd s (skip s k)+1)))):=by
 have hk1:=(skip_spec s k).2.2 hk
 have hz:=tok_size s (skip s k) hk1
 have hlo:=(tok_spec s (skip s k)).1
 have hte:=nx_lt (s:=s) (k:=tokEnd s (skip s k)) (by omega)
 have hz2:=tok_size s (tokEnd s (skip s k)+1) hte
 have hlo2:=(tok_spec s (tokEnd s (skip s k)+1)).1
 have hte2:=(tok_spec s (tokEnd s (skip s k)+1)).2.2.1 hte
 have HQ:Hid (L.ref (tok s (skip s k))=some q):=hq
 have HX:Hid (nx s (tokEnd s (skip s k))=58):=hx
 clear hq hx
 cases hr2:L.ref (tok s (tokEnd s (skip s k)+1)) with
 | none =>
  have HR2:Hid (L.ref (tok s (tokEnd s (skip s k)+1))=none):=hr2
  clear hr2
  go_enter Tryz.func263,Tryz.ntmps263
  go_wp2_with fail
  refine (blanks_any rb k d s _ (h.alloc _) hk (by omega)).mono ?_
  rintro e w1 ⟨rfl,hR1,hK1⟩
  have hq1:=hK1.blk (blk_new w (.cells NZ 57)) (by have:=h.lt;omega)
  have hKa:Kp (·=rb) w w1:=((Kp.refl (·=rb) w).alloc (.cells NZ 57)).trans hK1 (fun n e=>.inl e)
  go_wp2_with fail
  refine (token_any rb _ d s _ hR1 hk1 (by omega)).mono ?_
  rintro e w2 ⟨rfl,hb2⟩
  have hR2:=hR1.below hb2
  have hK2:=hKa.below hb2
  go_wp2_with fail
  refine (F.refYes _ _ q (by omega) HQ.out).mono ?_
  rintro e w3 ⟨rfl,hb3⟩
  have hK3:=(hK2.below hb3).alloc (.cells #[.int .i64 q.c,.int .i64 q.r,.bool q.fc,.bool q.fr] 54)
  have hq3:(w3.alloc (.cells #[.int .i64 q.c,.int .i64 q.r,.bool q.fc,.bool q.fr] 54)).heap[w.heap.size]?=some (.cells NZ 57 (0,0)):=((((Kp.refl (fun _=>False) w1).below hb2).below hb3).alloc _).blk hq1 id
  have hf3:=blk_new w3 (.cells #[.int .i64 q.c,.int .i64 q.r,.bool q.fc,.bool q.fr] 54)
  have hR3:=(hR2.below hb3).alloc (.cells #[.int .i64 q.c,.int .i64 q.r,.bool q.fc,.bool q.fr] 54)
  have hfl:rb<w3.heap.size:=(hR2.below hb3).lt
  have hwl:w.heap.size<w3.heap.size:=lt_blk ((((Kp.refl (fun _=>False) w1).below hb2).below hb3).blk hq1 id)
  go_wp2_with fail
  generalize hw4:w3.alloc (.cells #[.int .i64 q.c,.int .i64 q.r,.bool q.fc,.bool q.fr] 54)=w4 at *
  have hf4l:=lt_blk hf3
  clear hw4
  refine (behind_any rb _ d 58 s _ hR3 hk1 (by omega) (by omega)).mono ?_
  rintro e w5 ⟨rfl,hb5⟩
  rw [decide_eq_true HX.out]
  have hK5:=hK3.below hb5
  have hq5:=((Kp.refl (fun _=>False) w4).below hb5).blk hq3 id
  have hf5:=((Kp.refl (fun _=>False) w4).below hb5).blk hf3 id
  have hR5:=hR3.below hb5
  obtain⟨⟨c0,c1,c2⟩,f0,f1,f2⟩:=hR5.cells
  go_wp2_with fail
  have hR5':=hR5.setAt (tokEnd s (skip s k)+1)
  have hK5':=hK5.setCell (p:=⟨rb,1,none⟩) (Or.inl rfl) (.int .i64 ((tokEnd s (skip s k)+1:Nat):Int))
  have hq5':=(kpset w5 rb 1 (.int .i64 ((tokEnd s (skip s k)+1:Nat):Int))).blk hq5 (by have:=h.lt;omega)
  have hf5':=(kpset w5 rb 1 (.int .i64 ((tokEnd s (skip s k)+1:Nat):Int))).blk hf5 (by omega)
  rw [show ((skip s k:Nat):Int)+(((tokEnd s (skip s k) - skip s k:Nat):Int)+1)=((tokEnd s (skip s k)+1:Nat):Int) from by omega]
  clear c0 c1 c2 f0 f1 f2
  generalize w5.setCell ⟨rb,1,none⟩ (.int .i64 ((tokEnd s (skip s k)+1:Nat):Int))=w5' at *
  refine (token_any rb _ d s _ hR5' hte (by omega)).mono ?_
  rintro e w6 ⟨rfl,hb6⟩
  have hR6:=hR5'.below hb6
  have hK6:=hK5'.below hb6
  have hq6:=((Kp.refl (fun _=>False) w5').below hb6).blk hq5' id
  have hf6:=((Kp.refl (fun _=>False) w5').below hb6).blk hf5' id
  go_wp2_with fail
  refine (F.refNo _ _ (by omega) HR2.out).mono ?_
  rintro e w7 ⟨rfl,hb7⟩
  have hR7:=(hR6.below hb7).alloc (.cells #[.int .i64 0,.int .i64 0,.bool false,.bool false] 54)
  have hK7:=(hK6.below hb7).alloc (.cells #[.int .i64 0,.int .i64 0,.bool false,.bool false] 54)
  go_wp2_with fail
  refine (fault_any rb _ d 2 s _ hR7).mono ?_
  rintro e w8 ⟨rfl,hb8⟩
  go_wp2_with fail
  exact⟨rfl,rfl,hK7.below hb8⟩
 | some r2 =>
  have HR2:Hid (L.ref (tok s (tokEnd s (skip s k)+1))=some r2):=hr2
  clear hr2
  go_enter Tryz.func263,Tryz.ntmps263
  go_wp2_with fail
  refine (blanks_any rb k d s _ (h.alloc _) hk (by omega)).mono ?_
  rintro e w1 ⟨rfl,hR1,hK1⟩
  have hq1:=hK1.blk (blk_new w (.cells NZ 57)) (by have:=h.lt;omega)
  have hKa:Kp (·=rb) w w1:=((Kp.refl (·=rb) w).alloc (.cells NZ 57)).trans hK1 (fun n e=>.inl e)
  go_wp2_with fail
  refine (token_any rb _ d s _ hR1 hk1 (by omega)).mono ?_
  rintro e w2 ⟨rfl,hb2⟩
  have hR2:=hR1.below hb2
  have hK2:=hKa.below hb2
  go_wp2_with fail
  refine (F.refYes _ _ q (by omega) HQ.out).mono ?_
  rintro e w3 ⟨rfl,hb3⟩
  have hK3:=(hK2.below hb3).alloc (.cells #[.int .i64 q.c,.int .i64 q.r,.bool q.fc,.bool q.fr] 54)
  have hq3:(w3.alloc (.cells #[.int .i64 q.c,.int .i64 q.r,.bool q.fc,.bool q.fr] 54)).heap[w.heap.size]?=some (.cells NZ 57 (0,0)):=((((Kp.refl (fun _=>False) w1).below hb2).below hb3).alloc _).blk hq1 id
  have hf3:=blk_new w3 (.cells #[.int .i64 q.c,.int .i64 q.r,.bool q.fc,.bool q.fr] 54)
  have hR3:=(hR2.below hb3).alloc (.cells #[.int .i64 q.c,.int .i64 q.r,.bool q.fc,.bool q.fr] 54)
  have hfl:rb<w3.heap.size:=(hR2.below hb3).lt
  have hwl:w.heap.size<w3.heap.size:=lt_blk ((((Kp.refl (fun _=>False) w1).below hb2).below hb3).blk hq1 id)
  go_wp2_with fail
  generalize hw4:w3.alloc (.cells #[.int .i64 q.c,.int .i64 q.r,.bool q.fc,.bool q.fr] 54)=w4 at *
  have hf4l:=lt_blk hf3
  clear hw4
  refine (behind_any rb _ d 58 s _ hR3 hk1 (by omega) (by omega)).mono ?_
  rintro e w5 ⟨rfl,hb5⟩
  rw [decide_eq_true HX.out]
  have hK5:=hK3.below hb5
  have hq5:=((Kp.refl (fun _=>False) w4).below hb5).blk hq3 id
  have hf5:=((Kp.refl (fun _=>False) w4).below hb5).blk hf3 id
  have hR5:=hR3.below hb5
  obtain⟨⟨c0,c1,c2⟩,f0,f1,f2⟩:=hR5.cells
  go_wp2_with fail
  have hR5':=hR5.setAt (tokEnd s (skip s k)+1)
  have hK5':=hK5.setCell (p:=⟨rb,1,none⟩) (Or.inl rfl) (.int .i64 ((tokEnd s (skip s k)+1:Nat):Int))
  have hq5':=(kpset w5 rb 1 (.int .i64 ((tokEnd s (skip s k)+1:Nat):Int))).blk hq5 (by have:=h.lt;omega)
  have hf5':=(kpset w5 rb 1 (.int .i64 ((tokEnd s (skip s k)+1:Nat):Int))).blk hf5 (by omega)
  rw [show ((skip s k:Nat):Int)+(((tokEnd s (skip s k) - skip s k:Nat):Int)+1)=((tokEnd s (skip s k)+1:Nat):Int) from by omega]
  clear c0 c1 c2 f0 f1 f2
  generalize w5.setCell ⟨rb,1,none⟩ (.int .i64 ((tokEnd s (skip s k)+1:Nat):Int))=w5' at *
  refine (token_any rb _ d s _ hR5' hte (by omega)).mono ?_
  rintro e w6 ⟨rfl,hb6⟩
  have hR6:=hR5'.below hb6
  have hK6:=hK5'.below hb6
  have hq6:=((Kp.refl (fun _=>False) w5').below hb6).blk hq5' id
  have hf6:=((Kp.refl (fun _=>False) w5').below hb6).blk hf5' id
  go_wp2_with fail
  refine (F.refYes _ _ r2 (by omega) HR2.out).mono ?_
  rintro e w7 ⟨rfl,hb7⟩
  have hR7:=(hR6.below hb7).alloc (.cells #[.int .i64 r2.c,.int .i64 r2.r,.bool r2.fc,.bool r2.fr] 54)
  have hK7:=(hK6.below hb7).alloc (.cells #[.int .i64 r2.c,.int .i64 r2.r,.bool r2.fc,.bool r2.fr] 54)
  have hN7:=((Kp.refl (fun _=>False) w6).below hb7).alloc (.cells #[.int .i64 r2.c,.int .i64 r2.r,.bool r2.fc,.bool r2.fr] 54)
  have hq7:=hN7.blk hq6 id
  have hf7:=hN7.blk hf6 id
  have hg7:=blk_new w7 (.cells #[.int .i64 r2.c,.int .i64 r2.r,.bool r2.fc,.bool r2.fr] 54)
  have hrl:=h.lt
  have hs7:=hb7.size
  have hl6:=hR6.lt
  obtain⟨⟨c0,c1,c2⟩,f0,f1,f2⟩:=hR7.cells
  obtain⟨g0,g1,g2,g3⟩:=cells4 hf7
  obtain⟨k0,k1,k2,k3⟩:=cells4 hg7
  obtain⟨⟨b0,b1,b2,b3,b4,b5,b6,b7,b8,b9,b10,b11⟩,bf⟩:=cells12 hq7
  have hne1:w7.heap.size≠rb:=by omega
  have hne2:w3.heap.size≠rb:=by omega
  have hne3:w.heap.size≠rb:=by omega
  go_wp2_with fail
  rw [show ((tokEnd s (skip s k):Nat):Int)+1+((tokEnd s (tokEnd s (skip s k)+1) - (tokEnd s (skip s k)+1):Nat):Int)=((tokEnd s (tokEnd s (skip s k)+1):Nat):Int) from by omega]
  clear c0 c1 c2 f0 f1 f2 g0 g1 g2 g3 k0 k1 k2 k3 b0 b1 b2 b3 b4 b5 b6 b7 b8 b9 b10 b11 bf
  have hR8:=hR7.setAt (tokEnd s (tokEnd s (skip s k)+1))
  have hK8:=hK7.setCell (p:=⟨rb,1,none⟩) (Or.inl rfl) (.int .i64 ((tokEnd s (tokEnd s (skip s k)+1):Nat):Int))
  have hq8:=(kpset (w7.alloc (.cells #[.int .i64 r2.c,.int .i64 r2.r,.bool r2.fc,.bool r2.fr] 54)) rb 1 (.int .i64 ((tokEnd s (tokEnd s (skip s k)+1):Nat):Int))).blk hq7 hne3
  generalize (w7.alloc (.cells #[.int .i64 r2.c,.int .i64 r2.r,.bool r2.fc,.bool r2.fr] 54)).setCell ⟨rb,1,none⟩ (.int .i64 ((tokEnd s (tokEnd s (skip s k)+1):Nat):Int))=w8 at *
  refine fin12 hq8 (Q:=bodyPost _ _ _ _ _) ?_
  intro w9 hq9 hk9
  obtain⟨⟨b0,b1,b2,b3,b4,b5,b6,b7,b8,b9,b10,b11⟩,bf⟩:=cells12 hq9
  refine bodyPost_ret (v:=NV 6 0 nul q r2 (.slice none 0 0)) (by simp [results,Tryz.results263,go_sem,b0,b1,b2,b3,b4,b5,b6,b7,b8,b9,b10,b11]) rfl ⟨_,rfl,Nd.leaf,?_,?_⟩
  ·exact hR8.keep hk9 (by omega)
  ·exact hK8.trans hk9 (fun n e=>by right;omega)
set_option maxHeartbeats 4000000 in
theorem word_call (rb k d:Nat) (w:World) (hE:E w) (h:RD w rb s k d) (hrb:11≤rb) (hk:k≤s.size) (hn:isNm (tok s k)=true) (hx:nx s (tokEnd s k)=40) (r:Rs T)
  (hop:∀ w1,E w1→RD w1 rb s k d→Calls Tryz.prog 238 #[ptr rb,.string (tok s k)] w1 (Out w1 rb s d r)) :
  Calls Tryz.prog 222 #[ptr rb] w (Out w rb s d r):=by
 have hz:=tok_size s k hk
 have hte:=(tok_spec s k).2.2.1 hk
 have HOP:Hid (∀ w1,E w1→RD w1 rb s k d→Calls Tryz.prog 238 #[ptr rb,.string (tok s k)] w1 (Out w1 rb s d r)):=hop
 have HN:Hid (isNm (tok s k)=true):=hn
 have HX:Hid (nx s (tokEnd s k)=40):=hx
 have HZ:Hid ((tok s k).size=tokEnd s k - k):=hz
 clear hop hn hx hz
 go_enter Tryz.func222,Tryz.ntmps222
 go_wp2_with fail
 have hK0:=(Kp.refl (·=rb) w).alloc (.cells NZ 57)
 have hR0:=h.alloc (.cells NZ 57)
 have hq0:=blk_new w (.cells NZ 57)
 refine (token_any rb _ d s _ hR0 hk (by omega)).mono ?_
 rintro e w2 ⟨rfl,hb2⟩
 have hR2:=hR0.below hb2
 have hK2:=hK0.below hb2
 have hq2:=((Kp.refl (fun _=>False) _).below hb2).blk hq0 id
 go_wp2_with fail
 refine (F.name _ _ (by rw [HZ.out];omega)).mono ?_
 rintro e w3 ⟨rfl,hb3⟩
 rw [HN.out]
 have hR3:=hR2.below hb3
 have hK3:=hK2.below hb3
 have hq3:=((Kp.refl (fun _=>False) _).below hb3).blk hq2 id
 go_wp2_with fail
 refine (behind_any rb _ d 40 s _ hR3 hk (by omega) (by omega)).mono ?_
 rintro e w4 ⟨rfl,hb4⟩
 rw [decide_eq_true HX.out]
 have hR4:=hR3.below hb4
 have hK4:=hK3.below hb4
 have hq4:=((Kp.refl (fun _=>False) _).below hb4).blk hq3 id
 have hE4:=F.keep hE hK4 (fun n e=>by omega)
 go_wp2_with fail
 refine (HOP.out _ hE4 hR4).mono ?_
 clear HOP HN HX HZ
 intro e w8 ho
 cases r with
 | err k' c =>
  obtain⟨rfl,hK8⟩:=ho
  go_wp2_with fail
  exact⟨rfl,rfl,hK4.trans hK8 (fun n e=>.inl e)⟩
 | ok t k' =>
  obtain⟨v,rfl,hN,hR8,hK8⟩:=ho
  have hq8:=hK8.blk hq4 (by have:=h.lt;omega)
  have hsz8:=hK4.size
  have hlq:=lt_blk hq4
  have hKw:=hK4.trans hK8 (fun n e=>.inl e)
  have hrl:=h.lt
  cases hN with
  | @mk k1 n1 s1 r1 t1 p1 m1 e1 us ts hk hl hs =>
  have hN:=Nd.mk (k:=k1) (n:=n1) (s:=s1) (r:=r1) (t:=t1) hk hl hs
  clear hk hl hs
  obtain⟨⟨b0,b1,b2,b3,b4,b5,b6,b7,b8,b9,b10,b11⟩,bf⟩:=cells12 hq8
  go_wp2_with fail
  refine fin12 hq8 (Q:=bodyPost _ _ _ _ _) ?_
  intro w9 hq9 hk9
  clear b0 b1 b2 b3 b4 b5 b6 b7 b8 b9 b10 b11 bf
  obtain⟨⟨b0,b1,b2,b3,b4,b5,b6,b7,b8,b9,b10,b11⟩,bf⟩:=cells12 hq9
  refine bodyPost_ret (v:=NV k1 n1 s1 r1 t1 (.slice p1 m1 e1)) (by simp [results,Tryz.results222,go_sem,b0,b1,b2,b3,b4,b5,b6,b7,b8,b9,b10,b11]) rfl ⟨_,rfl,?_,?_,?_⟩
  ·exact (hN.next hk9 (fun n e=>by left;omega)).mono (fun _ _=>rfl) (fun n hn=>⟨by have:=hn.1;omega,hn.2⟩)
  ·exact hR8.keep hk9 (by omega)
  ·exact hKw.trans hk9 (fun n e=>by right;omega)
end
end Go.Proofs.YtgifkepklnhddaaGreatDoor.fm
namespace Go.Proofs.YtgifkepklnhddaaGreatDoor.fm
open Go.RowKit
section
variable {L:Lex} {s:ByteArray} {E:World→Prop} (F:Leafs L s E) (hs:s.size≤200)
include F hs
set_option maxHeartbeats 4000000 in
theorem word_none (rb k d:Nat) (w:World) (hE:E w) (h:RD w rb s k d) (hrb:11≤rb) (hk:k≤s.size) (hn:isNm (tok s k)=false∨isNm (tok s k)=true∧nx s (tokEnd s k)≠40) (hm:L.mean (tok s k)=none) :
  Calls Tryz.prog 222 #[ptr rb] w (Out w rb s d (.err k 2)):=by
 have hz:=tok_size s k hk
 have hte:=(tok_spec s k).2.2.1 hk
 have hlo:=(tok_spec s k).1
 have HN:Hid (isNm (tok s k)=false∨isNm (tok s k)=true∧nx s (tokEnd s k)≠40):=hn
 have HM:Hid (L.mean (tok s k)=none):=hm
 have HZ:Hid ((tok s k).size=tokEnd s k - k):=hz
 have hzl:(tok s k).size≤200:=by omega
 clear hn hm hz
 go_enter Tryz.func222,Tryz.ntmps222
 go_wp2_with fail
 have hK0:=(Kp.refl (·=rb) w).alloc (.cells NZ 57)
 have hR0:=h.alloc (.cells NZ 57)
 have hq0:=blk_new w (.cells NZ 57)
 have hrl:=h.lt
 refine (token_any rb _ d s _ hR0 hk (by omega)).mono ?_
 rintro e w2 ⟨rfl,hb2⟩
 have hR2:=hR0.below hb2
 have hK2:=hK0.below hb2
 have hq2:=((Kp.refl (fun _=>False) _).below hb2).blk hq0 id
 go_wp2_with fail
 refine (F.name _ _ (by rw [HZ.out];omega)).mono ?_
 rintro e w3 ⟨rfl,hb3⟩
 have hR3:=hR2.below hb3
 have hK3:=hK2.below hb3
 have hq3:=((Kp.refl (fun _=>False) _).below hb3).blk hq2 id
 have hE3:=F.keep hE hK3 (fun n e=>by omega)
 rcases HN.out with hn | ⟨hn,hx⟩
 ·rw [hn]
  clear hn
  go_wp2_with fail
  refine (F.meanNo _ _ hE3 (by rw [HZ.out];omega) HM.out).mono ?_
  rintro e w5 ⟨rfl,hb5⟩
  have hR5:=(hR3.below hb5).alloc (.cells NZ 57)
  have hK5:=(hK3.below hb5).alloc (.cells NZ 57)
  go_wp2_with fail
  refine (fault_any rb _ d 2 s _ hR5).mono ?_
  rintro e w6 ⟨rfl,hb6⟩
  go_wp2_with fail
  exact⟨rfl,rfl,hK5.below hb6⟩
 ·rw [hn]
  have HX:Hid (¬ nx s (tokEnd s k)=40):=hx
  clear hn hx
  go_wp2_with fail
  refine (behind_any rb _ d 40 s _ hR3 hk (by omega) (by omega)).mono ?_
  rintro e w4 ⟨rfl,hb4⟩
  rw [decide_eq_false HX.out]
  have hR4:=hR3.below hb4
  have hK4:=hK3.below hb4
  have hq4:=((Kp.refl (fun _=>False) _).below hb4).blk hq3 id
  have hE4:=F.keep hE hK4 (fun n e=>by omega)
  go_wp2_with fail
  refine (F.meanNo _ _ hE4 (by rw [HZ.out];omega) HM.out).mono ?_
  rintro e w5 ⟨rfl,hb5⟩
  have hR5:=(hR4.below hb5).alloc (.cells NZ 57)
  have hK5:=(hK4.below hb5).alloc (.cells NZ 57)
  go_wp2_with fail
  refine (fault_any rb _ d 2 s _ hR5).mono ?_
  rintro e w6 ⟨rfl,hb6⟩
  go_wp2_with fail
  exact⟨rfl,rfl,hK5.below hb6⟩
set_option maxHeartbeats 4000000 in
theorem word_some (rb k d:Nat) (w:World) (hE:E w) (h:RD w rb s k d) (hrb:11≤rb) (hk:k≤s.size) (hn:isNm (tok s k)=false∨isNm (tok s k)=true∧nx s (tokEnd s k)≠40) (u:T) (hm:L.mean (tok s k)=some u) :
  Calls Tryz.prog 222 #[ptr rb] w (Out w rb s d (.ok u (tokEnd s k))):=by
 have hz:=tok_size s k hk
 have hte:=(tok_spec s k).2.2.1 hk
 have hlo:=(tok_spec s k).1
 have HN:Hid (isNm (tok s k)=false∨isNm (tok s k)=true∧nx s (tokEnd s k)≠40):=hn
 have HM:Hid (L.mean (tok s k)=some u):=hm
 have HZ:Hid ((tok s k).size=tokEnd s k - k):=hz
 have hzl:(tok s k).size≤200:=by omega
 clear hn hm hz
 go_enter Tryz.func222,Tryz.ntmps222
 go_wp2_with fail
 have hK0:=(Kp.refl (·=rb) w).alloc (.cells NZ 57)
 have hR0:=h.alloc (.cells NZ 57)
 have hq0:=blk_new w (.cells NZ 57)
 have hrl:=h.lt
 refine (token_any rb _ d s _ hR0 hk (by omega)).mono ?_
 rintro e w2 ⟨rfl,hb2⟩
 have hR2:=hR0.below hb2
 have hK2:=hK0.below hb2
 have hq2:=((Kp.refl (fun _=>False) _).below hb2).blk hq0 id
 go_wp2_with fail
 refine (F.name _ _ (by rw [HZ.out];omega)).mono ?_
 rintro e w3 ⟨rfl,hb3⟩
 have hR3:=hR2.below hb3
 have hK3:=hK2.below hb3
 have hq3:=((Kp.refl (fun _=>False) _).below hb3).blk hq2 id
 have hE3:=F.keep hE hK3 (fun n e=>by omega)
 rcases HN.out with hn | ⟨hn,hx⟩
 ·rw [hn]
  clear hn
  go_wp2_with fail
  refine (F.meanYes _ _ u hE3 (by rw [HZ.out];omega) HM.out).mono ?_
  rintro e w5 ⟨⟨k1,n1,s1,r1,t1,rfl,rfl⟩,hb5⟩
  have hR5:=(hR3.below hb5).alloc (.cells (N12 k1 n1 s1 r1 t1 (.slice none 0 0)) 57)
  have hK5:=(hK3.below hb5).alloc (.cells (N12 k1 n1 s1 r1 t1 (.slice none 0 0)) 57)
  have hq5:=(((Kp.refl (fun _=>False) _).below hb5).alloc (.cells (N12 k1 n1 s1 r1 t1 (.slice none 0 0)) 57)).blk hq3 id
  have hm5:=blk_new w5 (.cells (N12 k1 n1 s1 r1 t1 (.slice none 0 0)) 57)
  have hne1:w5.heap.size≠rb:=by have:=(hR3.below hb5).lt;omega
  obtain⟨⟨c0,c1,c2⟩,f0,f1,f2⟩:=hR5.cells
  obtain⟨⟨a0,a1,a2,a3,a4,a5,a6,a7,a8,a9,a10,a11⟩,af⟩:=cells12 hm5
  obtain⟨⟨b0,b1,b2,b3,b4,b5,b6,b7,b8,b9,b10,b11⟩,bf⟩:=cells12 hq5
  have hne3:w.heap.size≠rb:=by omega
  go_wp2_with fail
  rw [show ((k:Nat):Int)+((tok s k).size:Int)=((tokEnd s k:Nat):Int) from by rw [HZ.out];omega]
  clear c0 c1 c2 f0 f1 f2 a0 a1 a2 a3 a4 a5 a6 a7 a8 a9 a10 a11 af b0 b1 b2 b3 b4 b5 b6 b7 b8 b9 b10 b11 bf
  have hR8:=hR5.setAt (tokEnd s k)
  have hK8:=hK5.setCell (p:=⟨rb,1,none⟩) (Or.inl rfl) (.int .i64 ((tokEnd s k:Nat):Int))
  have hq8:=(kpset (w5.alloc (.cells (N12 k1 n1 s1 r1 t1 (.slice none 0 0)) 57)) rb 1 (.int .i64 ((tokEnd s k:Nat):Int))).blk hq5 hne3
  generalize (w5.alloc (.cells (N12 k1 n1 s1 r1 t1 (.slice none 0 0)) 57)).setCell ⟨rb,1,none⟩ (.int .i64 ((tokEnd s k:Nat):Int))=w8 at *
  refine fin12 hq8 (Q:=bodyPost _ _ _ _ _) ?_
  intro w9 hq9 hk9
  obtain⟨⟨b0,b1,b2,b3,b4,b5,b6,b7,b8,b9,b10,b11⟩,bf⟩:=cells12 hq9
  refine bodyPost_ret (v:=NV k1 n1 s1 r1 t1 (.slice none 0 0)) (by simp [results,Tryz.results222,go_sem,b0,b1,b2,b3,b4,b5,b6,b7,b8,b9,b10,b11]) rfl ⟨_,rfl,Nd.leaf,?_,?_⟩
  ·exact hR8.keep hk9 (by omega)
  ·exact hK8.trans hk9 (fun n e=>by right;omega)
 ·rw [hn]
  have HX:Hid (¬ nx s (tokEnd s k)=40):=hx
  clear hn hx
  go_wp2_with fail
  refine (behind_any rb _ d 40 s _ hR3 hk (by omega) (by omega)).mono ?_
  rintro e w4 ⟨rfl,hb4⟩
  rw [decide_eq_false HX.out]
  have hR4:=hR3.below hb4
  have hK4:=hK3.below hb4
  have hq4:=((Kp.refl (fun _=>False) _).below hb4).blk hq3 id
  have hE4:=F.keep hE hK4 (fun n e=>by omega)
  go_wp2_with fail
  refine (F.meanYes _ _ u hE4 (by rw [HZ.out];omega) HM.out).mono ?_
  rintro e w5 ⟨⟨k1,n1,s1,r1,t1,rfl,rfl⟩,hb5⟩
  have hR5:=(hR4.below hb5).alloc (.cells (N12 k1 n1 s1 r1 t1 (.slice none 0 0)) 57)
  have hK5:=(hK4.below hb5).alloc (.cells (N12 k1 n1 s1 r1 t1 (.slice none 0 0)) 57)
  have hq5:=(((Kp.refl (fun _=>False) _).below hb5).alloc (.cells (N12 k1 n1 s1 r1 t1 (.slice none 0 0)) 57)).blk hq4 id
  have hm5:=blk_new w5 (.cells (N12 k1 n1 s1 r1 t1 (.slice none 0 0)) 57)
  have hne1:w5.heap.size≠rb:=by have:=(hR4.below hb5).lt;omega
  obtain⟨⟨c0,c1,c2⟩,f0,f1,f2⟩:=hR5.cells
  obtain⟨⟨a0,a1,a2,a3,a4,a5,a6,a7,a8,a9,a10,a11⟩,af⟩:=cells12 hm5
  obtain⟨⟨b0,b1,b2,b3,b4,b5,b6,b7,b8,b9,b10,b11⟩,bf⟩:=cells12 hq5
  have hne3:w.heap.size≠rb:=by omega
  go_wp2_with fail
  rw [show ((k:Nat):Int)+((tok s k).size:Int)=((tokEnd s k:Nat):Int) from by rw [HZ.out];omega]
  clear c0 c1 c2 f0 f1 f2 a0 a1 a2 a3 a4 a5 a6 a7 a8 a9 a10 a11 af b0 b1 b2 b3 b4 b5 b6 b7 b8 b9 b10 b11 bf
  have hR8:=hR5.setAt (tokEnd s k)
  have hK8:=hK5.setCell (p:=⟨rb,1,none⟩) (Or.inl rfl) (.int .i64 ((tokEnd s k:Nat):Int))
  have hq8:=(kpset (w5.alloc (.cells (N12 k1 n1 s1 r1 t1 (.slice none 0 0)) 57)) rb 1 (.int .i64 ((tokEnd s k:Nat):Int))).blk hq5 hne3
  generalize (w5.alloc (.cells (N12 k1 n1 s1 r1 t1 (.slice none 0 0)) 57)).setCell ⟨rb,1,none⟩ (.int .i64 ((tokEnd s k:Nat):Int))=w8 at *
  refine fin12 hq8 (Q:=bodyPost _ _ _ _ _) ?_
  intro w9 hq9 hk9
  obtain⟨⟨b0,b1,b2,b3,b4,b5,b6,b7,b8,b9,b10,b11⟩,bf⟩:=cells12 hq9
  refine bodyPost_ret (v:=NV k1 n1 s1 r1 t1 (.slice none 0 0)) (by simp [results,Tryz.results222,go_sem,b0,b1,b2,b3,b4,b5,b6,b7,b8,b9,b10,b11]) rfl ⟨_,rfl,Nd.leaf,?_,?_⟩
  ·exact hR8.keep hk9 (by omega)
  ·exact hK8.trans hk9 (fun n e=>by right;omega)
end
end Go.Proofs.YtgifkepklnhddaaGreatDoor.fm
namespace Go.Proofs.YtgifkepklnhddaaGreatDoor.fm
open Go.RowKit
structure Row (w:World) (g n cap:Nat) (xs:List Value):Prop where
 len:xs.length=n*12
 le:n≤cap
 max:cap≤maxLen
 blk:∃ cur,w.heap[g]?=some (.cells cur 57 (0,0))∧cur.size=cap*12∧cur.toList.take (n*12)=xs
theorem Row.keep {X:Nat→Prop} {w w':World} {g n cap:Nat} {xs:List Value} (h:Row w g n cap xs) (hk:Kp X w w') (hx:¬ X g):Row w' g n cap xs:=by
 obtain⟨cur,h1,h2⟩:=h.blk
 exact⟨h.len,h.le,h.max,cur,hk.blk h1 hx,h2⟩
theorem Row.lt {w:World} {g n cap:Nat} {xs:List Value} (h:Row w g n cap xs):g<w.heap.size:=by
 obtain⟨cur,h1,_⟩:=h.blk
 exact lt_blk h1
theorem Row.kids {w:World} {P:Nat→Prop} {g n cap:Nat} {us:List Value} (h:Row w g n cap (cellsL us)) (hn:n=us.length) (hg:P g):Kids w P (some ⟨g,0,none⟩) n cap us:=by
 obtain⟨cur,h1,h2,h3⟩:=h.blk
 refine Kids.made h1 hn (fun i x hx=>?_) hg h.le
 rw [← h3,List.getElem?_take] at hx
 split at hx
 ·simpa using hx
 ·cases hx
theorem add_off (g j:Nat):(⟨g,0,none⟩:Addr).add j=⟨g,j,none⟩:=by unfold Addr.add;split<;>simp_all
theorem wpList_append_eq {P:Program} {w:World} {ops:Array Oper} {rest:List Oper} {o:Oper} {a:Act} {Q:Exit→Act→World→Prop} (hgd:o.guard=none) (s x:Go.Operand) (t:TypeId)
  (ho:o.op=.call { callee:=.builtin .append,args:=#[s,x],argTypes:=#[t,t] }) (v y v':Value) (w':World) (hs:a.eval s=v) (hx:a.eval x=y)
  (hr:(Builtin.append_ #[t,t] o.type #[v,y]).run P w=.ok v' w') (h:wpList P ops Q rest (a.put o.dst v') w'):wpList P ops Q (o::rest) a w :=
 wpList_plain hgd fun _ hK=>by
  unfold Oper.wp execOp
  simp only [ho,resolve,invoke,builtin,Sem.run_bind,Sem.run_pure,Result.andThen_ok,List.map_toArray,List.map_cons,List.map_nil,hs,hx,hr]
  exact hK _ _ h
theorem app1 (w:World) (ty:TypeId) (i0:TypeInfo) (z:Value) (hi:Tryz.prog.info? 57=some i0) (hz0:i0.zero=some z) (hz1:i0.size=12) (hz2:i0.bytes=104) (hz3:z.cells.size=12) {g n cap h:Nat} {xs:List Value} (hrow:Row w g n cap xs) {cs:Array Value} (hb:w.heap[h]?=some (.cells cs 57 (0,0))) (hcs:cs.size=12) (h1:∀ u∈cs.toList,u.oneCell'=true) (hn:n≤1000) :
  ∃ g' cap' w',(Builtin.append_ #[55,55] ty #[.slice (some ⟨g,0,none⟩) n cap,.slice (some ⟨h,0,none⟩) 1 1]).run Tryz.prog w=.ok (.slice (some ⟨g',0,none⟩) (n+1) cap') w' ∧
   Row w' g' (n+1) cap' (xs++cs.toList)∧(g'=g∨g'=w.heap.size)∧Kp (·=g) w w':=by
 obtain⟨cur,hg,hsz,htk⟩:=hrow.blk
 have hnews:∀ (j:Nat) u,cs.toList[j]?=some u→w.cell? ((⟨h,0,none⟩:Addr).add j)=some u:=fun j u hu=>by
  rw [add_off,cell_blk hb];simpa using hu
 have hl:cs.toList.length=1*i0.size:=by rw [hz1];simp [hcs]
 have hlen:(xs++cs.toList).length=(n+1)*12:=by rw [List.length_append,hrow.len];simp [hcs];omega
 have hmax:1001≤maxLen:=by unfold maxLen;omega
 by_cases hroom:n+1≤cap
 ·have hr:=run_append_room (P:=Tryz.prog) w 55 ty 57 i0 Tryz.underlying55 hi g n cap cur hg ⟨h,0,none⟩ 1 1 cs.toList hl hnews h1 hroom (by rw [hz1];simp [hcs];omega)
  refine⟨g,cap,_,hr,⟨hlen,hroom,hrow.max,_,setRow_heap w g cur _ 57 _ hg,?_,?_⟩,.inl rfl,⟨rfl,rfl,rfl,by simp,fun k _ hk=>setRow_other w g k _ hk⟩⟩
  ·rw [hz1];simp [hcs];omega
  ·rw [hz1,htk,← hlen];exact List.take_left
 ·have holds:∀ (j:Nat) u,xs[j]?=some u→w.cell? ((⟨g,0,none⟩:Addr).add j)=some u:=fun j u hu=>by
   rw [add_off,cell_blk hg]
   rw [← htk,List.getElem?_take] at hu
   split at hu
   ·simpa using hu
   ·cases hu
  have hr:=run_append_grow (P:=Tryz.prog) w 55 ty 57 i0 z Tryz.underlying55 hi hz0 ⟨g,0,none⟩ n cap xs (by rw [hz1];exact hrow.len) holds ⟨h,0,none⟩ 1 1 cs.toList hl hnews (by omega) (by omega) (growslice_fits (by omega) (by rw [hz2];omega))
  refine⟨w.heap.size,_,_,hr,⟨hlen,grownCap_ge w (n+1) cap 57,grownCap_le_maxLen w (n+1) cap 57 (by omega),_,heap_alloc_new w.drew _,?_,?_⟩,.inr rfl,(Kp.refl _ _).drew.alloc _⟩
  ·have:=grownCap_ge w (n+1) cap 57
   have hx:=hrow.len
   simp only [Array.size_append,List.size_toArray,size_zeroCells,hz3,hx,hcs]
   omega
  ·rw [Array.toList_append,Array.toList_append,← hlen];exact List.take_left
end Go.Proofs.YtgifkepklnhddaaGreatDoor.fm
namespace Go.Proofs.YtgifkepklnhddaaGreatDoor.fm
open Go.RowKit
theorem info28a:(Tryz.prog.info? 57).map (fun i=>(i.zero,i.size,i.bytes))=some (some (.agg NZ),12,104):=by kernel_rfl
theorem info28:∃ i,Tryz.prog.info? 57=some i∧i.zero=some (.agg NZ)∧i.size=12∧i.bytes=104:=by
 have h:=info28a
 rw [Option.map_eq_some_iff] at h
 obtain⟨i,h1,h2⟩:=h
 simp only [Prod.mk.injEq] at h2
 exact⟨i,h1,h2.1,h2.2.1,h2.2.2⟩
theorem one12 (k n:Int) (s:ByteArray) (r t:Rf) (p:Option Addr) (m c:Nat):∀ u∈(N12 k n s r t (.slice p m c)).toList,u.oneCell'=true:=by
 intro u hu
 simp at hu
 rcases hu with rfl | rfl | rfl | rfl | rfl | rfl | rfl | rfl | rfl | rfl | rfl | rfl<;>rfl
structure GL (w:World) (wr:World) (g cap:Nat) (us:List Value) (ts:List T):Prop where
 row:Row wr g us.length cap (cellsL us)
 lo:w.heap.size≤g
 l:us.length=ts.length
 s:∀ (i:Nat) u t',us[i]?=some u→ts[i]?=some t'→Nd wr (fun b=>Own w wr b∧b≠g) u t'
theorem GL.next {X:Nat→Prop} {w a b:World} {g cap:Nat} {us:List Value} {ts:List T} (h:GL w a g cap us ts) (hk:Kp X a b) (hx:∀ n,X n→n<w.heap.size∨a.heap.size≤n):GL w b g cap us ts:=by
 have hg:=h.lo
 have hl:=h.row.lt
 refine⟨h.row.keep hk (fun x=>by rcases hx g x with h1 | h1<;>omega),h.lo,h.l,fun i u t' h1 h2=>(h.s i u t' h1 h2).mono (fun n hn=>hk.block n hn.1.2 (fun x=>by rcases hx n x with h1 | h1<;>have:=hn.1.1<;>have:=hn.1.2<;>omega)) (fun n hn=>⟨⟨hn.1.1,Nat.lt_of_lt_of_le hn.1.2 hk.size⟩,hn.2⟩)⟩
theorem GL.nl {w wr:World} {g cap:Nat} {us:List Value} {ts:List T} (h:GL w wr g cap us ts):NL wr (Own w wr) (some ⟨g,0,none⟩) us.length cap us ts :=
 ⟨h.row.kids rfl ⟨h.lo,h.row.lt⟩,h.l,fun i u t' h1 h2=>(h.s i u t' h1 h2).mono (fun _ _=>rfl) (fun _ hn=>hn.1)⟩
theorem cellsL_snoc (us:List Value) (cs:Array Value):cellsL (us++[.agg cs])=cellsL us++cs.toList:=by simp [cellsL,Value.cells]
theorem get_snoc {α:Type} {l:List α} {a b:α} {i:Nat} (h:(l++[a])[i]?=some b):l[i]?=some b∨(i=l.length∧b=a):=by
 rcases Nat.lt_trichotomy i l.length with h1 | h1 | h1
 ·rw [List.getElem?_append_left h1] at h;exact .inl h
 ·rw [List.getElem?_append_right (by omega),h1] at h;simp at h;exact .inr ⟨h1,h.symm⟩
 ·rw [List.getElem?_append_right (by omega)] at h;rw [List.getElem?_eq_none (by simp;omega)] at h;cases h
theorem GL.more {w wa wb wc:World} {g cap g' cap':Nat} {us:List Value} {ts:List T} {k1 n1:Int} {s1:ByteArray} {r1 t1:Rf} {p1:Option Addr} {m1 e1:Nat} {t:T} (h:GL w wb g cap us ts) (hN:Nd wb (Own wa wb) (NV k1 n1 s1 r1 t1 (.slice p1 m1 e1)) t) (hga:g<wa.heap.size) (hrow:Row wc g' (us.length+1) cap' (cellsL us++(N12 k1 n1 s1 r1 t1 (.slice p1 m1 e1)).toList)) (hg':g'=g∨wb.heap.size≤g') (hk:Kp (·=g) wb wc) :
  GL w wc g' cap' (us++[NV k1 n1 s1 r1 t1 (.slice p1 m1 e1)]) (ts++[t]):=by
 have hg:=h.lo
 have hl:=h.row.lt
 have hle:w.heap.size≤wb.heap.size:=by omega
 refine⟨?_,by rcases hg' with e | e<;>omega,by simp [h.l],?_⟩
 ·rw [cellsL_snoc];simpa using hrow
 ·intro i u t' h1 h2
  rcases get_snoc h1 with h1 | ⟨e1,rfl⟩
  ·rcases get_snoc h2 with h2 | ⟨e2,rfl⟩
   ·refine (h.s i u t' h1 h2).mono (fun n hn=>hk.block n hn.1.2 hn.2) (fun n hn=>⟨⟨hn.1.1,Nat.lt_of_lt_of_le hn.1.2 hk.size⟩,?_⟩)
    rcases hg' with e | e
    ·rw [e];exact hn.2
    ·have:=hn.1.2;omega
   ·have:=(List.getElem?_eq_some_iff.1 h1).1
    have:=h.l
    omega
  ·rcases get_snoc h2 with h2 | ⟨e2,rfl⟩
   ·have:=(List.getElem?_eq_some_iff.1 h2).1
    have:=h.l
    omega
   ·refine hN.mono (fun n hn=>hk.block n hn.2 (by have:=hn.1;omega)) (fun n hn=>⟨⟨by have:=hn.1;omega,Nat.lt_of_lt_of_le hn.2 hk.size⟩,?_⟩)
    have h3:=hn.1
    have h4:=hn.2
    rcases hg' with e | e<;>omega
end Go.Proofs.YtgifkepklnhddaaGreatDoor.fm
namespace Go.Proofs.YtgifkepklnhddaaGreatDoor.fm
open Go.RowKit
def atOf (w:World) (rb:Nat):Nat:=(((w.cell? ⟨rb,1,none⟩).map intOf).getD 0).toNat
theorem atOf_rd {w:World} {rb:Nat} {s:ByteArray} {k d:Nat} (h:RD w rb s k d):atOf w rb=k:=by
 unfold atOf
 rw [h.cells.1.2.1]
 simp [intOf]
section
variable {L:Lex} {s:ByteArray} {E:World→Prop} (F:Leafs L s E) (hs:s.size≤200)
include F hs
set_option maxHeartbeats 4000000 in
theorem arguments_walk (rb k d:Nat) (w:World) (hE:E w) (h:RD w rb s k d) (hrb:11≤rb) (hk:k≤s.size)
  (harg:∀ j w1,k≤j→j≤s.size→E w1→RD w1 rb s j d→Calls Tryz.prog 263 #[ptr rb] w1 (Out w1 rb s d (Arg L s d j))) :
  Calls Tryz.prog 251 #[ptr rb] w (OutA w rb s d (Args L s d k)):=by
 have hk1:=(skip_spec s k).2.2 hk
 have hk0:=(skip_spec s k).1
 have hrl:=h.lt
 rw [Args_eq L s d k hk]
 by_cases hx:nx s (skip s k)=41
 ·rw [if_pos hx]
  have HX:Hid (nx s (skip s k)=41):=hx
  clear hx
  go_enter Tryz.func251,Tryz.ntmps251
  go_wp2_with fail
  refine (take_yes rb k d 41 s _ h hk (by omega) (by omega) HX.out).mono ?_
  rintro e w1 ⟨rfl,hR1,hK1⟩
  go_wp2_with fail
  go_ret
  exact⟨none,0,0,[],rfl,⟨⟨rfl,.inl ⟨rfl,rfl,rfl⟩⟩,rfl,fun i u t' h1 h2=>by simp at h2⟩,hR1,hK1⟩
 ·rw [if_neg hx]
  have HX:Hid (¬ nx s (skip s k)=41):=hx
  have HARG:Hid (∀ j w1,k≤j→j≤s.size→E w1→RD w1 rb s j d→Calls Tryz.prog 263 #[ptr rb] w1 (Out w1 rb s d (Arg L s d j))):=harg
  clear hx harg
  obtain⟨RR,hRR⟩:∃ RR,(Arg L s d (skip s k)).bind (fun t k'=>More L s d [t] k')=RR:=⟨_,rfl⟩
  rw [hRR]
  have HRR:Hid ((Arg L s d (skip s k)).bind (fun t k'=>More L s d [t] k')=RR):=hRR
  clear hRR
  go_enter Tryz.func251,Tryz.ntmps251
  go_wp2_with fail
  refine (take_no rb k d 41 s _ h hk (by omega) HX.out).mono ?_
  rintro e w1 ⟨rfl,hR1,hK1⟩
  have hE1:=F.keep hE hK1 (fun n e=>by omega)
  go_wp2_with fail
  refine (HARG.out _ _ hk0 hk1 hE1 hR1).mono ?_
  intro e w2 ho
  cases ha:Arg L s d (skip s k) with
  | err k' c =>
   rw [ha] at ho
   obtain⟨rfl,hK2⟩:=ho
   have H1:Hid (RR=.err k' c):=by
    have h1:=HRR.out
    rw [ha] at h1
    exact h1.symm
   clear ha HRR
   go_wp2_with fail
   refine⟨rfl,?_⟩
   rw [H1.out]
   exact⟨rfl,hK1.trans hK2 (fun n e=>.inl e)⟩
  | ok t k1 =>
   have hpg:=Arg_prog L s hk1 ha
   rw [ha] at ho
   have HMO':Hid (More L s d [t] k1=RR):=by
    have h1:=HRR.out
    rw [ha] at h1
    exact h1
   clear ha HRR
   obtain⟨v,rfl,hN,hR2,hK2⟩:=ho
   have hKw:=hK1.trans hK2 (fun n e=>.inl e)
   have hsz1:=hK1.size
   have hsz2:=hK2.size
   cases hN with
   | @mk a1 n1 s1 r1 t1 p1 m1 e1 us0 ts0 hk' hl' hs' =>
   have hN:=Nd.mk (k:=a1) (n:=n1) (s:=s1) (r:=r1) (t:=t1) hk' hl' hs'
   clear hk' hl' hs'
   have hKa:=hKw.alloc (.cells (N12 a1 n1 s1 r1 t1 (.slice p1 m1 e1)) 57)
   have hRa:=hR2.alloc (.cells (N12 a1 n1 s1 r1 t1 (.slice p1 m1 e1)) 57)
   have hblk:=blk_new w2 (.cells (N12 a1 n1 s1 r1 t1 (.slice p1 m1 e1)) 57)
   have hG:GL w (w2.alloc (.cells (N12 a1 n1 s1 r1 t1 (.slice p1 m1 e1)) 57)) w2.heap.size 1 [NV a1 n1 s1 r1 t1 (.slice p1 m1 e1)] [.nd a1 n1 s1 r1 t1 ts0]:=by
    refine⟨⟨by simp [cellsL,Value.cells],Nat.le_refl _,by unfold maxLen;omega,_,hblk,rfl,rfl⟩,by omega,rfl,fun i u t' h1 h2=>?_⟩
    cases i with
    | zero =>
     simp at h1 h2
     subst h1
     subst h2
     exact hN.mono (fun n hn=>Below.heap_alloc _ _ _ hn.2) (fun n hn=>⟨⟨by have:=hn.1;omega,by simp;have:=hn.2;omega⟩,by have:=hn.2;omega⟩)
    | succ i=>simp at h1
   have HMO:Hid (More L s d [.nd a1 n1 s1 r1 t1 ts0] k1=RR):=HMO'
   clear HMO'
   go_wp2_with fail
   go_loopw [3] (fun v wr=>∃ g cap us ts j,v=.slice (some ⟨g,0,none⟩) us.length cap∧GL w wr g cap us ts∧us.length≤j∧k≤j∧j≤s.size∧More L s d ts j=RR∧RD wr rb s j d∧Kp (·=rb) w wr) (fun _ wr=>s.size - atOf wr rb)
   case atStart=>exact⟨_,_,_,_,k1,rfl,hG,by simp;omega,by omega,hpg.2,HMO.out,hRa,hKa⟩
   case round =>
    clear hG hKa hRa hblk hN hR2 hKw HMO
    obtain⟨g,cap,us,ts,j,rfl,hG,hlen,hkj,hj,hmo,hR,hK⟩:=hrel
    have hj1:=(skip_spec s j).2.2 hj
    have hj0:=(skip_spec s j).1
    have hme:=More_eq L s d ts j hj
    rw [hmo] at hme
    have HME:Hid _:=hme
    have HA:=atOf_rd hR
    have HAT:Hid (atOf wr rb=j):=HA
    clear hme hmo HA
    by_cases c44:nx s (skip s j)=44
    ·have hlt:=nx_lt (s:=s) (k:=skip s j) (by omega)
     have HC:Hid (nx s (skip s j)=44):=c44
     clear c44
     go_wp2_with fail
     refine (take_yes rb j d 44 s _ hR hj (by omega) (by omega) HC.out).mono ?_
     rintro e w3 ⟨rfl,hR3,hK3⟩
     have hG3:=hG.next hK3 (fun n e=>by left;omega)
     have hKw3:=hK.trans hK3 (fun n e=>.inl e)
     have hE3:=F.keep hE hKw3 (fun n e=>by omega)
     go_wp2_with fail
     refine (HARG.out _ _ (by omega) hlt hE3 hR3).mono ?_
     intro e w4 ho
     cases ha:Arg L s d (skip s j+1) with
     | err k' c =>
      rw [ha] at ho
      obtain⟨rfl,hK4⟩:=ho
      have HRR:Hid (RR=.err k' c):=by
       have h1:=HME.out
       rw [if_pos HC.out,ha] at h1
       exact h1
      clear ha HME
      go_wp2_with fail
      refine⟨rfl,?_⟩
      rw [HRR.out]
      exact⟨rfl,hKw3.trans hK4 (fun n e=>.inl e)⟩
     | ok u k2 =>
      have hpg2:=Arg_prog L s hlt ha
      rw [ha] at ho
      have HM2:Hid (RR=More L s d (ts++[u]) k2):=by
       have h1:=HME.out
       rw [if_pos HC.out,ha] at h1
       exact h1
      clear ha HME
      obtain⟨v,rfl,hN4,hR4,hK4⟩:=ho
      have hG4:=hG3.next hK4 (fun n e=>by left;omega)
      have hgl:=hG3.row.lt
      cases hN4 with
      | @mk a2 n2 s2 r2 t2 p2 m2 e2 us2 ts2 hk' hl' hs' =>
      have hN4:=Nd.mk (k:=a2) (n:=n2) (s:=s2) (r:=r2) (t:=t2) hk' hl' hs'
      clear hk' hl' hs'
      have hKa:Kp (fun _=>False) w4 (w4.alloc (.cells (N12 a2 n2 s2 r2 t2 (.slice p2 m2 e2)) 57)):=(Kp.refl _ _).alloc _
      have hb5:=blk_new w4 (.cells (N12 a2 n2 s2 r2 t2 (.slice p2 m2 e2)) 57)
      have hG5:=hG4.next hKa (fun n e=>e.elim)
      have hR5:=hR4.alloc (.cells (N12 a2 n2 s2 r2 t2 (.slice p2 m2 e2)) 57)
      obtain⟨i0,hi,hz0,hz1,hz2⟩:=info28
      obtain⟨g',cap',w5,hr,hrow,hg',hk5⟩:=app1 (w4.alloc (.cells (N12 a2 n2 s2 r2 t2 (.slice p2 m2 e2)) 57)) 55 i0 _ hi hz0 hz1 hz2 rfl hG5.row hb5 rfl (one12 a2 n2 s2 r2 t2 p2 m2 e2) (by omega)
      have HR:Hid ((Builtin.append_ #[55,55] 55 #[.slice (some ⟨g,0,none⟩) us.length cap,.slice (some ⟨w4.heap.size,0,none⟩) 1 1]).run Tryz.prog (w4.alloc (.cells (N12 a2 n2 s2 r2 t2 (.slice p2 m2 e2)) 57))=.ok (.slice (some ⟨g',0,none⟩) (us.length+1) cap') w5):=hr
      clear hr hi hz0 hz1 hz2
      go_wp2_with (first | (at_builtin;refine wpList_append_eq rfl _ _ 55 rfl _ _ _ _ rfl rfl HR.out ?_))
      have hR6:=hR5.keep hk5 (by have:=hG.lo;omega)
      have hK6:Kp (·=rb) w w5:=((hKw3.trans hK4 (fun n e=>.inl e)).alloc _).trans hk5 (fun n e=>by right;have:=hG.lo;omega)
      refine⟨⟨g',cap',us++[NV a2 n2 s2 r2 t2 (.slice p2 m2 e2)],ts++[.nd a2 n2 s2 r2 t2 ts2],k2,by simp,?_,by simp;omega,by omega,hpg2.2,HM2.out.symm,hR6,hK6⟩,?_⟩
      ·exact GL.more hG5 (hN4.next hKa (fun n e=>e.elim)) hgl hrow (hg'.imp id (fun e=>by omega)) hk5
      ·rw [HAT.out,atOf_rd hR6];omega
    ·have HC:Hid (¬ nx s (skip s j)=44):=c44
     clear c44
     go_wp2_with fail
     refine (take_no rb j d 44 s _ hR hj (by omega) HC.out).mono ?_
     rintro e w3 ⟨rfl,hR3,hK3⟩
     have hG3:=hG.next hK3 (fun n e=>by left;omega)
     have hKw3:=hK.trans hK3 (fun n e=>.inl e)
     by_cases c41:nx s (skip s j)=41
     ·have HD:Hid (nx s (skip s j)=41):=c41
      clear c41
      have HRR:Hid (RR=.ok ts (skip s j+1)):=by
       have h1:=HME.out
       rw [if_neg HC.out,if_pos HD.out] at h1
       exact h1
      clear HME
      go_wp2_with fail
      refine (mustTake_yes rb _ d 41 s _ hR3 hj1 (by omega) (by omega) (by rw [skip_skip];exact HD.out)).mono ?_
      rintro e w4 ⟨rfl,hR4,hK4⟩
      have hG4:=hG3.next hK4 (fun n e=>by left;omega)
      rw [skip_skip] at hR4
      go_wp2_with fail
      go_ret
      rw [HRR.out]
      exact⟨_,_,_,us,rfl,hG4.nl,hR4,hKw3.trans hK4 (fun n e=>.inl e)⟩
     ·have HD:Hid (¬ nx s (skip s j)=41):=c41
      clear c41
      have HRR:Hid (RR=.err (skip s j) 2):=by
       have h1:=HME.out
       rw [if_neg HC.out,if_neg HD.out] at h1
       exact h1
      clear HME
      go_wp2_with fail
      refine (mustTake_no rb _ d 41 s _ hR3 hj1 (by omega) (by rw [skip_skip];exact HD.out)).mono ?_
      rintro e w4 ⟨rfl,hK4⟩
      go_wp2_with fail
      refine⟨rfl,?_⟩
      rw [HRR.out,skip_skip]
      exact⟨rfl,hKw3.trans hK4 (fun n e=>.inl e)⟩
end
end Go.Proofs.YtgifkepklnhddaaGreatDoor.fm
