import Derived.Test.YtgifkepklnhddaaGreatDoorQ7Fh
import Derived.ScopeJumps
import Derived.WalkMore
namespace Go.Proofs.YtgifkepklnhddaaGreatDoor.fm
open Go.RowKit
section
variable {L:Lex} {s:ByteArray} {E:World→Prop} (F:Leafs L s E) (hs:s.size≤200)
include F hs
set_option maxHeartbeats 4000000 in
theorem operand_80 (rb k d:Nat) (w:World) (hE:E w) (h:RD w rb s k d) (hrb:11≤rb) (hk:k≤s.size) (hx:nx s (skip s k)=45) (r:Rs T)
  (hop:∀ w1,E w1→RD w1 rb s (skip s k) d→Calls Tryz.prog 218 #[ptr rb] w1 (Out w1 rb s d r)) :
  Calls Tryz.prog 200 #[ptr rb] w (Out w rb s d r):=by
 have hk1:=(skip_spec s k).2.2 hk
 have h45:(((nx s (skip s k):Nat):Int) == 45)=true:=by rw [beq_iff_eq];omega
 have HOP:Hid (∀ w1,E w1→RD w1 rb s (skip s k) d→Calls Tryz.prog 218 #[ptr rb] w1 (Out w1 rb s d r)):=hop
 have hEa:=F.keep hE ((Kp.refl (·=rb) w).alloc (.cells NZ 57)) (fun n e=>by omega)
 clear hop hx
 go_enter Tryz.func200,Tryz.ntmps200
 go_wp2_with fail
 refine (blanks_any rb k d s _ (h.alloc _) hk (by omega)).mono ?_
 rintro e w1 ⟨rfl,hR1,hK1⟩
 have hq1:=hK1.blk (blk_new w (.cells NZ 57)) (by have:=h.lt;omega)
 have hKa:Kp (·=rb) w w1:=((Kp.refl (·=rb) w).alloc (.cells NZ 57)).trans hK1 (fun n e=>.inl e)
 go_wp2_with fail
 refine (next_any rb _ d s _ hR1 hk1).mono ?_
 rintro e w2 ⟨rfl,hb2⟩
 have hR2:=hR1.below hb2
 have hK2:=hKa.below hb2
 have hq2:=((Kp.refl (fun _=>False) _).below hb2).blk hq1 id
 have hE2:=F.keep hE hK2 (fun n e=>by omega)
 go_wp2_with fail
 refine (HOP.out _ hE2 hR2).mono ?_
 clear HOP
 intro e w8 ho
 cases r with
 | err k' c =>
  obtain⟨rfl,hK8⟩:=ho
  go_wp2_with fail
  exact⟨rfl,rfl,hK2.trans hK8 (fun n e=>.inl e)⟩
 | ok t k' =>
  obtain⟨v,rfl,hN,hR8,hK8⟩:=ho
  have hq8:=hK8.blk hq2 (by have:=h.lt;omega)
  have hsz8:=hK2.size
  have hlq:=lt_blk hq2
  have hKw:=hK2.trans hK8 (fun n e=>.inl e)
  have hrl:=h.lt
  cases hN with
  | @mk k1 n1 s1 r1 t1 p1 m1 e1 us ts hk hl hs =>
  have hN:=Nd.mk (k:=k1) (n:=n1) (s:=s1) (r:=r1) (t:=t1) hk hl hs
  clear hk hl hs
  obtain⟨⟨b0,b1,b2,b3,b4,b5,b6,b7,b8,b9,b10,b11⟩,bf⟩:=cells12 hq8
  go_wp2_with fail
  refine fin12 hq8 (Q:=bodyPost _ _ _ _ _) ?_
  intro w9 hq9 hk9
  clear b0 b1 b2 b3 b4 b5 b6 b7 b8 b9 b10 b11 bf
  obtain⟨⟨b0,b1,b2,b3,b4,b5,b6,b7,b8,b9,b10,b11⟩,bf⟩:=cells12 hq9
  refine bodyPost_ret (v:=NV k1 n1 s1 r1 t1 (.slice p1 m1 e1)) (by simp [results,Tryz.results200,go_sem,b0,b1,b2,b3,b4,b5,b6,b7,b8,b9,b10,b11]) rfl ⟨_,rfl,?_,?_,?_⟩
  ·exact (hN.next hk9 (fun n e=>by left;omega)).mono (fun _ _=>rfl) (fun n hn=>⟨by have:=hn.1;omega,hn.2⟩)
  ·exact hR8.keep hk9 (by omega)
  ·exact hKw.trans hk9 (fun n e=>by right;omega)
set_option maxHeartbeats 4000000 in
theorem operand_81 (rb k d:Nat) (w:World) (hE:E w) (h:RD w rb s k d) (hrb:11≤rb) (hk:k≤s.size) (hx:nx s (skip s k)=40) (r:Rs T)
  (hop:∀ w1,E w1→RD w1 rb s (skip s k) d→Calls Tryz.prog 219 #[ptr rb] w1 (Out w1 rb s d r)) :
  Calls Tryz.prog 200 #[ptr rb] w (Out w rb s d r):=by
 have hk1:=(skip_spec s k).2.2 hk
 have h45:(((nx s (skip s k):Nat):Int) == 45)=false:=by rw [beq_eq_false_iff_ne];omega
 have h40:(((nx s (skip s k):Nat):Int) == 40)=true:=by rw [beq_iff_eq];omega
 have HOP:Hid (∀ w1,E w1→RD w1 rb s (skip s k) d→Calls Tryz.prog 219 #[ptr rb] w1 (Out w1 rb s d r)):=hop
 have hEa:=F.keep hE ((Kp.refl (·=rb) w).alloc (.cells NZ 57)) (fun n e=>by omega)
 clear hop hx
 go_enter Tryz.func200,Tryz.ntmps200
 go_wp2_with fail
 refine (blanks_any rb k d s _ (h.alloc _) hk (by omega)).mono ?_
 rintro e w1 ⟨rfl,hR1,hK1⟩
 have hq1:=hK1.blk (blk_new w (.cells NZ 57)) (by have:=h.lt;omega)
 have hKa:Kp (·=rb) w w1:=((Kp.refl (·=rb) w).alloc (.cells NZ 57)).trans hK1 (fun n e=>.inl e)
 go_wp2_with fail
 refine (next_any rb _ d s _ hR1 hk1).mono ?_
 rintro e w2 ⟨rfl,hb2⟩
 have hR2:=hR1.below hb2
 have hK2:=hKa.below hb2
 have hq2:=((Kp.refl (fun _=>False) _).below hb2).blk hq1 id
 have hE2:=F.keep hE hK2 (fun n e=>by omega)
 go_wp2_with fail
 refine (HOP.out _ hE2 hR2).mono ?_
 clear HOP
 intro e w8 ho
 cases r with
 | err k' c =>
  obtain⟨rfl,hK8⟩:=ho
  go_wp2_with fail
  exact⟨rfl,rfl,hK2.trans hK8 (fun n e=>.inl e)⟩
 | ok t k' =>
  obtain⟨v,rfl,hN,hR8,hK8⟩:=ho
  have hq8:=hK8.blk hq2 (by have:=h.lt;omega)
  have hsz8:=hK2.size
  have hlq:=lt_blk hq2
  have hKw:=hK2.trans hK8 (fun n e=>.inl e)
  have hrl:=h.lt
  cases hN with
  | @mk k1 n1 s1 r1 t1 p1 m1 e1 us ts hk hl hs =>
  have hN:=Nd.mk (k:=k1) (n:=n1) (s:=s1) (r:=r1) (t:=t1) hk hl hs
  clear hk hl hs
  obtain⟨⟨b0,b1,b2,b3,b4,b5,b6,b7,b8,b9,b10,b11⟩,bf⟩:=cells12 hq8
  go_wp2_with fail
  refine fin12 hq8 (Q:=bodyPost _ _ _ _ _) ?_
  intro w9 hq9 hk9
  clear b0 b1 b2 b3 b4 b5 b6 b7 b8 b9 b10 b11 bf
  obtain⟨⟨b0,b1,b2,b3,b4,b5,b6,b7,b8,b9,b10,b11⟩,bf⟩:=cells12 hq9
  refine bodyPost_ret (v:=NV k1 n1 s1 r1 t1 (.slice p1 m1 e1)) (by simp [results,Tryz.results200,go_sem,b0,b1,b2,b3,b4,b5,b6,b7,b8,b9,b10,b11]) rfl ⟨_,rfl,?_,?_,?_⟩
  ·exact (hN.next hk9 (fun n e=>by left;omega)).mono (fun _ _=>rfl) (fun n hn=>⟨by have:=hn.1;omega,hn.2⟩)
  ·exact hR8.keep hk9 (by omega)
  ·exact hKw.trans hk9 (fun n e=>by right;omega)
set_option maxHeartbeats 4000000 in
theorem operand_82 (rb k d:Nat) (w:World) (hE:E w) (h:RD w rb s k d) (hrb:11≤rb) (hk:k≤s.size) (hx:nx s (skip s k)=34) (r:Rs T)
  (hop:∀ w1,E w1→RD w1 rb s (skip s k) d→Calls Tryz.prog 220 #[ptr rb] w1 (Out w1 rb s d r)) :
  Calls Tryz.prog 200 #[ptr rb] w (Out w rb s d r):=by
 have hk1:=(skip_spec s k).2.2 hk
 have h45:(((nx s (skip s k):Nat):Int) == 45)=false:=by rw [beq_eq_false_iff_ne];omega
 have h40:(((nx s (skip s k):Nat):Int) == 40)=false:=by rw [beq_eq_false_iff_ne];omega
 have h34:(((nx s (skip s k):Nat):Int) == 34)=true:=by rw [beq_iff_eq];omega
 have HOP:Hid (∀ w1,E w1→RD w1 rb s (skip s k) d→Calls Tryz.prog 220 #[ptr rb] w1 (Out w1 rb s d r)):=hop
 have hEa:=F.keep hE ((Kp.refl (·=rb) w).alloc (.cells NZ 57)) (fun n e=>by omega)
 clear hop hx
 go_enter Tryz.func200,Tryz.ntmps200
 go_wp2_with fail
 refine (blanks_any rb k d s _ (h.alloc _) hk (by omega)).mono ?_
 rintro e w1 ⟨rfl,hR1,hK1⟩
 have hq1:=hK1.blk (blk_new w (.cells NZ 57)) (by have:=h.lt;omega)
 have hKa:Kp (·=rb) w w1:=((Kp.refl (·=rb) w).alloc (.cells NZ 57)).trans hK1 (fun n e=>.inl e)
 go_wp2_with fail
 refine (next_any rb _ d s _ hR1 hk1).mono ?_
 rintro e w2 ⟨rfl,hb2⟩
 have hR2:=hR1.below hb2
 have hK2:=hKa.below hb2
 have hq2:=((Kp.refl (fun _=>False) _).below hb2).blk hq1 id
 have hE2:=F.keep hE hK2 (fun n e=>by omega)
 go_wp2_with fail
 refine (HOP.out _ hE2 hR2).mono ?_
 clear HOP
 intro e w8 ho
 cases r with
 | err k' c =>
  obtain⟨rfl,hK8⟩:=ho
  go_wp2_with fail
  exact⟨rfl,rfl,hK2.trans hK8 (fun n e=>.inl e)⟩
 | ok t k' =>
  obtain⟨v,rfl,hN,hR8,hK8⟩:=ho
  have hq8:=hK8.blk hq2 (by have:=h.lt;omega)
  have hsz8:=hK2.size
  have hlq:=lt_blk hq2
  have hKw:=hK2.trans hK8 (fun n e=>.inl e)
  have hrl:=h.lt
  cases hN with
  | @mk k1 n1 s1 r1 t1 p1 m1 e1 us ts hk hl hs =>
  have hN:=Nd.mk (k:=k1) (n:=n1) (s:=s1) (r:=r1) (t:=t1) hk hl hs
  clear hk hl hs
  obtain⟨⟨b0,b1,b2,b3,b4,b5,b6,b7,b8,b9,b10,b11⟩,bf⟩:=cells12 hq8
  go_wp2_with fail
  refine fin12 hq8 (Q:=bodyPost _ _ _ _ _) ?_
  intro w9 hq9 hk9
  clear b0 b1 b2 b3 b4 b5 b6 b7 b8 b9 b10 b11 bf
  obtain⟨⟨b0,b1,b2,b3,b4,b5,b6,b7,b8,b9,b10,b11⟩,bf⟩:=cells12 hq9
  refine bodyPost_ret (v:=NV k1 n1 s1 r1 t1 (.slice p1 m1 e1)) (by simp [results,Tryz.results200,go_sem,b0,b1,b2,b3,b4,b5,b6,b7,b8,b9,b10,b11]) rfl ⟨_,rfl,?_,?_,?_⟩
  ·exact (hN.next hk9 (fun n e=>by left;omega)).mono (fun _ _=>rfl) (fun n hn=>⟨by have:=hn.1;omega,hn.2⟩)
  ·exact hR8.keep hk9 (by omega)
  ·exact hKw.trans hk9 (fun n e=>by right;omega)
set_option maxHeartbeats 4000000 in
theorem operand_83 (rb k d:Nat) (w:World) (hE:E w) (h:RD w rb s k d) (hrb:11≤rb) (hk:k≤s.size) (hx:nx s (skip s k)=35) (r:Rs T)
  (hop:∀ w1,E w1→RD w1 rb s (skip s k) d→Calls Tryz.prog 221 #[ptr rb] w1 (Out w1 rb s d r)) :
  Calls Tryz.prog 200 #[ptr rb] w (Out w rb s d r):=by
 have hk1:=(skip_spec s k).2.2 hk
 have h45:(((nx s (skip s k):Nat):Int) == 45)=false:=by rw [beq_eq_false_iff_ne];omega
 have h40:(((nx s (skip s k):Nat):Int) == 40)=false:=by rw [beq_eq_false_iff_ne];omega
 have h34:(((nx s (skip s k):Nat):Int) == 34)=false:=by rw [beq_eq_false_iff_ne];omega
 have h35:(((nx s (skip s k):Nat):Int) == 35)=true:=by rw [beq_iff_eq];omega
 have HOP:Hid (∀ w1,E w1→RD w1 rb s (skip s k) d→Calls Tryz.prog 221 #[ptr rb] w1 (Out w1 rb s d r)):=hop
 have hEa:=F.keep hE ((Kp.refl (·=rb) w).alloc (.cells NZ 57)) (fun n e=>by omega)
 clear hop hx
 go_enter Tryz.func200,Tryz.ntmps200
 go_wp2_with fail
 refine (blanks_any rb k d s _ (h.alloc _) hk (by omega)).mono ?_
 rintro e w1 ⟨rfl,hR1,hK1⟩
 have hq1:=hK1.blk (blk_new w (.cells NZ 57)) (by have:=h.lt;omega)
 have hKa:Kp (·=rb) w w1:=((Kp.refl (·=rb) w).alloc (.cells NZ 57)).trans hK1 (fun n e=>.inl e)
 go_wp2_with fail
 refine (next_any rb _ d s _ hR1 hk1).mono ?_
 rintro e w2 ⟨rfl,hb2⟩
 have hR2:=hR1.below hb2
 have hK2:=hKa.below hb2
 have hq2:=((Kp.refl (fun _=>False) _).below hb2).blk hq1 id
 have hE2:=F.keep hE hK2 (fun n e=>by omega)
 go_wp2_with fail
 refine (HOP.out _ hE2 hR2).mono ?_
 clear HOP
 intro e w8 ho
 cases r with
 | err k' c =>
  obtain⟨rfl,hK8⟩:=ho
  go_wp2_with fail
  exact⟨rfl,rfl,hK2.trans hK8 (fun n e=>.inl e)⟩
 | ok t k' =>
  obtain⟨v,rfl,hN,hR8,hK8⟩:=ho
  have hq8:=hK8.blk hq2 (by have:=h.lt;omega)
  have hsz8:=hK2.size
  have hlq:=lt_blk hq2
  have hKw:=hK2.trans hK8 (fun n e=>.inl e)
  have hrl:=h.lt
  cases hN with
  | @mk k1 n1 s1 r1 t1 p1 m1 e1 us ts hk hl hs =>
  have hN:=Nd.mk (k:=k1) (n:=n1) (s:=s1) (r:=r1) (t:=t1) hk hl hs
  clear hk hl hs
  obtain⟨⟨b0,b1,b2,b3,b4,b5,b6,b7,b8,b9,b10,b11⟩,bf⟩:=cells12 hq8
  go_wp2_with fail
  refine fin12 hq8 (Q:=bodyPost _ _ _ _ _) ?_
  intro w9 hq9 hk9
  clear b0 b1 b2 b3 b4 b5 b6 b7 b8 b9 b10 b11 bf
  obtain⟨⟨b0,b1,b2,b3,b4,b5,b6,b7,b8,b9,b10,b11⟩,bf⟩:=cells12 hq9
  refine bodyPost_ret (v:=NV k1 n1 s1 r1 t1 (.slice p1 m1 e1)) (by simp [results,Tryz.results200,go_sem,b0,b1,b2,b3,b4,b5,b6,b7,b8,b9,b10,b11]) rfl ⟨_,rfl,?_,?_,?_⟩
  ·exact (hN.next hk9 (fun n e=>by left;omega)).mono (fun _ _=>rfl) (fun n hn=>⟨by have:=hn.1;omega,hn.2⟩)
  ·exact hR8.keep hk9 (by omega)
  ·exact hKw.trans hk9 (fun n e=>by right;omega)
set_option maxHeartbeats 4000000 in
theorem operand_84 (rb k d:Nat) (w:World) (hE:E w) (h:RD w rb s k d) (hrb:11≤rb) (hk:k≤s.size) (hx:¬ nx s (skip s k)=45∧¬ nx s (skip s k)=40∧¬ nx s (skip s k)=34∧¬ nx s (skip s k)=35) (r:Rs T)
  (hop:∀ w1,E w1→RD w1 rb s (skip s k) d→Calls Tryz.prog 222 #[ptr rb] w1 (Out w1 rb s d r)) :
  Calls Tryz.prog 200 #[ptr rb] w (Out w rb s d r):=by
 have hk1:=(skip_spec s k).2.2 hk
 have h45:(((nx s (skip s k):Nat):Int) == 45)=false:=by rw [beq_eq_false_iff_ne];omega
 have h40:(((nx s (skip s k):Nat):Int) == 40)=false:=by rw [beq_eq_false_iff_ne];omega
 have h34:(((nx s (skip s k):Nat):Int) == 34)=false:=by rw [beq_eq_false_iff_ne];omega
 have h35:(((nx s (skip s k):Nat):Int) == 35)=false:=by rw [beq_eq_false_iff_ne];omega
 have HOP:Hid (∀ w1,E w1→RD w1 rb s (skip s k) d→Calls Tryz.prog 222 #[ptr rb] w1 (Out w1 rb s d r)):=hop
 have hEa:=F.keep hE ((Kp.refl (·=rb) w).alloc (.cells NZ 57)) (fun n e=>by omega)
 clear hop hx
 go_enter Tryz.func200,Tryz.ntmps200
 go_wp2_with fail
 refine (blanks_any rb k d s _ (h.alloc _) hk (by omega)).mono ?_
 rintro e w1 ⟨rfl,hR1,hK1⟩
 have hq1:=hK1.blk (blk_new w (.cells NZ 57)) (by have:=h.lt;omega)
 have hKa:Kp (·=rb) w w1:=((Kp.refl (·=rb) w).alloc (.cells NZ 57)).trans hK1 (fun n e=>.inl e)
 go_wp2_with fail
 refine (next_any rb _ d s _ hR1 hk1).mono ?_
 rintro e w2 ⟨rfl,hb2⟩
 have hR2:=hR1.below hb2
 have hK2:=hKa.below hb2
 have hq2:=((Kp.refl (fun _=>False) _).below hb2).blk hq1 id
 have hE2:=F.keep hE hK2 (fun n e=>by omega)
 go_wp2_with fail
 refine (HOP.out _ hE2 hR2).mono ?_
 clear HOP
 intro e w8 ho
 cases r with
 | err k' c =>
  obtain⟨rfl,hK8⟩:=ho
  go_wp2_with fail
  exact⟨rfl,rfl,hK2.trans hK8 (fun n e=>.inl e)⟩
 | ok t k' =>
  obtain⟨v,rfl,hN,hR8,hK8⟩:=ho
  have hq8:=hK8.blk hq2 (by have:=h.lt;omega)
  have hsz8:=hK2.size
  have hlq:=lt_blk hq2
  have hKw:=hK2.trans hK8 (fun n e=>.inl e)
  have hrl:=h.lt
  cases hN with
  | @mk k1 n1 s1 r1 t1 p1 m1 e1 us ts hk hl hs =>
  have hN:=Nd.mk (k:=k1) (n:=n1) (s:=s1) (r:=r1) (t:=t1) hk hl hs
  clear hk hl hs
  obtain⟨⟨b0,b1,b2,b3,b4,b5,b6,b7,b8,b9,b10,b11⟩,bf⟩:=cells12 hq8
  go_wp2_with fail
  refine fin12 hq8 (Q:=bodyPost _ _ _ _ _) ?_
  intro w9 hq9 hk9
  clear b0 b1 b2 b3 b4 b5 b6 b7 b8 b9 b10 b11 bf
  obtain⟨⟨b0,b1,b2,b3,b4,b5,b6,b7,b8,b9,b10,b11⟩,bf⟩:=cells12 hq9
  refine bodyPost_ret (v:=NV k1 n1 s1 r1 t1 (.slice p1 m1 e1)) (by simp [results,Tryz.results200,go_sem,b0,b1,b2,b3,b4,b5,b6,b7,b8,b9,b10,b11]) rfl ⟨_,rfl,?_,?_,?_⟩
  ·exact (hN.next hk9 (fun n e=>by left;omega)).mono (fun _ _=>rfl) (fun n hn=>⟨by have:=hn.1;omega,hn.2⟩)
  ·exact hR8.keep hk9 (by omega)
  ·exact hKw.trans hk9 (fun n e=>by right;omega)
omit hs in
set_option maxHeartbeats 4000000 in
theorem expr_five (rb k d:Nat) (w:World) (hE:E w) (h:RD w rb s k d) (r:Rs T)
  (hop:∀ w1,E w1→RD w1 rb s k d→Calls Tryz.prog 200 #[ptr rb] w1 (Out w1 rb s d r)) :
  Calls Tryz.prog 176 #[ptr rb,.int .i64 5] w (Out w rb s d r):=by
 have HOP:Hid (∀ w1,E w1→RD w1 rb s k d→Calls Tryz.prog 200 #[ptr rb] w1 (Out w1 rb s d r)):=hop
 have hKa:=(Kp.refl (fun _=>False) w).alloc (.cells NZ 57)
 have hK2:=(Kp.refl (·=rb) w).alloc (.cells NZ 57)
 have hEa:=F.keep hE hKa (fun n e=>e.elim)
 have hR2:=h.alloc (.cells NZ 57)
 have hq2:=blk_new w (.cells NZ 57)
 clear hop
 go_enter Tryz.func176,Tryz.ntmps176
 go_wp2_with fail
 go_step3
 go_wp2_with fail
 refine (HOP.out _ hEa hR2).mono ?_
 clear HOP
 generalize w.alloc (.cells NZ 57)=w2 at *
 intro e w8 ho
 cases r with
 | err k' c =>
  obtain⟨rfl,hK8⟩:=ho
  go_wp2_with fail
  exact⟨rfl,rfl,hK2.trans hK8 (fun n e=>.inl e)⟩
 | ok t k' =>
  obtain⟨v,rfl,hN,hR8,hK8⟩:=ho
  have hq8:=hK8.blk hq2 (by have:=h.lt;omega)
  have hsz8:=hK2.size
  have hlq:=lt_blk hq2
  have hKw:=hK2.trans hK8 (fun n e=>.inl e)
  have hrl:=h.lt
  cases hN with
  | @mk k1 n1 s1 r1 t1 p1 m1 e1 us ts hk hl hs =>
  have hN:=Nd.mk (k:=k1) (n:=n1) (s:=s1) (r:=r1) (t:=t1) hk hl hs
  clear hk hl hs
  obtain⟨⟨b0,b1,b2,b3,b4,b5,b6,b7,b8,b9,b10,b11⟩,bf⟩:=cells12 hq8
  go_wp2_with fail
  try rw [Exit.noGoto_ret]
  refine fin12 hq8 (Q:=bodyPost _ _ _ _ _) ?_
  intro w9 hq9 hk9
  clear b0 b1 b2 b3 b4 b5 b6 b7 b8 b9 b10 b11 bf
  obtain⟨⟨b0,b1,b2,b3,b4,b5,b6,b7,b8,b9,b10,b11⟩,bf⟩:=cells12 hq9
  refine bodyPost_ret (v:=NV k1 n1 s1 r1 t1 (.slice p1 m1 e1)) (by simp [results,Tryz.results176,go_sem,b0,b1,b2,b3,b4,b5,b6,b7,b8,b9,b10,b11]) rfl ⟨_,rfl,?_,?_,?_⟩
  ·exact (hN.next hk9 (fun n e=>by left;omega)).mono (fun _ _=>rfl) (fun n hn=>⟨by have:=hn.1;omega,hn.2⟩)
  ·exact hR8.keep hk9 (by omega)
  ·exact hKw.trans hk9 (fun n e=>by right;omega)
end
end Go.Proofs.YtgifkepklnhddaaGreatDoor.fm
