import Derived.Test.YtgifkepklnhddaaGreatDoorQ7Qd
namespace Go.Proofs.YtgifkepklnhddaaGreatDoor.fm
open Go.RowKit
structure BB (w:World) (a b:Rf) (wx:World):Prop where
 a:wx.heap[w.heap.size]?=some (.cells #[.int .i64 a.c,.int .i64 a.r,.bool a.fc,.bool a.fr] 54 (0,0))
 b:wx.heap[w.heap.size+1]?=some (.cells #[.int .i64 b.c,.int .i64 b.r,.bool b.fc,.bool b.fr] 54 (0,0))
 c:wx.heap[w.heap.size+1+1]?=some (.cells #[.int .i64 0,.int .i64 0,.bool false,.bool false] 54 (0,0))
 d:wx.heap[w.heap.size+1+1+1]?=some (.cells #[.int .i64 0,.int .i64 0,.bool false,.bool false] 54 (0,0))
 below:Below w.heap.size w wx
theorem BB.start (w:World) (a b:Rf):BB w a b ((((w.alloc (.cells #[.int .i64 a.c,.int .i64 a.r,.bool a.fc,.bool a.fr] 54)).alloc (.cells #[.int .i64 b.c,.int .i64 b.r,.bool b.fc,.bool b.fr] 54)).alloc (.cells #[.int .i64 0,.int .i64 0,.bool false,.bool false] 54)).alloc (.cells #[.int .i64 0,.int .i64 0,.bool false,.bool false] 54)):=by
 obtain⟨⟨h1,h2⟩,h3,h4⟩:=adr.four w (.cells #[.int .i64 a.c,.int .i64 a.r,.bool a.fc,.bool a.fr] 54) (.cells #[.int .i64 b.c,.int .i64 b.r,.bool b.fc,.bool b.fr] 54) (.cells #[.int .i64 0,.int .i64 0,.bool false,.bool false] 54) (.cells #[.int .i64 0,.int .i64 0,.bool false,.bool false] 54)
 exact⟨h1,h2,h3,h4,((((Below.refl _ _).alloc (Nat.le_refl _) _).alloc (by simp) _).alloc (by simp;omega) _).alloc (by simp;omega) _⟩
section
variable {w wx:World} {a b:Rf}
theorem BB.lt (h:BB w a b wx):w.heap.size+3<wx.heap.size:=by have:=lt_blk h.d;omega
theorem BB.next {wy:World} (h:BB w a b wx) (hb:Below wx.heap.size wx wy):BB w a b wy:=by
 have hl:=h.lt
 exact⟨by rw [hb.block _ (by omega)];exact h.a,by rw [hb.block _ (by omega)];exact h.b,by rw [hb.block _ (by omega)];exact h.c,by rw [hb.block _ (by omega)];exact h.d,bnext h.below hb h.below.size⟩
theorem BB.setA (h:BB w a b wx) (q:Rf):BB w q b ((((wx.setCell ⟨w.heap.size,0,none⟩ (.int .i64 q.c)).setCell ⟨w.heap.size,1,none⟩ (.int .i64 q.r)).setCell ⟨w.heap.size,2,none⟩ (.bool q.fc)).setCell ⟨w.heap.size,3,none⟩ (.bool q.fr)) :=
 ⟨adr.set4 h.a,by rw [Below.heap_setCell _ _ _ _ (by simp),Below.heap_setCell _ _ _ _ (by simp),Below.heap_setCell _ _ _ _ (by simp),Below.heap_setCell _ _ _ _ (by simp)];exact h.b,
  by rw [Below.heap_setCell _ _ _ _ (by simp;omega),Below.heap_setCell _ _ _ _ (by simp;omega),Below.heap_setCell _ _ _ _ (by simp;omega),Below.heap_setCell _ _ _ _ (by simp;omega)];exact h.c,
  by rw [Below.heap_setCell _ _ _ _ (by simp;omega),Below.heap_setCell _ _ _ _ (by simp;omega),Below.heap_setCell _ _ _ _ (by simp;omega),Below.heap_setCell _ _ _ _ (by simp;omega)];exact h.d,
  h.below.trans (adr.below4 (Nat.le_refl _))⟩
theorem BB.setB (h:BB w a b wx) (q:Rf):BB w a q ((((wx.setCell ⟨w.heap.size+1,0,none⟩ (.int .i64 q.c)).setCell ⟨w.heap.size+1,1,none⟩ (.int .i64 q.r)).setCell ⟨w.heap.size+1,2,none⟩ (.bool q.fc)).setCell ⟨w.heap.size+1,3,none⟩ (.bool q.fr)) :=
 ⟨by rw [Below.heap_setCell _ _ _ _ (by simp),Below.heap_setCell _ _ _ _ (by simp),Below.heap_setCell _ _ _ _ (by simp),Below.heap_setCell _ _ _ _ (by simp)];exact h.a,adr.set4 h.b,
  by rw [Below.heap_setCell _ _ _ _ (by simp),Below.heap_setCell _ _ _ _ (by simp),Below.heap_setCell _ _ _ _ (by simp),Below.heap_setCell _ _ _ _ (by simp)];exact h.c,
  by rw [Below.heap_setCell _ _ _ _ (by simp;omega),Below.heap_setCell _ _ _ _ (by simp;omega),Below.heap_setCell _ _ _ _ (by simp;omega),Below.heap_setCell _ _ _ _ (by simp;omega)];exact h.d,
  h.below.trans (adr.below4 (by omega))⟩
end
theorem fin4r {wc:World} {c:Nat} {x0 x1 x2 x3:Value} {q:Rf} (hc:wc.heap[c]?=some (.cells #[x0,x1,x2,x3] 54 (0,0))) {Q:World→Prop} (hq:∀ w2,w2.heap[c]?=some (.cells #[.int .i64 q.c,.int .i64 q.r,.bool q.fc,.bool q.fr] 54 (0,0))→Kp (·=c) wc w2→Q w2) :
  Q ((((wc.setCell ⟨c,0,none⟩ (.int .i64 q.c)).setCell ⟨c,1,none⟩ (.int .i64 q.r)).setCell ⟨c,2,none⟩ (.bool q.fc)).setCell ⟨c,3,none⟩ (.bool q.fr)) :=
 hq _ (adr.set4 hc) (((((Kp.refl (·=c) wc).setCell (Or.inl rfl) _).setCell (Or.inl rfl) _).setCell (Or.inl rfl) _).setCell (Or.inl rfl) _)
theorem fin8 {w wc:World} {c d:Nat} {x0 x1 x2 x3 y0 y1 y2 y3:Value} {qa qb:Rf} (hc:wc.heap[c]?=some (.cells #[x0,x1,x2,x3] 54 (0,0))) (hd:wc.heap[d]?=some (.cells #[y0,y1,y2,y3] 54 (0,0))) (hne:c≠d) (hb:Below w.heap.size w wc) (h1:w.heap.size≤c) (h2:w.heap.size≤d) {Q:World→Prop}
  (hq:∀ w2,w2.heap[c]?=some (.cells #[.int .i64 qa.c,.int .i64 qa.r,.bool qa.fc,.bool qa.fr] 54 (0,0))→w2.heap[d]?=some (.cells #[.int .i64 qb.c,.int .i64 qb.r,.bool qb.fc,.bool qb.fr] 54 (0,0))→Below w.heap.size w w2→Q w2) :
  Q ((((((((wc.setCell ⟨c,0,none⟩ (.int .i64 qa.c)).setCell ⟨c,1,none⟩ (.int .i64 qa.r)).setCell ⟨c,2,none⟩ (.bool qa.fc)).setCell ⟨c,3,none⟩ (.bool qa.fr)).setCell ⟨d,0,none⟩ (.int .i64 qb.c)).setCell ⟨d,1,none⟩ (.int .i64 qb.r)).setCell ⟨d,2,none⟩ (.bool qb.fc)).setCell ⟨d,3,none⟩ (.bool qb.fr)).drew:=by
 refine fin4r hc (Q:=fun u=>Q ((((u.setCell ⟨d,0,none⟩ (.int .i64 qb.c)).setCell ⟨d,1,none⟩ (.int .i64 qb.r)).setCell ⟨d,2,none⟩ (.bool qb.fc)).setCell ⟨d,3,none⟩ (.bool qb.fr)).drew) fun w2 e1 k1=>?_
 refine fin4r (k1.blk hd (fun e=>hne e.symm)) (Q:=fun u=>Q u.drew) fun w3 e2 k2=>?_
 have e3:=k2.blk e1 hne
 have hbb:Below w.heap.size w w3:=(hb.trans (k1.toBelow hb.size (fun n hn e=>by omega))).trans (k2.toBelow (Nat.le_trans hb.size k1.size) (fun n hn e=>by omega))
 exact hq w3.drew e3 e2 hbb.drew
set_option maxRecDepth 100000 in
set_option maxHeartbeats 8000000 in
theorem mv_box (f:Rf→Rf×Bool) (a b:Rf) (bf bc br:Nat) (w:World) (hf:w.cell? ⟨bf,0,none⟩=some (fv 75 #[ptr bc,ptr br]))
  (ha:∀ wx,Below w.heap.size w wx→Calls Tryz.prog 75 #[RV a,ptr bc,ptr br] wx fun e w'=>e=.returned (.tuple #[RV (f a).1,.bool (f a).2])∧Below wx.heap.size wx w')
  (hb:∀ wx,Below w.heap.size w wx→Calls Tryz.prog 75 #[RV b,ptr bc,ptr br] wx fun e w'=>e=.returned (.tuple #[RV (f b).1,.bool (f b).2])∧Below wx.heap.size wx w') :
  Calls Tryz.prog 105 #[RV a,RV b,ptr bf] w fun e w'=>e=.returned (.tuple #[RV (f a).1,RV (f b).1,.bool ((f a).2 && (f b).2)])∧Below w.heap.size w w':=by
 obtain⟨qa,hqa⟩:∃ q,f a=q:=⟨_,rfl⟩
 obtain⟨qb,hqb⟩:∃ q,f b=q:=⟨_,rfl⟩
 rw [hqa] at ha ⊢
 rw [hqb] at hb ⊢
 clear hqa hqb
 have HA:Hid (∀ wx,Below w.heap.size w wx→Calls Tryz.prog 75 #[RV a,ptr bc,ptr br] wx fun e w'=>e=.returned (.tuple #[RV qa.1,.bool qa.2])∧Below wx.heap.size wx w'):=ha
 have HB:Hid (∀ wx,Below w.heap.size w wx→Calls Tryz.prog 75 #[RV b,ptr bc,ptr br] wx fun e w'=>e=.returned (.tuple #[RV qb.1,.bool qb.2])∧Below wx.heap.size wx w'):=hb
 have HF:Hid (w.cell? ⟨bf,0,none⟩=some (fv 75 #[ptr bc,ptr br])):=hf
 clear ha hb hf
 obtain⟨qa,xa⟩:=qa
 obtain⟨qb,xb⟩:=qb
 simp only at HA HB ⊢
 have hS:=BB.start w a b
 have c0:=cell_on hS.below (Nat.le_refl _) HF.out
 obtain⟨⟨k0,k1,k2,k3⟩,-⟩:=adr.cells_four hS.a
 go_enter Tryz.func105,Tryz.ntmps105
 go_wp2_with fail
 refine (HA.out _ hS.below).mono ?_
 rintro e w1 ⟨rfl,b1⟩
 have hS1:=hS.next b1
 clear k0 k1 k2 k3 c0
 have⟨⟨k0,k1,k2,k3⟩,f0,f1,f2,f3⟩:=adr.cells_four hS1.a
 have hS2:=hS1.setA qa
 have c0:=cell_on hS2.below (Nat.le_refl _) HF.out
 obtain⟨⟨j0,j1,j2,j3⟩,-⟩:=adr.cells_four hS2.b
 go_wp2_with fail
 refine (HB.out _ hS2.below).mono ?_
 rintro e w2 ⟨rfl,b2⟩
 have hS3:=hS2.next b2
 clear k0 k1 k2 k3 f0 f1 f2 f3 j0 j1 j2 j3 c0
 have⟨⟨k0,k1,k2,k3⟩,f0,f1,f2,f3⟩:=adr.cells_four hS3.b
 have hS4:=hS3.setB qb
 go_wp2_with fail
 clear k0 k1 k2 k3 f0 f1 f2 f3 hS hS1 hS2 hS3
 generalize hw0:(((w2.setCell _ _).setCell _ _).setCell _ _).setCell _ _=wc at *
 clear hw0 b1 b2 HA HB HF
 obtain⟨⟨k0,k1,k2,k3⟩,-⟩:=adr.cells_four hS4.a
 obtain⟨⟨j0,j1,j2,j3⟩,-⟩:=adr.cells_four hS4.b
 have⟨⟨o0,o1,o2,o3⟩,p0,p1,p2,p3⟩:=adr.cells_four hS4.c
 have⟨⟨m0,m1,m2,m3⟩,n0,n1,n2,n3⟩:=adr.cells_four hS4.d
 have HS:Hid (BB w qa qb wc):=hS4
 clear hS4
 cases xa<;>cases xb
 all_goals
  go_region
  all_goals
   refine fin8 HS.out.c HS.out.d (by omega) HS.out.below (by omega) (by omega) (Q:=Exit.then _ _ _ _) ?_
   clear k0 k1 k2 k3 j0 j1 j2 j3 o0 o1 o2 o3 p0 p1 p2 p3 m0 m1 m2 m3 n0 n1 n2 n3
   intro w3 e1 e2 hb3
   obtain⟨⟨k0,k1,k2,k3⟩,-⟩:=adr.cells_four e1
   obtain⟨⟨j0,j1,j2,j3⟩,-⟩:=adr.cells_four e2
   go_wp2_with fail
   first
   | exact bodyPost_ret (v:=.tuple #[RV qa,RV qb,.bool true]) (by simp [results,Tryz.results105,go_sem,k0,k1,k2,k3,j0,j1,j2,j3]) rfl ⟨rfl,hb3⟩
   | exact bodyPost_ret (v:=.tuple #[RV qa,RV qb,.bool false]) (by simp [results,Tryz.results105,go_sem,k0,k1,k2,k3,j0,j1,j2,j3]) rfl ⟨rfl,hb3⟩
set_option maxRecDepth 100000 in
set_option maxHeartbeats 8000000 in
theorem in_box (f:Rf→Rf×Bool) (a b:Rf) (bf bl ba bm:Nat) (w:World) (hf:w.cell? ⟨bf,0,none⟩=some (fv 93 #[ptr bl,ptr ba,ptr bm]))
  (ha:∀ wx,Below w.heap.size w wx→Calls Tryz.prog 93 #[RV a,ptr bl,ptr ba,ptr bm] wx fun e w'=>e=.returned (.tuple #[RV (f a).1,.bool (f a).2])∧Below wx.heap.size wx w')
  (hb:∀ wx,Below w.heap.size w wx→Calls Tryz.prog 93 #[RV b,ptr bl,ptr ba,ptr bm] wx fun e w'=>e=.returned (.tuple #[RV (f b).1,.bool (f b).2])∧Below wx.heap.size wx w') :
  Calls Tryz.prog 105 #[RV a,RV b,ptr bf] w fun e w'=>e=.returned (.tuple #[RV (f a).1,RV (f b).1,.bool ((f a).2 && (f b).2)])∧Below w.heap.size w w':=by
 obtain⟨qa,hqa⟩:∃ q,f a=q:=⟨_,rfl⟩
 obtain⟨qb,hqb⟩:∃ q,f b=q:=⟨_,rfl⟩
 rw [hqa] at ha ⊢
 rw [hqb] at hb ⊢
 clear hqa hqb
 have HA:Hid (∀ wx,Below w.heap.size w wx→Calls Tryz.prog 93 #[RV a,ptr bl,ptr ba,ptr bm] wx fun e w'=>e=.returned (.tuple #[RV qa.1,.bool qa.2])∧Below wx.heap.size wx w'):=ha
 have HB:Hid (∀ wx,Below w.heap.size w wx→Calls Tryz.prog 93 #[RV b,ptr bl,ptr ba,ptr bm] wx fun e w'=>e=.returned (.tuple #[RV qb.1,.bool qb.2])∧Below wx.heap.size wx w'):=hb
 have HF:Hid (w.cell? ⟨bf,0,none⟩=some (fv 93 #[ptr bl,ptr ba,ptr bm])):=hf
 clear ha hb hf
 obtain⟨qa,xa⟩:=qa
 obtain⟨qb,xb⟩:=qb
 simp only at HA HB ⊢
 have hS:=BB.start w a b
 have c0:=cell_on hS.below (Nat.le_refl _) HF.out
 obtain⟨⟨k0,k1,k2,k3⟩,-⟩:=adr.cells_four hS.a
 go_enter Tryz.func105,Tryz.ntmps105
 go_wp2_with fail
 refine (HA.out _ hS.below).mono ?_
 rintro e w1 ⟨rfl,b1⟩
 have hS1:=hS.next b1
 clear k0 k1 k2 k3 c0
 have⟨⟨k0,k1,k2,k3⟩,f0,f1,f2,f3⟩:=adr.cells_four hS1.a
 have hS2:=hS1.setA qa
 have c0:=cell_on hS2.below (Nat.le_refl _) HF.out
 obtain⟨⟨j0,j1,j2,j3⟩,-⟩:=adr.cells_four hS2.b
 go_wp2_with fail
 refine (HB.out _ hS2.below).mono ?_
 rintro e w2 ⟨rfl,b2⟩
 have hS3:=hS2.next b2
 clear k0 k1 k2 k3 f0 f1 f2 f3 j0 j1 j2 j3 c0
 have⟨⟨k0,k1,k2,k3⟩,f0,f1,f2,f3⟩:=adr.cells_four hS3.b
 have hS4:=hS3.setB qb
 go_wp2_with fail
 clear k0 k1 k2 k3 f0 f1 f2 f3 hS hS1 hS2 hS3
 generalize hw0:(((w2.setCell _ _).setCell _ _).setCell _ _).setCell _ _=wc at *
 clear hw0 b1 b2 HA HB HF
 obtain⟨⟨k0,k1,k2,k3⟩,-⟩:=adr.cells_four hS4.a
 obtain⟨⟨j0,j1,j2,j3⟩,-⟩:=adr.cells_four hS4.b
 have⟨⟨o0,o1,o2,o3⟩,p0,p1,p2,p3⟩:=adr.cells_four hS4.c
 have⟨⟨m0,m1,m2,m3⟩,n0,n1,n2,n3⟩:=adr.cells_four hS4.d
 have HS:Hid (BB w qa qb wc):=hS4
 clear hS4
 cases xa<;>cases xb
 all_goals
  go_region
  all_goals
   refine fin8 HS.out.c HS.out.d (by omega) HS.out.below (by omega) (by omega) (Q:=Exit.then _ _ _ _) ?_
   clear k0 k1 k2 k3 j0 j1 j2 j3 o0 o1 o2 o3 p0 p1 p2 p3 m0 m1 m2 m3 n0 n1 n2 n3
   intro w3 e1 e2 hb3
   obtain⟨⟨k0,k1,k2,k3⟩,-⟩:=adr.cells_four e1
   obtain⟨⟨j0,j1,j2,j3⟩,-⟩:=adr.cells_four e2
   go_wp2_with fail
   first
   | exact bodyPost_ret (v:=.tuple #[RV qa,RV qb,.bool true]) (by simp [results,Tryz.results105,go_sem,k0,k1,k2,k3,j0,j1,j2,j3]) rfl ⟨rfl,hb3⟩
   | exact bodyPost_ret (v:=.tuple #[RV qa,RV qb,.bool false]) (by simp [results,Tryz.results105,go_sem,k0,k1,k2,k3,j0,j1,j2,j3]) rfl ⟨rfl,hb3⟩
end Go.Proofs.YtgifkepklnhddaaGreatDoor.fm
