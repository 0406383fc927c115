import Derived.Test.YtgifkepklnhddaaGreatDoorQ7Yc
import Derived.Test.YtgifkepklnhddaaGreatDoorQ7Qb
namespace Go.Proofs.YtgifkepklnhddaaGreatDoor.fm
open Go.RowKit
abbrev C10 (k:Int) (row:Bool) (at' many cs rs fx fy tx ty:Int):Array Value:=#[.int .i64 k,.bool row,.int .i64 at',.int .i64 many,.int .i64 cs,.int .i64 rs,.int .i64 fx,.int .i64 fy,.int .i64 tx,.int .i64 ty]
abbrev R4 (r:Rf):Array Value:=#[.int .i64 r.c,.int .i64 r.r,.bool r.fc,.bool r.fr]
abbrev Z4:Array Value:=#[.int .i64 0,.int .i64 0,.bool false,.bool false]
structure RB (w:World) (r:Rf) (wx:World):Prop where
 a:wx.heap[w.heap.size+1]?=some (.cells (R4 r) 54 (0,0))
 z:wx.heap[w.heap.size+1+1]?=some (.cells Z4 54 (0,0))
 below:Below w.heap.size w wx
theorem RB.next {w:World} {r:Rf} {wx wy:World} (h:RB w r wx) (hb:Below wx.heap.size wx wy):RB w r wy :=
 ⟨(hb.block _ (lt_blk h.a)).trans h.a,(hb.block _ (lt_blk h.z)).trans h.z,bnext h.below hb h.below.size⟩
theorem RB.start (w:World) (o:Obj) (r:Rf):RB w r (((w.alloc o).alloc (.cells (R4 r) 54)).alloc (.cells Z4 54)):=by
 refine⟨?_,?_,(((Below.refl _ _).alloc (Nat.le_refl _) _).alloc (by simp) _).alloc (by simp;omega) _⟩
 ·rw [Below.heap_alloc _ _ _ (by simp)]
  have:=blk_new (w.alloc o) (.cells (R4 r) 54)
  simpa using this
 ·have:=blk_new ((w.alloc o).alloc (.cells (R4 r) 54)) (.cells Z4 54)
  simpa using this
theorem cellsR {W:World} {b:Nat} {a0 a1 a2 a3:Value} {t:TypeId} (h:W.heap[b]?=some (.cells #[a0,a1,a2,a3] t (0,0))):(W.cell? ⟨b,0,none⟩=some a0∧W.cell? ⟨b,1,none⟩=some a1∧W.cell? ⟨b,2,none⟩=some a2∧W.cell? ⟨b,3,none⟩=some a3)∧∀ o,W.frozen? ⟨b,o,none⟩=false:=by
 refine⟨⟨?_,?_,?_,?_⟩,fun o=>by simp [World.frozen?,h]⟩<;>(rw [cell_blk h];rfl)
set_option maxRecDepth 100000 in
set_option maxHeartbeats 4000000 in
theorem ri_row_hi (at' many cs rs fx fy tx ty:Int) (r:Rf) (w:World) (h1:¬ r.r<at') (hr:1≤r.r∧r.r≤99) (hm:0≤many∧many≤99) :
  Calls Tryz.prog 83 #[.agg (C10 2 true at' many cs rs fx fy tx ty),RV r] w fun e w'=>e=.returned (.tuple #[RV ⟨r.c,r.r+many,r.fc,r.fr⟩,.bool (adr.isC r.c (r.r+many))])∧Below w.heap.size w w':=by
 have h2:at'≤r.r:=by omega
 have HIn:Hid (∀ c r wx,Calls Tryz.prog 21 #[adr.C c r] wx fun e w'=>e=.returned (.bool (adr.isC c r))∧Below wx.heap.size wx w'):=ps.rin_any
 have hr1:=hr.1
 have hr2:=hr.2
 have hm1:=hm.1
 have hm2:=hm.2
 have hw:IntKind.i64.wrap (r.r+many)=r.r+many:=Go.IntWalk.i64_in _ (by omega)
 clear hr hm
 go_enter Tryz.func83,Tryz.ntmps83
 go_wp2_with fail
 have hS:=RB.start w (.cells (C10 2 true at' many cs rs fx fy tx ty) 49) ⟨r.c,r.r+many,r.fc,r.fr⟩
 dsimp only [R4] at hS
 generalize (((w.alloc (.cells (C10 2 true at' many cs rs fx fy tx ty) 49)).alloc (.cells #[.int .i64 r.c,.int .i64 (r.r+many),.bool r.fc,.bool r.fr] 54)).alloc (.cells #[.int .i64 0,.int .i64 0,.bool false,.bool false] 54))=W at *
 have HS:Hid (RB w ⟨r.c,r.r+many,r.fc,r.fr⟩ W):=hS
 obtain⟨⟨x0,x1,x2,x3⟩,-⟩:=cellsR hS.a
 clear hS
 go_region_with (go_at_call 21;refine (HIn.out _ _ _).mono ?_;rintro e w1 ⟨rfl,hb1⟩;have hw1:=HS.out.next (bnext (Below.refl _ _).drew hb1 (Nat.le_refl _));obtain⟨⟨y0,y1,y2,y3⟩,yf⟩:=cellsR hw1.a;obtain⟨⟨z0,z1,z2,z3⟩,zf⟩:=cellsR hw1.z;have zf0:=zf 0;have zf1:=zf 1;have zf2:=zf 2;have zf3:=zf 3;clear zf yf)
 all_goals
  go_wp2_with fail
  exact bodyPost_ret (v:=.tuple #[RV ⟨r.c,r.r+many,r.fc,r.fr⟩,.bool (adr.isC r.c (r.r+many))]) (by simp [results,Tryz.results83,go_sem,z0,z1,z2,z3]) rfl ⟨rfl,(((hw1.below.setCell (by simp;omega) _).setCell (by simp;omega) _).setCell (by simp;omega) _).setCell (by simp;omega) _⟩
set_option maxRecDepth 100000 in
set_option maxHeartbeats 4000000 in
theorem ri_row_lo (at' many cs rs fx fy tx ty:Int) (r:Rf) (w:World) (h1:r.r<at') (hr:1≤r.r∧r.r≤99) (hm:0≤many∧many≤99) :
  Calls Tryz.prog 83 #[.agg (C10 2 true at' many cs rs fx fy tx ty),RV r] w fun e w'=>e=.returned (.tuple #[RV ⟨r.c,r.r,r.fc,r.fr⟩,.bool (adr.isC r.c r.r)])∧Below w.heap.size w w':=by
 have h2:¬ at'≤r.r:=by omega
 have HIn:Hid (∀ c r wx,Calls Tryz.prog 21 #[adr.C c r] wx fun e w'=>e=.returned (.bool (adr.isC c r))∧Below wx.heap.size wx w'):=ps.rin_any
 have hr1:=hr.1
 have hr2:=hr.2
 have hm1:=hm.1
 have hm2:=hm.2
 have hw:IntKind.i64.wrap (r.r+many)=r.r+many:=Go.IntWalk.i64_in _ (by omega)
 clear hr hm
 go_enter Tryz.func83,Tryz.ntmps83
 go_wp2_with fail
 have hS:=RB.start w (.cells (C10 2 true at' many cs rs fx fy tx ty) 49) ⟨r.c,r.r,r.fc,r.fr⟩
 dsimp only [R4] at hS
 generalize (((w.alloc (.cells (C10 2 true at' many cs rs fx fy tx ty) 49)).alloc (.cells #[.int .i64 r.c,.int .i64 r.r,.bool r.fc,.bool r.fr] 54)).alloc (.cells #[.int .i64 0,.int .i64 0,.bool false,.bool false] 54))=W at *
 have HS:Hid (RB w ⟨r.c,r.r,r.fc,r.fr⟩ W):=hS
 obtain⟨⟨x0,x1,x2,x3⟩,-⟩:=cellsR hS.a
 clear hS
 go_region_with (go_at_call 21;refine (HIn.out _ _ _).mono ?_;rintro e w1 ⟨rfl,hb1⟩;have hw1:=HS.out.next (bnext (Below.refl _ _).drew hb1 (Nat.le_refl _));obtain⟨⟨y0,y1,y2,y3⟩,yf⟩:=cellsR hw1.a;obtain⟨⟨z0,z1,z2,z3⟩,zf⟩:=cellsR hw1.z;have zf0:=zf 0;have zf1:=zf 1;have zf2:=zf 2;have zf3:=zf 3;clear zf yf)
 all_goals
  go_wp2_with fail
  exact bodyPost_ret (v:=.tuple #[RV ⟨r.c,r.r,r.fc,r.fr⟩,.bool (adr.isC r.c r.r)]) (by simp [results,Tryz.results83,go_sem,z0,z1,z2,z3]) rfl ⟨rfl,(((hw1.below.setCell (by simp;omega) _).setCell (by simp;omega) _).setCell (by simp;omega) _).setCell (by simp;omega) _⟩
set_option maxRecDepth 100000 in
set_option maxHeartbeats 4000000 in
theorem ri_col_hi (at' many cs rs fx fy tx ty:Int) (r:Rf) (w:World) (h1:¬ r.c<at') (hr:1≤r.c∧r.c≤99) (hm:0≤many∧many≤99) :
  Calls Tryz.prog 83 #[.agg (C10 2 false at' many cs rs fx fy tx ty),RV r] w fun e w'=>e=.returned (.tuple #[RV ⟨r.c+many,r.r,r.fc,r.fr⟩,.bool (adr.isC (r.c+many) r.r)])∧Below w.heap.size w w':=by
 have h2:at'≤r.c:=by omega
 have HIn:Hid (∀ c r wx,Calls Tryz.prog 21 #[adr.C c r] wx fun e w'=>e=.returned (.bool (adr.isC c r))∧Below wx.heap.size wx w'):=ps.rin_any
 have hr1:=hr.1
 have hr2:=hr.2
 have hm1:=hm.1
 have hm2:=hm.2
 have hw:IntKind.i64.wrap (r.c+many)=r.c+many:=Go.IntWalk.i64_in _ (by omega)
 clear hr hm
 go_enter Tryz.func83,Tryz.ntmps83
 go_wp2_with fail
 have hS:=RB.start w (.cells (C10 2 false at' many cs rs fx fy tx ty) 49) ⟨r.c+many,r.r,r.fc,r.fr⟩
 dsimp only [R4] at hS
 generalize (((w.alloc (.cells (C10 2 false at' many cs rs fx fy tx ty) 49)).alloc (.cells #[.int .i64 (r.c+many),.int .i64 r.r,.bool r.fc,.bool r.fr] 54)).alloc (.cells #[.int .i64 0,.int .i64 0,.bool false,.bool false] 54))=W at *
 have HS:Hid (RB w ⟨r.c+many,r.r,r.fc,r.fr⟩ W):=hS
 obtain⟨⟨x0,x1,x2,x3⟩,-⟩:=cellsR hS.a
 clear hS
 go_region_with (go_at_call 21;refine (HIn.out _ _ _).mono ?_;rintro e w1 ⟨rfl,hb1⟩;have hw1:=HS.out.next (bnext (Below.refl _ _).drew hb1 (Nat.le_refl _));obtain⟨⟨y0,y1,y2,y3⟩,yf⟩:=cellsR hw1.a;obtain⟨⟨z0,z1,z2,z3⟩,zf⟩:=cellsR hw1.z;have zf0:=zf 0;have zf1:=zf 1;have zf2:=zf 2;have zf3:=zf 3;clear zf yf)
 all_goals
  go_wp2_with fail
  exact bodyPost_ret (v:=.tuple #[RV ⟨r.c+many,r.r,r.fc,r.fr⟩,.bool (adr.isC (r.c+many) r.r)]) (by simp [results,Tryz.results83,go_sem,z0,z1,z2,z3]) rfl ⟨rfl,(((hw1.below.setCell (by simp;omega) _).setCell (by simp;omega) _).setCell (by simp;omega) _).setCell (by simp;omega) _⟩
set_option maxRecDepth 100000 in
set_option maxHeartbeats 4000000 in
theorem ri_col_lo (at' many cs rs fx fy tx ty:Int) (r:Rf) (w:World) (h1:r.c<at') (hr:1≤r.c∧r.c≤99) (hm:0≤many∧many≤99) :
  Calls Tryz.prog 83 #[.agg (C10 2 false at' many cs rs fx fy tx ty),RV r] w fun e w'=>e=.returned (.tuple #[RV ⟨r.c,r.r,r.fc,r.fr⟩,.bool (adr.isC r.c r.r)])∧Below w.heap.size w w':=by
 have h2:¬ at'≤r.c:=by omega
 have HIn:Hid (∀ c r wx,Calls Tryz.prog 21 #[adr.C c r] wx fun e w'=>e=.returned (.bool (adr.isC c r))∧Below wx.heap.size wx w'):=ps.rin_any
 have hr1:=hr.1
 have hr2:=hr.2
 have hm1:=hm.1
 have hm2:=hm.2
 have hw:IntKind.i64.wrap (r.c+many)=r.c+many:=Go.IntWalk.i64_in _ (by omega)
 clear hr hm
 go_enter Tryz.func83,Tryz.ntmps83
 go_wp2_with fail
 have hS:=RB.start w (.cells (C10 2 false at' many cs rs fx fy tx ty) 49) ⟨r.c,r.r,r.fc,r.fr⟩
 dsimp only [R4] at hS
 generalize (((w.alloc (.cells (C10 2 false at' many cs rs fx fy tx ty) 49)).alloc (.cells #[.int .i64 r.c,.int .i64 r.r,.bool r.fc,.bool r.fr] 54)).alloc (.cells #[.int .i64 0,.int .i64 0,.bool false,.bool false] 54))=W at *
 have HS:Hid (RB w ⟨r.c,r.r,r.fc,r.fr⟩ W):=hS
 obtain⟨⟨x0,x1,x2,x3⟩,-⟩:=cellsR hS.a
 clear hS
 go_region_with (go_at_call 21;refine (HIn.out _ _ _).mono ?_;rintro e w1 ⟨rfl,hb1⟩;have hw1:=HS.out.next (bnext (Below.refl _ _).drew hb1 (Nat.le_refl _));obtain⟨⟨y0,y1,y2,y3⟩,yf⟩:=cellsR hw1.a;obtain⟨⟨z0,z1,z2,z3⟩,zf⟩:=cellsR hw1.z;have zf0:=zf 0;have zf1:=zf 1;have zf2:=zf 2;have zf3:=zf 3;clear zf yf)
 all_goals
  go_wp2_with fail
  exact bodyPost_ret (v:=.tuple #[RV ⟨r.c,r.r,r.fc,r.fr⟩,.bool (adr.isC r.c r.r)]) (by simp [results,Tryz.results83,go_sem,z0,z1,z2,z3]) rfl ⟨rfl,(((hw1.below.setCell (by simp;omega) _).setCell (by simp;omega) _).setCell (by simp;omega) _).setCell (by simp;omega) _⟩
theorem rref_ins (row:Bool) (at' many cs rs fx fy tx ty:Int) (r:Rf) (w:World) (hk:adr.isC r.c r.r=true) (hm:0≤many∧many≤99) :
  Calls Tryz.prog 83 #[.agg (C10 2 row at' many cs rs fx fy tx ty),RV r] w fun e w'=>e=.returned (.tuple #[RV (inR row at' many r).1,.bool (inR row at' many r).2])∧Below w.heap.size w w':=by
 obtain⟨⟨k1,k2⟩,k3,k4⟩:=adr.isC_iff.1 hk
 cases row with
 | true =>
  by_cases h:r.r<at'
  ·rw [show inR true at' many r=(r,true) from if_pos h]
   refine (ri_row_lo at' many cs rs fx fy tx ty r w h ⟨k3,k4⟩ hm).mono ?_
   rintro e w' ⟨rfl,hb⟩
   exact⟨by rw [hk],hb⟩
  ·rw [show inR true at' many r=caR 0 many r from (if_neg (show ¬ lineR true r<at' from h)).trans rfl]
   refine (ri_row_hi at' many cs rs fx fy tx ty r w h ⟨k3,k4⟩ hm).mono ?_
   rintro e w' ⟨rfl,hb⟩
   exact⟨by simp [caR],hb⟩
 | false =>
  by_cases h:r.c<at'
  ·rw [show inR false at' many r=(r,true) from if_pos h]
   refine (ri_col_lo at' many cs rs fx fy tx ty r w h ⟨k1,by omega⟩ hm).mono ?_
   rintro e w' ⟨rfl,hb⟩
   exact⟨by rw [hk],hb⟩
  ·rw [show inR false at' many r=caR many 0 r from (if_neg (show ¬ lineR false r<at' from h)).trans rfl]
   refine (ri_col_hi at' many cs rs fx fy tx ty r w h ⟨k1,by omega⟩ hm).mono ?_
   rintro e w' ⟨rfl,hb⟩
   exact⟨by simp [caR],hb⟩
end Go.Proofs.YtgifkepklnhddaaGreatDoor.fm
