import Derived.Test.YtgifkepklnhddaaGreatDoorQ7Qb
import Derived.Test.YtgifkepklnhddaaGreatDoorQ7Fh
import Derived.Deep.RegionHeld3
import Derived.BigQuiet
namespace Go.Proofs.YtgifkepklnhddaaGreatDoor.fm
open Go.RowKit
theorem of_row (r:Rf) (w:World):Calls Tryz.prog 94 #[RV r] w fun e w'=>e=.returned (.int .i64 r.r)∧Below w.heap.size w w':=by
 obtain⟨a0,a1,a2,a3⟩:=cells4 (blk_new w (.cells #[.int .i64 r.c,.int .i64 r.r,.bool r.fc,.bool r.fr] 54))
 go_enter Tryz.func94,Tryz.ntmps94
 go_wp2_with fail
 go_ret
 exact⟨rfl,(Below.refl _ _).alloc (Nat.le_refl _) _⟩
theorem of_col (r:Rf) (w:World):Calls Tryz.prog 97 #[RV r] w fun e w'=>e=.returned (.int .i64 r.c)∧Below w.heap.size w w':=by
 obtain⟨a0,a1,a2,a3⟩:=cells4 (blk_new w (.cells #[.int .i64 r.c,.int .i64 r.r,.bool r.fc,.bool r.fr] 54))
 go_enter Tryz.func97,Tryz.ntmps97
 go_wp2_with fail
 go_ret
 exact⟨rfl,(Below.refl _ _).alloc (Nat.le_refl _) _⟩
set_option maxRecDepth 100000 in
set_option maxHeartbeats 4000000 in
theorem carry_any (r:Rf) (cols rows:Int) (w:World) (hk:isK r) (hc:-99≤cols∧cols≤99) (hr:-99≤rows∧rows≤99) :
  Calls Tryz.prog 96 #[RV r,.int .i64 cols,.int .i64 rows] w fun e w'=>e=.returned (.tuple #[RV (caR cols rows r).1,.bool (caR cols rows r).2])∧Below w.heap.size w w':=by
 obtain⟨⟨i1,i2⟩,i3,i4⟩:=isK_iff.1 hk
 obtain⟨c,rr,fc,fr⟩:=r
 simp only at i1 i2 i3 i4
 have hS:=adr.SS.start w (c+cols) (rr+rows) fc fr
 have HV:Hid (caR cols rows ⟨c,rr,fc,fr⟩=(⟨c+cols,rr+rows,fc,fr⟩,adr.isC (c+cols) (rr+rows))):=rfl
 clear hk
 go_enter Tryz.func96,Tryz.ntmps96
 go_wp2_with fail
 clear i1 i2 i3 i4
 generalize hw0:(w.alloc _).alloc _=wc at *
 clear hw0
 obtain⟨c',hc'⟩:∃ c',c+cols=c':=⟨_,rfl⟩
 obtain⟨r',hr'⟩:∃ r',rr+rows=r':=⟨_,rfl⟩
 rw [hc',hr'] at hS HV
 simp only [hc',hr']
 clear hc' hr' hc hr
 have hSd:adr.SS w c' r' fc fr wc.drew:=⟨hS.own,hS.res,hS.below.drew⟩
 have⟨⟨q0,q1,q2,q3⟩,v0,v1,v2,v3⟩:=adr.cells_four hS.own
 cases hq:adr.isC c' r'
 ·have HC:Hid (∀ wx,Calls Tryz.prog 57 #[adr.C c' r'] wx fun e w'=>e=.returned (.iface 100 (.int .i64 1))∧Below wx.heap.size wx w'):=fun wx=>by
   have:=adr.check_any c' r' wx
   rw [hq] at this
   exact this
  rw [hq] at HV
  clear hq
  go_region_held3 (fun wx=>wx.cell? ⟨w.heap.size,0,none⟩=some (.int .i64 c')∧wx.cell? ⟨w.heap.size,1,none⟩=some (.int .i64 r')∧wx.cell? ⟨w.heap.size,2,none⟩=some (.bool fc)∧wx.cell? ⟨w.heap.size,3,none⟩=some (.bool fr)) (first | go_keep | exact⟨k0,k1,k2,k3⟩) (first | (go_at_call 57;with_reducible refine (HC.out _).mono ?_;rintro e w1 ⟨rfl,b1⟩;have hS1:=hSd.next b1;have⟨⟨k0,k1,k2,k3⟩,_⟩:=adr.cells_four hS1.own;have⟨⟨o0,o1,o2,o3⟩,p0,p1,p2,p3⟩:=adr.cells_four hS1.res))
  all_goals
   go_wp2_with fail
   exact bodyPost_ret (v:=.tuple #[adr.R c' r' fc fr,.bool false]) (by simp [results,Tryz.results96,go_sem,o0,o1,o2,o3]) rfl ⟨by rw [HV.out],hS1.below.trans (adr.below4 (by omega))⟩
 ·have HC:Hid (∀ wx,Calls Tryz.prog 57 #[adr.C c' r'] wx fun e w'=>e=.returned .nilIface∧Below wx.heap.size wx w'):=fun wx=>by
   have:=adr.check_any c' r' wx
   rw [hq] at this
   exact this
  rw [hq] at HV
  clear hq
  go_region_held3 (fun wx=>wx.cell? ⟨w.heap.size,0,none⟩=some (.int .i64 c')∧wx.cell? ⟨w.heap.size,1,none⟩=some (.int .i64 r')∧wx.cell? ⟨w.heap.size,2,none⟩=some (.bool fc)∧wx.cell? ⟨w.heap.size,3,none⟩=some (.bool fr)) (first | go_keep | exact⟨k0,k1,k2,k3⟩) (first | (go_at_call 57;with_reducible refine (HC.out _).mono ?_;rintro e w1 ⟨rfl,b1⟩;have hS1:=hSd.next b1;have⟨⟨k0,k1,k2,k3⟩,_⟩:=adr.cells_four hS1.own;have⟨⟨o0,o1,o2,o3⟩,p0,p1,p2,p3⟩:=adr.cells_four hS1.res))
  all_goals
   go_wp2_with fail
   exact bodyPost_ret (v:=.tuple #[adr.R c' r' fc fr,.bool true]) (by simp [results,Tryz.results96,go_sem,o0,o1,o2,o3]) rfl ⟨by rw [HV.out],hS1.below.trans (adr.below4 (by omega))⟩
end Go.Proofs.YtgifkepklnhddaaGreatDoor.fm
namespace Go.Proofs.YtgifkepklnhddaaGreatDoor.fm
open Go.RowKit
theorem lt_of_cell {w:World} {b o:Nat} {v:Value} (h:w.cell? ⟨b,o,none⟩=some v):b<w.heap.size:=by
 unfold World.cell? at h
 rcases Nat.lt_or_ge b w.heap.size with h1 | h1
 ·exact h1
 ·rw [Array.getElem?_eq_none h1] at h
  simp at h
theorem cell_on {B:Nat} {w w':World} {b o:Nat} {v:Value} (hb:Below B w w') (hB:w.heap.size≤B) (h:w.cell? ⟨b,o,none⟩=some v):w'.cell? ⟨b,o,none⟩=some v:=by
 rw [hb.cell (p:=⟨b,o,none⟩) (Nat.lt_of_lt_of_le (lt_of_cell h) hB)];exact h
abbrev fv (k:Nat) (cs:Array Value):Value:=.func (.func k) #[] cs
set_option maxRecDepth 100000 in
set_option maxHeartbeats 4000000 in
theorem ca_row (r:Rf) (d:Int) (w:World) (hk:isK r) (hd:-99≤d∧d≤99) :
  Calls Tryz.prog 95 #[RV r,.int .i64 d] w fun e w'=>e=.returned (.tuple #[RV (caR 0 d r).1,.bool (caR 0 d r).2])∧Below w.heap.size w w':=by
 have HC:Hid (∀ wx,Calls Tryz.prog 96 #[RV r,.int .i64 0,.int .i64 d] wx fun e w'=>e=.returned (.tuple #[RV (caR 0 d r).1,.bool (caR 0 d r).2])∧Below wx.heap.size wx w'):=fun wx=>carry_any r 0 d wx hk (by omega) (by omega)
 obtain⟨q,hq⟩:∃ q,caR 0 d r=q:=⟨_,rfl⟩
 rw [hq] at HC ⊢
 clear hq hk hd
 have hS:=adr.SS.start w r.c r.r r.fc r.fr
 obtain⟨⟨k0,k1,k2,k3⟩,_⟩:=adr.cells_four hS.own
 go_enter Tryz.func95,Tryz.ntmps95
 go_wp2_with fail
 refine (HC.out _).mono ?_
 rintro e w1 ⟨rfl,b1⟩
 have hS1:=hS.next b1
 obtain⟨⟨o0,o1,o2,o3⟩,p0,p1,p2,p3⟩:=adr.cells_four hS1.res
 go_wp2_with fail
 exact bodyPost_ret (v:=.tuple #[RV q.1,.bool q.2]) (by simp [results,Tryz.results95,go_sem,o0,o1,o2,o3]) rfl ⟨rfl,hS1.below.trans (adr.below4 (by omega))⟩
set_option maxRecDepth 100000 in
set_option maxHeartbeats 4000000 in
theorem ca_col (r:Rf) (d:Int) (w:World) (hk:isK r) (hd:-99≤d∧d≤99) :
  Calls Tryz.prog 98 #[RV r,.int .i64 d] w fun e w'=>e=.returned (.tuple #[RV (caR d 0 r).1,.bool (caR d 0 r).2])∧Below w.heap.size w w':=by
 have HC:Hid (∀ wx,Calls Tryz.prog 96 #[RV r,.int .i64 d,.int .i64 0] wx fun e w'=>e=.returned (.tuple #[RV (caR d 0 r).1,.bool (caR d 0 r).2])∧Below wx.heap.size wx w'):=fun wx=>carry_any r d 0 wx hk (by omega) (by omega)
 obtain⟨q,hq⟩:∃ q,caR d 0 r=q:=⟨_,rfl⟩
 rw [hq] at HC ⊢
 clear hq hk hd
 have hS:=adr.SS.start w r.c r.r r.fc r.fr
 obtain⟨⟨k0,k1,k2,k3⟩,_⟩:=adr.cells_four hS.own
 go_enter Tryz.func98,Tryz.ntmps98
 go_wp2_with fail
 refine (HC.out _).mono ?_
 rintro e w1 ⟨rfl,b1⟩
 have hS1:=hS.next b1
 obtain⟨⟨o0,o1,o2,o3⟩,p0,p1,p2,p3⟩:=adr.cells_four hS1.res
 go_wp2_with fail
 exact bodyPost_ret (v:=.tuple #[RV q.1,.bool q.2]) (by simp [results,Tryz.results98,go_sem,o0,o1,o2,o3]) rfl ⟨rfl,hS1.below.trans (adr.below4 (by omega))⟩
set_option maxRecDepth 100000 in
set_option maxHeartbeats 4000000 in
theorem in_clo_true (r:Rf) (at' many:Int) (bl ba bm:Nat) (w:World) (hk:isK r) (hm:0≤many∧many≤99) (_hat:1≤at'∧at'≤99) (h1:w.cell? ⟨bl,1,none⟩=some (fv 94 #[])) (h2:w.cell? ⟨bl,2,none⟩=some (fv 95 #[])) (h3:w.cell? ⟨ba,0,none⟩=some (.int .i64 at')) (h4:w.cell? ⟨bm,0,none⟩=some (.int .i64 many)) :
  Calls Tryz.prog 93 #[RV r,ptr bl,ptr ba,ptr bm] w fun e w'=>e=.returned (.tuple #[RV (inR true at' many r).1,.bool (inR true at' many r).2])∧Below w.heap.size w w':=by
 have HO:Hid (∀ wx,Calls Tryz.prog 94 #[RV r] wx fun e w'=>e=.returned (.int .i64 r.r)∧Below wx.heap.size wx w'):=fun wx=>of_row r wx
 have HC:Hid (∀ wx,Calls Tryz.prog 95 #[RV r,.int .i64 many] wx fun e w'=>e=.returned (.tuple #[RV (caR 0 many r).1,.bool (caR 0 many r).2])∧Below wx.heap.size wx w'):=fun wx=>ca_row r many wx hk (by omega)
 have hS:=adr.SS.start w r.c r.r r.fc r.fr
 have c1:=cell_on hS.below (Nat.le_refl _) h1
 have c2:=cell_on hS.below (Nat.le_refl _) h2
 have c3:=cell_on hS.below (Nat.le_refl _) h3
 have c4:=cell_on hS.below (Nat.le_refl _) h4
 have l1:=lt_of_cell h1
 have l3:=lt_of_cell h3
 have l4:=lt_of_cell h4
 by_cases hl:r.r<at'
 ·have HV:Hid (inR true at' many r=(r,true)):=by unfold Hid inR lineR;simp [hl]
  rw [HV.out]
  clear HV hk hm HC h1 h2 h3 h4 c2 c4
  obtain⟨⟨k0,k1,k2,k3⟩,_⟩:=adr.cells_four hS.own
  go_enter Tryz.func93,Tryz.ntmps93
  go_wp2_with fail
  generalize hw0:(w.alloc _).alloc _=wc at *
  clear hw0
  have hSd:adr.SS w r.c r.r r.fc r.fr wc.drew:=⟨hS.own,hS.res,hS.below.drew⟩
  have c1d:wc.drew.cell? ⟨bl,1,none⟩=some (fv 94 #[]):=by simpa using c1
  have c3d:wc.drew.cell? ⟨ba,0,none⟩=some (.int .i64 at'):=by simpa using c3
  go_region_held3 (fun wx=>wx.cell? ⟨w.heap.size,0,none⟩=some (.int .i64 r.c)∧wx.cell? ⟨w.heap.size,1,none⟩=some (.int .i64 r.r)∧wx.cell? ⟨w.heap.size,2,none⟩=some (.bool r.fc)∧wx.cell? ⟨w.heap.size,3,none⟩=some (.bool r.fr)∧wx.cell? ⟨bl,1,none⟩=some (fv 94 #[])∧wx.cell? ⟨ba,0,none⟩=some (.int .i64 at')) (first | go_keep | exact⟨g0,g1,g2,g3,g4,g5⟩) (first | (go_at_call 94;with_reducible refine (HO.out _).mono ?_;rintro e w1 ⟨rfl,b1⟩;have hS1:=hSd.next b1;have⟨⟨g0,g1,g2,g3⟩,_⟩:=adr.cells_four hS1.own;have g4:=cell_on b1 (Nat.le_refl _) c1d;have g5:=cell_on b1 (Nat.le_refl _) c3d;have⟨⟨o0,o1,o2,o3⟩,p0,p1,p2,p3⟩:=adr.cells_four hS1.res))
  all_goals
   go_wp2_with fail
   exact bodyPost_ret (v:=.tuple #[RV r,.bool true]) (by simp [results,Tryz.results93,go_sem,o0,o1,o2,o3]) rfl ⟨rfl,hS1.below.trans (adr.below4 (by omega))⟩
 ·have HV:Hid (inR true at' many r=caR 0 many r):=by unfold Hid inR lineR cyR;simp [hl]
  rw [HV.out]
  obtain⟨q,hq⟩:∃ q,caR 0 many r=q:=⟨_,rfl⟩
  rw [hq] at HC ⊢
  clear HV hq hk hm h1 h2 h3 h4
  obtain⟨⟨k0,k1,k2,k3⟩,_⟩:=adr.cells_four hS.own
  go_enter Tryz.func93,Tryz.ntmps93
  go_wp2_with fail
  generalize hw0:(w.alloc _).alloc _=wc at *
  clear hw0
  have hSd:adr.SS w r.c r.r r.fc r.fr wc.drew:=⟨hS.own,hS.res,hS.below.drew⟩
  have c1d:wc.drew.cell? ⟨bl,1,none⟩=some (fv 94 #[]):=by simpa using c1
  have c3d:wc.drew.cell? ⟨ba,0,none⟩=some (.int .i64 at'):=by simpa using c3
  have c2d:wc.drew.cell? ⟨bl,2,none⟩=some (fv 95 #[]):=by simpa using c2
  have c4d:wc.drew.cell? ⟨bm,0,none⟩=some (.int .i64 many):=by simpa using c4
  go_region_held3 (fun wx=>wx.cell? ⟨w.heap.size,0,none⟩=some (.int .i64 r.c)∧wx.cell? ⟨w.heap.size,1,none⟩=some (.int .i64 r.r)∧wx.cell? ⟨w.heap.size,2,none⟩=some (.bool r.fc)∧wx.cell? ⟨w.heap.size,3,none⟩=some (.bool r.fr)∧wx.cell? ⟨bl,1,none⟩=some (fv 94 #[])∧wx.cell? ⟨ba,0,none⟩=some (.int .i64 at')) (first | go_keep | exact⟨g0,g1,g2,g3,g4,g5⟩) (first | (go_at_call 94;with_reducible refine (HO.out _).mono ?_;rintro e w1 ⟨rfl,b1⟩;have hS1:=hSd.next b1;have⟨⟨g0,g1,g2,g3⟩,_⟩:=adr.cells_four hS1.own;have g4:=cell_on b1 (Nat.le_refl _) c1d;have g5:=cell_on b1 (Nat.le_refl _) c3d;have g6:=cell_on b1 (Nat.le_refl _) c2d;have g7:=cell_on b1 (Nat.le_refl _) c4d))
  all_goals
   go_wp2_with fail
   refine (HC.out _).mono ?_
   rintro e w2 ⟨rfl,b2⟩
   have hS2:=hS1.next b2
   obtain⟨⟨o0,o1,o2,o3⟩,p0,p1,p2,p3⟩:=adr.cells_four hS2.res
   go_wp2_with fail
   exact bodyPost_ret (v:=.tuple #[RV q.1,.bool q.2]) (by simp [results,Tryz.results93,go_sem,o0,o1,o2,o3]) rfl ⟨rfl,hS2.below.trans (adr.below4 (by omega))⟩
set_option maxRecDepth 100000 in
set_option maxHeartbeats 4000000 in
theorem in_clo_false (r:Rf) (at' many:Int) (bl ba bm:Nat) (w:World) (hk:isK r) (hm:0≤many∧many≤99) (_hat:1≤at'∧at'≤99) (h1:w.cell? ⟨bl,1,none⟩=some (fv 97 #[])) (h2:w.cell? ⟨bl,2,none⟩=some (fv 98 #[])) (h3:w.cell? ⟨ba,0,none⟩=some (.int .i64 at')) (h4:w.cell? ⟨bm,0,none⟩=some (.int .i64 many)) :
  Calls Tryz.prog 93 #[RV r,ptr bl,ptr ba,ptr bm] w fun e w'=>e=.returned (.tuple #[RV (inR false at' many r).1,.bool (inR false at' many r).2])∧Below w.heap.size w w':=by
 have HO:Hid (∀ wx,Calls Tryz.prog 97 #[RV r] wx fun e w'=>e=.returned (.int .i64 r.c)∧Below wx.heap.size wx w'):=fun wx=>of_col r wx
 have HC:Hid (∀ wx,Calls Tryz.prog 98 #[RV r,.int .i64 many] wx fun e w'=>e=.returned (.tuple #[RV (caR many 0 r).1,.bool (caR many 0 r).2])∧Below wx.heap.size wx w'):=fun wx=>ca_col r many wx hk (by omega)
 have hS:=adr.SS.start w r.c r.r r.fc r.fr
 have c1:=cell_on hS.below (Nat.le_refl _) h1
 have c2:=cell_on hS.below (Nat.le_refl _) h2
 have c3:=cell_on hS.below (Nat.le_refl _) h3
 have c4:=cell_on hS.below (Nat.le_refl _) h4
 have l1:=lt_of_cell h1
 have l3:=lt_of_cell h3
 have l4:=lt_of_cell h4
 by_cases hl:r.c<at'
 ·have HV:Hid (inR false at' many r=(r,true)):=by unfold Hid inR lineR;simp [hl]
  rw [HV.out]
  clear HV hk hm HC h1 h2 h3 h4 c2 c4
  obtain⟨⟨k0,k1,k2,k3⟩,_⟩:=adr.cells_four hS.own
  go_enter Tryz.func93,Tryz.ntmps93
  go_wp2_with fail
  generalize hw0:(w.alloc _).alloc _=wc at *
  clear hw0
  have hSd:adr.SS w r.c r.r r.fc r.fr wc.drew:=⟨hS.own,hS.res,hS.below.drew⟩
  have c1d:wc.drew.cell? ⟨bl,1,none⟩=some (fv 97 #[]):=by simpa using c1
  have c3d:wc.drew.cell? ⟨ba,0,none⟩=some (.int .i64 at'):=by simpa using c3
  go_region_held3 (fun wx=>wx.cell? ⟨w.heap.size,0,none⟩=some (.int .i64 r.c)∧wx.cell? ⟨w.heap.size,1,none⟩=some (.int .i64 r.r)∧wx.cell? ⟨w.heap.size,2,none⟩=some (.bool r.fc)∧wx.cell? ⟨w.heap.size,3,none⟩=some (.bool r.fr)∧wx.cell? ⟨bl,1,none⟩=some (fv 97 #[])∧wx.cell? ⟨ba,0,none⟩=some (.int .i64 at')) (first | go_keep | exact⟨g0,g1,g2,g3,g4,g5⟩) (first | (go_at_call 97;with_reducible refine (HO.out _).mono ?_;rintro e w1 ⟨rfl,b1⟩;have hS1:=hSd.next b1;have⟨⟨g0,g1,g2,g3⟩,_⟩:=adr.cells_four hS1.own;have g4:=cell_on b1 (Nat.le_refl _) c1d;have g5:=cell_on b1 (Nat.le_refl _) c3d;have⟨⟨o0,o1,o2,o3⟩,p0,p1,p2,p3⟩:=adr.cells_four hS1.res))
  all_goals
   go_wp2_with fail
   exact bodyPost_ret (v:=.tuple #[RV r,.bool true]) (by simp [results,Tryz.results93,go_sem,o0,o1,o2,o3]) rfl ⟨rfl,hS1.below.trans (adr.below4 (by omega))⟩
 ·have HV:Hid (inR false at' many r=caR many 0 r):=by unfold Hid inR lineR cyR;simp [hl]
  rw [HV.out]
  obtain⟨q,hq⟩:∃ q,caR many 0 r=q:=⟨_,rfl⟩
  rw [hq] at HC ⊢
  clear HV hq hk hm h1 h2 h3 h4
  obtain⟨⟨k0,k1,k2,k3⟩,_⟩:=adr.cells_four hS.own
  go_enter Tryz.func93,Tryz.ntmps93
  go_wp2_with fail
  generalize hw0:(w.alloc _).alloc _=wc at *
  clear hw0
  have hSd:adr.SS w r.c r.r r.fc r.fr wc.drew:=⟨hS.own,hS.res,hS.below.drew⟩
  have c1d:wc.drew.cell? ⟨bl,1,none⟩=some (fv 97 #[]):=by simpa using c1
  have c3d:wc.drew.cell? ⟨ba,0,none⟩=some (.int .i64 at'):=by simpa using c3
  have c2d:wc.drew.cell? ⟨bl,2,none⟩=some (fv 98 #[]):=by simpa using c2
  have c4d:wc.drew.cell? ⟨bm,0,none⟩=some (.int .i64 many):=by simpa using c4
  go_region_held3 (fun wx=>wx.cell? ⟨w.heap.size,0,none⟩=some (.int .i64 r.c)∧wx.cell? ⟨w.heap.size,1,none⟩=some (.int .i64 r.r)∧wx.cell? ⟨w.heap.size,2,none⟩=some (.bool r.fc)∧wx.cell? ⟨w.heap.size,3,none⟩=some (.bool r.fr)∧wx.cell? ⟨bl,1,none⟩=some (fv 97 #[])∧wx.cell? ⟨ba,0,none⟩=some (.int .i64 at')) (first | go_keep | exact⟨g0,g1,g2,g3,g4,g5⟩) (first | (go_at_call 97;with_reducible refine (HO.out _).mono ?_;rintro e w1 ⟨rfl,b1⟩;have hS1:=hSd.next b1;have⟨⟨g0,g1,g2,g3⟩,_⟩:=adr.cells_four hS1.own;have g4:=cell_on b1 (Nat.le_refl _) c1d;have g5:=cell_on b1 (Nat.le_refl _) c3d;have g6:=cell_on b1 (Nat.le_refl _) c2d;have g7:=cell_on b1 (Nat.le_refl _) c4d))
  all_goals
   go_wp2_with fail
   refine (HC.out _).mono ?_
   rintro e w2 ⟨rfl,b2⟩
   have hS2:=hS1.next b2
   obtain⟨⟨o0,o1,o2,o3⟩,p0,p1,p2,p3⟩:=adr.cells_four hS2.res
   go_wp2_with fail
   exact bodyPost_ret (v:=.tuple #[RV q.1,.bool q.2]) (by simp [results,Tryz.results93,go_sem,o0,o1,o2,o3]) rfl ⟨rfl,hS2.below.trans (adr.below4 (by omega))⟩
end Go.Proofs.YtgifkepklnhddaaGreatDoor.fm
