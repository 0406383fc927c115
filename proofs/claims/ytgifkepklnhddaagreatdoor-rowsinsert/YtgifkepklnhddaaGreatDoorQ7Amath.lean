import Derived.Test.YtgifkepklnhddaaGreatDoorQ7Arow
import Derived.Lib.SmallJoins
import Derived.Deep.RegionHeld3
import Derived.Lib.ItoaMem
namespace Go.Proofs.YtgifkepklnhddaaGreatDoor.adr
open Go.RowKit
structure RS (w:World) (s:ByteArray) (k:Nat) (c r:Int) (fc fr:Bool) (wx:World):Prop where
 at':At wx (w.heap.size+2) w.heap.size k s
 res:wx.heap[w.heap.size+1]?=some (.cells #[.int .i64 0,.int .i64 0,.bool false,.bool false] 54 (0,0))
 own:wx.heap[w.heap.size+3]?=some (.cells #[.int .i64 c,.int .i64 r,.bool fc,.bool fr] 54 (0,0))
 below:Below w.heap.size w wx
theorem cells_four {w:World} {b:Nat} {a0 a1 a2 a3:Value} {t:TypeId} (h:w.heap[b]?=some (.cells #[a0,a1,a2,a3] t (0,0))) :
  (w.cell? ⟨b,0,none⟩=some a0∧w.cell? ⟨b,1,none⟩=some a1∧w.cell? ⟨b,2,none⟩=some a2∧w.cell? ⟨b,3,none⟩=some a3)∧(w.frozen? ⟨b,0,none⟩=false∧w.frozen? ⟨b,1,none⟩=false∧w.frozen? ⟨b,2,none⟩=false∧w.frozen? ⟨b,3,none⟩=false):=by
 simp [World.cell?,World.frozen?,h]
theorem block_setCell {w:World} {b o:Nat} {cs:Array Value} {u:Value} {t:TypeId} {f:Nat×Nat} (h:w.heap[b]?=some (.cells cs t f)):(w.setCell ⟨b,o,none⟩ u).heap[b]?=some (.cells (cs.setIfInBounds o u) t f):=by
 have hlt:=lt_of_block h
 have h':w.heap[b]=.cells cs t f:=by simpa [Array.getElem?_eq_getElem hlt] using h
 show (w.heap.modify b _)[b]?=_
 rw [Array.getElem?_eq_getElem (by simpa using hlt),Array.getElem_modify_self,h']
 rfl
theorem heap_at (w:World) (o:Obj) (i:Nat) (h:i=w.heap.size):(w.alloc o).heap[i]?=some o:=by subst h;exact heap_alloc_new w o
theorem four (w:World) (A B C D:Obj):(((((w.alloc A).alloc B).alloc C).alloc D).heap[w.heap.size]?=some A∧((((w.alloc A).alloc B).alloc C).alloc D).heap[w.heap.size+1]?=some B)∧((((w.alloc A).alloc B).alloc C).alloc D).heap[w.heap.size+2]?=some C∧((((w.alloc A).alloc B).alloc C).alloc D).heap[w.heap.size+3]?=some D:=by
 refine⟨⟨?_,?_⟩,?_,?_⟩
 ·rw [Below.heap_alloc _ _ _ (by simp;omega),Below.heap_alloc _ _ _ (by simp;omega),Below.heap_alloc _ _ _ (by simp),heap_at _ _ _ rfl]
 ·rw [Below.heap_alloc _ _ _ (by simp),Below.heap_alloc _ _ _ (by simp),heap_at _ _ _ (by simp)]
 ·rw [Below.heap_alloc _ _ _ (by simp),heap_at _ _ _ (by simp)]
 ·rw [heap_at _ _ _ (by simp)]
theorem RS.start (w:World) (s:ByteArray):RS w s 0 0 0 false false ((((w.alloc (.cells #[.string s] 9)).alloc (.cells #[.int .i64 0,.int .i64 0,.bool false,.bool false] 54)).alloc (.cells #[.int .i64 0] 3)).alloc (.cells #[.int .i64 0,.int .i64 0,.bool false,.bool false] 54)):=by
 obtain⟨⟨h0,h1⟩,h2,h3⟩:=four w (.cells #[.string s] 9) (.cells #[.int .i64 0,.int .i64 0,.bool false,.bool false] 54) (.cells #[.int .i64 0] 3) (.cells #[.int .i64 0,.int .i64 0,.bool false,.bool false] 54)
 exact⟨⟨h2,h0⟩,h1,h3,((((Below.refl _ _).alloc (Nat.le_refl _) _).alloc (by simp) _).alloc (by simp;omega) _).alloc (by simp;omega) _⟩
section
variable {w wx:World} {s:ByteArray} {k:Nat} {c r:Int} {fc fr:Bool}
theorem RS.lt (h:RS w s k c r fc fr wx):w.heap.size+3<wx.heap.size:=lt_of_block h.own
theorem RS.next {wy:World} (h:RS w s k c r fc fr wx) (hb:Below wx.heap.size wx wy):RS w s k c r fc fr wy:=by
 have hl:=h.lt
 refine⟨⟨?_,?_⟩,?_,?_,bnext h.below hb h.below.size⟩
 ·rw [hb.block _ (by omega)];exact h.at'.a
 ·rw [hb.block _ (by omega)];exact h.at'.t
 ·rw [hb.block _ (by omega)];exact h.res
 ·rw [hb.block _ (by omega)];exact h.own
theorem RS.fixed {wy:World} {k':Nat} (h:RS w s k c r fc fr wx) (hA:At wy (w.heap.size+2) w.heap.size k' s) (hB:∀ B,B≤w.heap.size+2→Below B wx wy) (hoth:∀ b,b≠w.heap.size+2→wy.heap[b]?=wx.heap[b]?):RS w s k' c r fc fr wy :=
 ⟨hA,by rw [hoth _ (by omega)];exact h.res,by rw [hoth _ (by omega)];exact h.own,h.below.trans (hB _ (by omega))⟩
theorem RS.set (h:RS w s k c r fc fr wx) (o:Nat) (u:Value) {c' r':Int} {fc' fr':Bool} (he:(#[.int .i64 c,.int .i64 r,.bool fc,.bool fr]:Array Value).setIfInBounds o u=#[.int .i64 c',.int .i64 r',.bool fc',.bool fr']) :
  RS w s k c' r' fc' fr' (wx.setCell ⟨w.heap.size+3,o,none⟩ u) :=
 ⟨⟨by rw [Below.heap_setCell _ _ _ _ (by simp)];exact h.at'.a,by rw [Below.heap_setCell _ _ _ _ (by simp)];exact h.at'.t⟩,by rw [Below.heap_setCell _ _ _ _ (by simp)];exact h.res,by rw [block_setCell h.own,he],h.below.setCell (by simp) _⟩
theorem RS.setAt (h:RS w s k c r fc fr wx) (k':Nat):RS w s k' c r fc fr (wx.setCell ⟨w.heap.size+2,0,none⟩ (.int .i64 k')) :=
 ⟨⟨one_setCell h.at'.a,by rw [Below.heap_setCell _ _ _ _ (by simp)];exact h.at'.t⟩,by rw [Below.heap_setCell _ _ _ _ (by simp)];exact h.res,by rw [Below.heap_setCell _ _ _ _ (by simp)];exact h.own,h.below.setCell (by simp) _⟩
theorem RS.drew (h:RS w s k c r fc fr wx):RS w s k c r fc fr wx.drew:=⟨⟨h.at'.a,h.at'.t⟩,h.res,h.own,h.below.drew⟩
theorem RS.cells (h:RS w s k c r fc fr wx):(wx.cell? ⟨w.heap.size+2,0,none⟩=some (.int .i64 k)∧wx.cell? ⟨w.heap.size,0,none⟩=some (.string s))∧(wx.frozen? ⟨w.heap.size+2,0,none⟩=false) :=
 ⟨⟨cell_of_one h.at'.a,cell_of_one h.at'.t⟩,free_of_one h.at'.a⟩
end
theorem b2N_le (s:ByteArray) (k:Nat) (hk:k≤s.size):k+b2N (isD s k)≤s.size:=by
 unfold isD b2N
 split
 ·split<;>omega
 ·simp;omega
set_option maxRecDepth 100000 in
set_option maxHeartbeats 4000000 in
theorem readRef_short (s:ByteArray) (w:World) (hs:s.size≤140737488355328) (h:¬ b2N (isD s 0)<s.size) :
  Calls Tryz.prog 264 #[.string s] w fun e w'=>e=.returned (.tuple #[R 0 0 false false,.bool false])∧Below w.heap.size w w':=by
 have hle:=b2N_le s 0 (Nat.zero_le _)
 have HH:Hid (b2N (isD s 0)=s.size):=by unfold Hid;omega
 clear h hle
 go_enter Tryz.func264,Tryz.ntmps264
 go_upto_region 3 with fail
 go_cut [6] (fun s6 wx=>s6=ptr (w.heap.size+3)∧RS w s 0 0 0 false false wx)
 case first =>
  go_wp2_with fail
  go_meet
  case rel=>exact⟨rfl,RS.start w s⟩
 case rest =>
 obtain⟨rfl,hS⟩:=hcut
 go_upto_region 4 with fail
 go_cut [] (fun wx=>RS w s (b2N (isD s 0)) 0 0 (isD s 0) false wx)
 case first =>
  go_wp2_with fail
  refine (fixed_any _ _ 0 s _ (Nat.zero_le _) hs hS.at').mono ?_
  rintro e w1 ⟨rfl,hA,hB,_,_,hoth⟩
  replace hS:=hS.fixed hA hB hoth
  obtain⟨⟨o0,o1,o2,o3⟩,p0,p1,p2,p3⟩:=cells_four hS.own
  go_wp2_with fail
  go_meet
  case rel =>
   have:=hS.set 2 (.bool (isD s 0)) (c':=0) (r':=0) (fc':=isD s 0) (fr':=false) rfl
   rw [Nat.zero_add] at this
   exact this
 case rest =>
 clear hS
 have hS:=hcut
 clear hcut
 rw [HH.out] at hS
 clear HH
 obtain⟨⟨ca,ct⟩,_⟩:=hS.cells
 obtain⟨⟨o0,o1,o2,o3⟩,p0,p1,p2,p3⟩:=cells_four hS.res
 have hB:=hS.below
 go_wp2_with fail
 exact bodyPost_ret (v:=.tuple #[R 0 0 false false,.bool false]) (by simp [results,Tryz.results264,go_sem,o0,o1,o2,o3]) rfl ⟨rfl,by (repeat (first | exact Below.refl _ _ | assumption | (refine Below.setCell ?_ (by first | omega | (simp<;>omega)) _) | (refine Below.alloc ?_ (by first | omega | (simp<;>omega)) _) | (refine Below.drew ?_)))⟩
def rowAt (s:ByteArray) (k:Nat):Int:=((rowAcc 0 (s.data.toList.drop k):Nat):Int)
theorem take_all (s:ByteArray) (k:Nat):List.take (s.size - k) (List.drop k s.data.toList)=List.drop k s.data.toList:=List.take_of_length_le (by simp)
theorem set4 {w:World} {b:Nat} {a0 a1 a2 a3 u0 u1 u2 u3:Value} {t:TypeId} (h:w.heap[b]?=some (.cells #[a0,a1,a2,a3] t (0,0))) :
  ((((w.setCell ⟨b,0,none⟩ u0).setCell ⟨b,1,none⟩ u1).setCell ⟨b,2,none⟩ u2).setCell ⟨b,3,none⟩ u3).heap[b]?=some (.cells #[u0,u1,u2,u3] t (0,0)):=by
 rw [block_setCell (block_setCell (block_setCell (block_setCell h)))]
 rfl
theorem below4 {w:World} {b B:Nat} (hB:B≤b) {u0 u1 u2 u3:Value}:Below B w ((((w.setCell ⟨b,0,none⟩ u0).setCell ⟨b,1,none⟩ u1).setCell ⟨b,2,none⟩ u2).setCell ⟨b,3,none⟩ u3) :=
 ((((Below.refl _ _).setCell hB _).setCell hB _).setCell hB _).setCell hB _
set_option maxRecDepth 100000 in
set_option maxHeartbeats 8000000 in
theorem readRef_long (s:ByteArray) (w:World) (hs:s.size≤140737488355328) (k1:Nat) (hk1:b2N (isD s 0)=k1) (h:k1<s.size) (k3:Nat) (hk3:k1+1+b2N (isD s (k1+1))=k3) (c r:Int) (fc fr:Bool) (hc:(s[k1].toNat:Int) - 64=c) (hr:rowAt s k3=r) (hfc:isD s 0=fc) (hfr:isD s (k1+1)=fr) :
  Calls Tryz.prog 264 #[.string s] w fun e w'=>e=.returned (.tuple #[R c r fc fr,.bool (isC c r)])∧Below w.heap.size w w':=by
 have hle:=b2N_le s (k1+1) (by omega)
 rw [hk3] at hle
 have H1:Hid (b2N (isD s 0)=k1):=hk1
 have H3:Hid (k1+1+b2N (isD s (k1+1))=k3):=hk3
 have HC:Hid ((s[k1].toNat:Int) - 64=c):=hc
 have HR:Hid (rowAt s k3=r):=hr
 have HF:Hid (isD s 0=fc):=hfc
 have HG:Hid (isD s (k1+1)=fr):=hfr
 clear hk1 hk3 hc hr hfc hfr
 go_enter Tryz.func264,Tryz.ntmps264
 go_upto_region 3 with fail
 go_cut [6] (fun s6 wx=>s6=ptr (w.heap.size+3)∧RS w s 0 0 0 false false wx)
 case first =>
  go_wp2_with fail
  go_meet
  case rel=>exact⟨rfl,RS.start w s⟩
 case rest =>
 obtain⟨rfl,hS⟩:=hcut
 go_upto_region 4 with fail
 go_cut [] (fun wx=>RS w s k1 0 0 fc false wx)
 case first =>
  go_wp2_with fail
  refine (fixed_any _ _ 0 s _ (Nat.zero_le _) hs hS.at').mono ?_
  rintro e w1 ⟨rfl,hA,hB,_,_,hoth⟩
  replace hS:=hS.fixed hA hB hoth
  obtain⟨⟨o0,o1,o2,o3⟩,p0,p1,p2,p3⟩:=cells_four hS.own
  go_wp2_with fail
  go_meet
  case rel =>
   have:=hS.set 2 (.bool (isD s 0)) (c':=0) (r':=0) (fc':=isD s 0) (fr':=false) rfl
   rw [Nat.zero_add,H1.out] at this
   rw [HF.out] at this ⊢
   exact this
 case rest =>
 clear hS
 have hS:=hcut
 clear hcut
 have hbl:=byte_lt s[k1]
 obtain⟨⟨ca,ct⟩,fa⟩:=hS.cells
 go_upto_region 7 with fail
 go_cut [] (fun wx=>RS w s k1 c 0 fc false wx)
 case first =>
  obtain⟨⟨o0,o1,o2,o3⟩,p0,p1,p2,p3⟩:=cells_four hS.own
  go_wp2_with fail
  go_meet
  case rel=>exact hS.set 0 _ (by rw [show (s[k1].toNat:Int) - 65+1=c from by have:=HC.out;omega];rfl)
 case rest =>
 clear hS ca ct fa
 have hS:=hcut
 clear hcut
 go_upto_region 8 with fail
 go_cut [] (fun wx=>RS w s (k1+1) c 0 fc false wx)
 case first =>
  obtain⟨⟨ca,ct⟩,fa⟩:=hS.cells
  go_wp2_with fail
  go_meet
  case rel=>exact hS.setAt (k1+1)
 case rest =>
 clear hS
 have hS:=hcut
 clear hcut
 go_upto_region 9 with fail
 go_cut [] (fun wx=>RS w s k3 c 0 fc fr wx)
 case first =>
  go_wp2_with fail
  refine (fixed_any _ _ (k1+1) s _ (by omega) hs hS.at').mono ?_
  rintro e w1 ⟨rfl,hA,hB,_,_,hoth⟩
  replace hS:=hS.fixed hA hB hoth
  obtain⟨⟨o0,o1,o2,o3⟩,p0,p1,p2,p3⟩:=cells_four hS.own
  go_wp2_with fail
  go_meet
  case rel =>
   have:=hS.set 3 (.bool (isD s (k1+1))) (c':=c) (r':=0) (fc':=fc) (fr':=isD s (k1+1)) rfl
   rw [H3.out] at this
   rw [HG.out] at this ⊢
   exact this
 case rest =>
 clear hS H3 H1
 have hS:=hcut
 clear hcut
 clear hbl
 go_upto_region 10 with fail
 go_cut [] (fun wx=>RS w s k3 c r fc fr wx)
 case first =>
  obtain⟨⟨ca,ct⟩,fa⟩:=hS.cells
  go_wp2_with fail
  refine (readRow_any _ _ (by rw [ByteArray.size_extract];omega)).mono ?_
  rintro e w1 ⟨rfl,rfl⟩
  have hb:Below wc.heap.size wc (Lib.bytesWorld wc 5 (s.extract k3 s.size)):=Joins.below_bytesWorld _ _ _ _ (Nat.le_refl _)
  generalize Lib.bytesWorld wc 5 (s.extract k3 s.size)=w2 at *
  replace hS:=hS.next hb
  obtain⟨⟨o0,o1,o2,o3⟩,p0,p1,p2,p3⟩:=cells_four hS.own
  go_wp2_with fail
  go_meet
  case rel =>
   rw [take_all]
   exact hS.set 1 _ (by rw [show ((rowAcc 0 (List.drop k3 s.data.toList):Nat):Int)=r from HR.out];rfl)
 case rest =>
 clear hS
 have hS:=hcut
 clear hcut
 go_upto_region 11 with fail
 obtain⟨⟨o0,o1,o2,o3⟩,p0,p1,p2,p3⟩:=cells_four hS.own
 obtain⟨⟨r0,r1,r2,r3⟩,f0,f1,f2,f3⟩:=cells_four hS.res
 go_region_with (go_at_call 90;refine (isCell_any _ _ _).mono ?_;rintro e w1 ⟨rfl,b1⟩;have hS1:=hS.drew.next b1;have hc1:=cells_four hS1.own;have hd1:=cells_four hS1.res;obtain⟨⟨x0,x1,x2,x3⟩,y0,y1,y2,y3⟩:=hc1;obtain⟨⟨z0,z1,z2,z3⟩,g0,g1,g2,g3⟩:=hd1)
 all_goals
  go_wp2_with fail
  have hB1:=hS1.below
  exact bodyPost_ret (v:=.tuple #[R c r fc fr,.bool (isC c r)]) (by simp [results,Tryz.results264,go_sem,z0,z1,z2,z3]) rfl ⟨rfl,by (repeat (first | exact Below.refl _ _ | assumption | (refine Below.setCell ?_ (by first | omega | (simp<;>omega)) _) | (refine Below.alloc ?_ (by first | omega | (simp<;>omega)) _) | (refine Below.drew ?_)))⟩
end Go.Proofs.YtgifkepklnhddaaGreatDoor.adr
namespace Go.Proofs.YtgifkepklnhddaaGreatDoor.adr
open Go.RowKit
structure Rd where
 c:Int
 r:Int
 fc:Bool
 fr:Bool
 ok:Bool
def rdR (s:ByteArray):Rd :=
 if h:b2N (isD s 0)<s.size then
  if isC ((s[b2N (isD s 0)].toNat:Int) - 64) (rowAt s (b2N (isD s 0)+1+b2N (isD s (b2N (isD s 0)+1))))=true then ⟨(s[b2N (isD s 0)].toNat:Int) - 64,rowAt s (b2N (isD s 0)+1+b2N (isD s (b2N (isD s 0)+1))),isD s 0,isD s (b2N (isD s 0)+1),true⟩
  else ⟨0,0,false,false,false⟩
 else ⟨0,0,false,false,false⟩
theorem readRef_any (s:ByteArray) (w:World) (hs:s.size≤140737488355328) :
  Calls Tryz.prog 264 #[.string s] w fun e w'=>(∃ c r fc fr,e=.returned (.tuple #[R c r fc fr,.bool (rdR s).ok])∧((rdR s).ok=true→rdR s=⟨c,r,fc,fr,true⟩))∧Below w.heap.size w w':=by
 by_cases h:b2N (isD s 0)<s.size
 ·refine (readRef_long s w hs _ rfl h _ rfl _ _ _ _ rfl rfl rfl rfl).mono ?_
  rintro e w' ⟨rfl,hb⟩
  refine⟨⟨_,_,_,_,congrArg Ending.returned (congrArg Value.tuple (congrArg (fun x=>#[R _ _ _ _,Value.bool x]) ?_)),?_⟩,hb⟩
  ·unfold rdR
   rw [dif_pos h]
   split<;>rename_i q
   ·rw [q]
   ·rw [Bool.not_eq_true] at q;rw [q]
  ·unfold rdR
   rw [dif_pos h]
   split<;>rename_i q
   ·exact fun _=>rfl
   ·intro a;cases a
 ·refine (readRef_short s w hs h).mono ?_
  rintro e w' ⟨rfl,hb⟩
  refine⟨⟨_,_,_,_,congrArg Ending.returned (congrArg Value.tuple (congrArg (fun x=>#[R _ _ _ _,Value.bool x]) ?_)),?_⟩,hb⟩
  ·unfold rdR
   rw [dif_neg h]
  ·unfold rdR
   rw [dif_neg h]
   intro a;cases a
theorem rdR_no {s:ByteArray} (h:(rdR s).ok=false):rdR s=⟨0,0,false,false,false⟩:=by
 unfold rdR at h ⊢
 split at h
 ·split at h
  ·cases h
  ·rename_i a b;rw [dif_pos a,if_neg b]
 ·rename_i a;rw [dif_neg a]
def ckx (t:Bool):Value:=if t=true then .nilIface else .iface 100 (.int .i64 2)
set_option maxHeartbeats 4000000 in
theorem ref_any (s:ByteArray) (w:World) (hs:s.size≤140737488355328) :
  Calls Tryz.prog 252 #[.string s] w fun e w'=>e=.returned (.tuple #[R (rdR s).c (rdR s).r (rdR s).fc (rdR s).fr,ckx (rdR s).ok])∧Below w.heap.size w w':=by
 go_enter Tryz.func252,Tryz.ntmps252
 go_upto_region 1 with fail
 go_cut [4] (fun s4 wx=>s4=.bool (rdR s).ok∧Below w.heap.size w wx∧∃ c r fc fr,wx.heap[w.heap.size]?=some (.cells #[.int .i64 c,.int .i64 r,.bool fc,.bool fr] 54 (0,0))∧((rdR s).ok=true→rdR s=⟨c,r,fc,fr,true⟩))
 case first =>
  go_wp2_with fail
  refine (readRef_any s _ hs).mono ?_
  rintro e w1 ⟨⟨c,r,fc,fr,rfl,he⟩,b1⟩
  have HE:Hid ((rdR s).ok=true→rdR s=⟨c,r,fc,fr,true⟩):=he
  clear he
  have hblk:w1.heap[w.heap.size]?=some (.cells #[.int .i64 0,.int .i64 0,.bool false,.bool false] 54 (0,0)):=by rw [b1.block w.heap.size (by simp)];exact heap_alloc_new w _
  obtain⟨⟨o0,o1,o2,o3⟩,p0,p1,p2,p3⟩:=cells_four hblk
  have hB:=bnext ((Below.refl w.heap.size w).alloc (Nat.le_refl _) _) b1 (by simp)
  go_wp2_with fail
  go_meet
  case rel=>exact⟨rfl,hB.trans (below4 (Nat.le_refl _)),c,r,fc,fr,set4 hblk,HE.out⟩
 case rest =>
 obtain⟨rfl,hB,c,r,fc,fr,hblk,he⟩:=hcut
 obtain⟨⟨o0,o1,o2,o3⟩,p0,p1,p2,p3⟩:=cells_four hblk
 cases hq:(rdR s).ok
 ·have hz:=rdR_no hq
  have HZ:Hid (rdR s=⟨0,0,false,false,false⟩):=hz
  clear hz hq he
  go_wp2_with fail
  exact bodyPost_ret (v:=.tuple #[R 0 0 false false,.iface 100 (.int .i64 2)]) (by simp [results,Tryz.results252,go_sem,o0,o1,o2,o3]) rfl ⟨by rw [HZ.out];rfl,by (repeat (first | exact Below.refl _ _ | assumption | (refine Below.setCell ?_ (by first | omega | (simp<;>omega)) _) | (refine Below.alloc ?_ (by first | omega | (simp<;>omega)) _) | (refine Below.drew ?_)))⟩
 ·have hr:=he hq
  have HR:Hid (rdR s=⟨c,r,fc,fr,true⟩):=hr
  clear hr he hq
  go_wp2_with fail
  exact bodyPost_ret (v:=.tuple #[R c r fc fr,.nilIface]) (by simp [results,Tryz.results252,go_sem,o0,o1,o2,o3]) rfl ⟨by rw [HR.out];rfl,by (repeat (first | exact Below.refl _ _ | assumption | (refine Below.setCell ?_ (by first | omega | (simp<;>omega)) _) | (refine Below.alloc ?_ (by first | omega | (simp<;>omega)) _) | (refine Below.drew ?_)))⟩
end Go.Proofs.YtgifkepklnhddaaGreatDoor.adr
namespace Go.Proofs.YtgifkepklnhddaaGreatDoor.adr
open Go.RowKit
theorem dec_small {u:Nat} (h:u<10):Lib.decDigits u=[UInt8.ofNat (48+u)]:=by rw [Lib.decDigits,dif_pos h]
theorem dec_two {u:Nat} (h:¬ u<10) (h2:u<100):Lib.decDigits u=[UInt8.ofNat (48+u / 10),UInt8.ofNat (48+u % 10)]:=by
 rw [Lib.decDigits,dif_neg h,dec_small (by omega)]
 rfl
theorem u8 {n:Nat} (h:n<256):(UInt8.ofNat n).toNat=n:=by rw [UInt8.toNat_ofNat'];omega
end Go.Proofs.YtgifkepklnhddaaGreatDoor.adr
