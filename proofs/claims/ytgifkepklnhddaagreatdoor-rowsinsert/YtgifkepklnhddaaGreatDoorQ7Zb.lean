import Derived.Test.YtgifkepklnhddaaGreatDoorQ7Za
import Derived.Test.YtgifkepklnhddaaGreatDoorQ7Arow
import Derived.Test.YtgifkepklnhddaaGreatDoorQ7Fx
import Derived.Deep.RegionHeld3
namespace Go.Proofs.YtgifkepklnhddaaGreatDoor.ps
open Go.RowKit
open adr (C)
def cmpI (a b:Int):Int:=if a<b then -1 else if b<a then 1 else 0
def orI (x y:Int):Int:=if x=0 then y else x
theorem cmpC_or (a b c d:Int):orI (cmpI b d) (cmpI a c)=cmpC a b c d:=by
 unfold orI cmpI cmpC;repeat' split
 all_goals omega
theorem cmpInt_any (a b:Int) (w:World) :
  Calls Tryz.prog 138 #[.int .i64 a,.int .i64 b] w fun e w'=>e=.returned (.int .i64 (cmpI a b))∧w'=w:=by
 by_cases h:a<b
 ·have e1:cmpI a b=-1:=by unfold cmpI;rw [if_pos h]
  rw [e1]
  go_enter Tryz.func138,Tryz.ntmps138
  go_wp2
  go_ret
  exact⟨rfl,rfl⟩
 ·by_cases h2:b<a
  ·have e1:cmpI a b=1:=by unfold cmpI;rw [if_neg h,if_pos h2]
   rw [e1]
   go_enter Tryz.func138,Tryz.ntmps138
   go_wp2
   go_ret
   exact⟨rfl,rfl⟩
  ·have e1:cmpI a b=0:=by unfold cmpI;rw [if_neg h,if_neg h2]
   rw [e1]
   go_enter Tryz.func138,Tryz.ntmps138
   go_wp2
   go_ret
   exact⟨rfl,rfl⟩
set_option maxRecDepth 100000 in
set_option maxHeartbeats 1600000 in
theorem or_any (x y:Int) (g:Nat) (w:World) (h:w.heap[g]?=some (.cells #[.int .i64 x,.int .i64 y] 3 (0,0))) :
  Calls Tryz.prog 137 #[.slice (some ⟨g,0,none⟩) 2 2] w fun e w'=>e=.returned (.int .i64 (orI x y))∧w'=w:=by
 have c0:w.cell? ⟨g,0,none⟩=some (.int .i64 x):=by simp [World.cell?,h]
 have c1:w.cell? ⟨g,1,none⟩=some (.int .i64 y):=by simp [World.cell?,h]
 clear h
 go_enter Tryz.func137,Tryz.ntmps137
 go_wp2_with fail
 go_loopw [8] (fun i wr=>wr=w∧(i=.int .i64 0∨(i=.int .i64 1∧x=0)∨(i=.int .i64 2∧x=0∧y=0))) (fun i _=>2 - (intOf i).toNat)
 case atStart=>exact⟨rfl,.inl rfl⟩
 case round =>
  obtain⟨rfl,rfl | ⟨rfl,hx⟩ | ⟨rfl,hx,hy⟩⟩:=hrel
  ·by_cases hx:x=0
   ·subst hx
    go_wp2_with fail
    exact⟨by simp,by simp [intOf]⟩
   ·have e:orI x y=x:=by unfold orI;rw [if_neg hx]
    go_wp2_with fail
    go_ret
    exact⟨by rw [e];rfl,rfl⟩
  ·by_cases hy:y=0
   ·subst hy
    go_wp2_with fail
    exact⟨by simp [hx],by simp [intOf]⟩
   ·have e:orI x y=y:=by unfold orI;rw [if_pos hx]
    go_wp2_with fail
    go_ret
    exact⟨by rw [e];rfl,rfl⟩
  ·have e:orI x y=0:=by unfold orI;rw [if_pos hx,hy]
   go_wp2_with fail
   go_ret
   exact⟨by rw [e];rfl,rfl⟩
structure PC (w:World) (a b c d:Int) (wx:World):Prop where
 x:wx.heap[w.heap.size]?=some (.cells #[.int .i64 a,.int .i64 b] 32 (0,0))
 y:wx.heap[w.heap.size+1]?=some (.cells #[.int .i64 c,.int .i64 d] 32 (0,0))
 below:Below w.heap.size w wx
theorem PC.start (w:World) (a b c d:Int):PC w a b c d ((w.alloc (.cells #[.int .i64 a,.int .i64 b] 32)).alloc (.cells #[.int .i64 c,.int .i64 d] 32)) :=
 ⟨(Below.heap_alloc _ _ _ (by simp)).trans (heap_alloc_new _ _),by have:=heap_alloc_new (w.alloc (.cells #[.int .i64 a,.int .i64 b] 32)) (.cells #[.int .i64 c,.int .i64 d] 32);simpa using this,((Below.refl _ _).alloc (Nat.le_refl _) _).alloc (by simp) _⟩
theorem PC.next {w:World} {a b c d:Int} {wx wy:World} (h:PC w a b c d wx) (hb:Below wx.heap.size wx wy):PC w a b c d wy:=⟨(hb.block _ (fm.lt_blk h.x)).trans h.x,(hb.block _ (fm.lt_blk h.y)).trans h.y,bnext h.below hb h.below.size⟩
theorem PC.alloc {w:World} {a b c d:Int} {wx:World} (h:PC w a b c d wx) (o:Obj):PC w a b c d (wx.alloc o):=h.next ((Below.refl _ _).alloc (Nat.le_refl _) _)
abbrev PO (w:World) (a b c d:Int) (wx:World):Prop:=wx.cell? ⟨w.heap.size,0,none⟩=some (.int .i64 a)∧wx.cell? ⟨w.heap.size,1,none⟩=some (.int .i64 b)∧wx.cell? ⟨w.heap.size+1,0,none⟩=some (.int .i64 c)∧wx.cell? ⟨w.heap.size+1,1,none⟩=some (.int .i64 d)∧PC w a b c d wx
theorem PC.opened {w:World} {a b c d:Int} {wx:World} (h:PC w a b c d wx):PO w a b c d wx :=
 ⟨by simp [World.cell?,h.x],by simp [World.cell?,h.x],by simp [World.cell?,h.y],by simp [World.cell?,h.y],h⟩
theorem po {w:World} {a b c d:Int} {wx:World} (h:PO w a b c d wx):PC w a b c d wx:=h.2.2.2.2
set_option maxRecDepth 100000 in
set_option maxHeartbeats 4000000 in
theorem compare_any (a b c d:Int) (w:World) :
  Calls Tryz.prog 104 #[C a b,C c d] w fun e w'=>e=.returned (.int .i64 (cmpC a b c d))∧Below w.heap.size w w':=by
 have hS:=PC.start w a b c d
 rw [← cmpC_or]
 have HP:Hid (∀ x y wx,Calls Tryz.prog 138 #[.int .i64 x,.int .i64 y] wx fun e w'=>e=.returned (.int .i64 (cmpI x y))∧Below wx.heap.size wx w'):=fun x y wx=>(cmpInt_any x y wx).mono (fun e w' h=>by obtain⟨rfl,rfl⟩:=h;exact⟨rfl,Below.refl _ _⟩)
 have HO:Hid (∀ (p q:Int) (wx:World),Calls Tryz.prog 137 #[.slice (some ⟨wx.heap.size,0,none⟩) 2 2] (wx.alloc (.cells #[.int .i64 p,.int .i64 q] 3)) fun e w'=>e=.returned (.int .i64 (orI p q))∧Below (wx.alloc (.cells #[.int .i64 p,.int .i64 q] 3)).heap.size (wx.alloc (.cells #[.int .i64 p,.int .i64 q] 3)) w'):=fun p q wx=>(or_any p q wx.heap.size _ (heap_alloc_new _ _)).mono (fun e w' h=>by obtain⟨rfl,rfl⟩:=h;exact⟨rfl,Below.refl _ _⟩)
 go_enter Tryz.func104,Tryz.ntmps104
 go_wp2_with fail
 generalize (w.alloc (.cells #[.int .i64 a,.int .i64 b] 32)).alloc (.cells #[.int .i64 c,.int .i64 d] 32)=W at *
 have h0d:=(hS.next (Below.refl _ _).drew).opened
 obtain⟨y0,y1,y2,y3,-⟩:=hS.opened
 go_region_held3 (fun wx=>PO w a b c d wx) (first | exact h0d | exact ((po (by assumption)).next (by assumption)).opened | exact ((po (by assumption)).alloc _).opened) (first | (go_at_call 138;refine (HP.out _ _ _).mono ?_;rintro e w1 ⟨rfl,hb1⟩) | (go_at_call 137;refine (HO.out _ _ _).mono ?_;rintro e w3 ⟨rfl,hb3⟩;have hk3:=(po (by assumption)).next hb3))
 all_goals
  go_wp2_with fail
  go_ret
  exact⟨rfl,hk3.below⟩
end Go.Proofs.YtgifkepklnhddaaGreatDoor.ps
