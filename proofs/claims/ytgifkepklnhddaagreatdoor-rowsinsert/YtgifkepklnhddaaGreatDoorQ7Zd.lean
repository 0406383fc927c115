import Derived.Test.YtgifkepklnhddaaGreatDoorQ7Zc
namespace Go.Proofs.YtgifkepklnhddaaGreatDoor.ps
open Go.RowKit
open adr (C)
abbrev FV (x:Fl):Value:=.agg #[.int .i64 x.c,.int .i64 x.r,.string x.s]
set_option maxRecDepth 100000 in
set_option maxHeartbeats 1600000 in
theorem less_any (a b c d:Int) (w:World):Calls Tryz.prog 88 #[C a b,C c d] w fun e w'=>e=.returned (.bool (decide (cmpC a b c d<0)))∧Below w.heap.size w w':=by
 have HC:Hid (∀ wx,Calls Tryz.prog 104 #[C a b,C c d] wx fun e w'=>e=.returned (.int .i64 (cmpC a b c d))∧Below wx.heap.size wx w'):=compare_any a b c d
 have hS:=PC.start w a b c d
 obtain⟨y0,y1,y2,y3,-⟩:=hS.opened
 generalize cmpC a b c d=q at *
 have HS:Hid (PC w a b c d ((w.alloc (.cells #[.int .i64 a,.int .i64 b] 32)).alloc (.cells #[.int .i64 c,.int .i64 d] 32))):=hS
 clear hS
 go_enter Tryz.func88,Tryz.ntmps88
 go_wp2_with fail
 refine (HC.out _).mono ?_
 rintro e w1 ⟨rfl,hb1⟩
 have HK:Hid (PC w a b c d w1):=HS.out.next hb1
 clear y0 y1 y2 y3 hb1 HS
 go_wp2_with fail
 go_ret
 exact⟨rfl,HK.out.below⟩
theorem cells2 {W:World} {b:Nat} {a0 a1:Value} {t:TypeId} (h:W.heap[b]?=some (.cells #[a0,a1] t (0,0))):W.cell? ⟨b,0,none⟩=some a0∧W.cell? ⟨b,1,none⟩=some a1:=by
 constructor<;>simp [World.cell?,h]
theorem cells3 {W:World} {b:Nat} {a0 a1 a2:Value} {t:TypeId} (h:W.heap[b]?=some (.cells #[a0,a1,a2] t (0,0))):W.cell? ⟨b,0,none⟩=some a0∧W.cell? ⟨b,1,none⟩=some a1∧W.cell? ⟨b,2,none⟩=some a2:=by
 refine⟨?_,?_,?_⟩<;>simp [World.cell?,h]
end Go.Proofs.YtgifkepklnhddaaGreatDoor.ps
