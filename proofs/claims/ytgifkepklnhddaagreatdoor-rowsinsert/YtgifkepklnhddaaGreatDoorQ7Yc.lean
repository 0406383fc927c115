import Derived.Test.YtgifkepklnhddaaGreatDoorQ7Zd
namespace Go.Proofs.YtgifkepklnhddaaGreatDoor.ps
open Go.RowKit
open adr (C isC ckc)
set_option maxHeartbeats 1000000 in
theorem rin_any (c r:Int) (w:World) :
  Calls Tryz.prog 21 #[C c r] w fun e w'=>e=.returned (.bool (isC c r))∧Below w.heap.size w w':=by
 by_cases h1:1≤c
 ·by_cases h2:c≤26
  ·by_cases h3:1≤r
   ·have e1:isC c r=decide (r≤99):=by unfold isC;simp [h1,h2,h3]
    rw [e1]
    clear e1
    go_enter Tryz.func21,Tryz.ntmps21
    go_wp2
    go_ret
    exact⟨by simp,(Below.refl _ _).alloc (Nat.le_refl _) _⟩
   ·have e1:isC c r=false:=by unfold isC;simp [h3]
    rw [e1]
    clear e1
    go_enter Tryz.func21,Tryz.ntmps21
    go_wp2
    go_ret
    exact⟨rfl,(Below.refl _ _).alloc (Nat.le_refl _) _⟩
  ·have e1:isC c r=false:=by unfold isC;simp [h2]
   rw [e1]
   clear e1
   go_enter Tryz.func21,Tryz.ntmps21
   go_wp2
   go_ret
   exact⟨rfl,(Below.refl _ _).alloc (Nat.le_refl _) _⟩
 ·have e1:isC c r=false:=by unfold isC;simp [h1]
  rw [e1]
  clear e1
  go_enter Tryz.func21,Tryz.ntmps21
  go_wp2
  go_ret
  exact⟨rfl,(Below.refl _ _).alloc (Nat.le_refl _) _⟩
set_option maxHeartbeats 1000000 in
theorem rahead_any (a b c d:Int) (w:World) :
  Calls Tryz.prog 47 #[C a b,C c d] w fun e w'=>e=.returned (.bool (decide (cmpC a b c d<0)))∧Below w.heap.size w w':=by
 have hS:=PC.start w a b c d
 have HB:Hid (Below w.heap.size w ((w.alloc (.cells #[.int .i64 a,.int .i64 b] 32)).alloc (.cells #[.int .i64 c,.int .i64 d] 32))):=hS.below
 obtain⟨y0,y1,y2,y3,-⟩:=hS.opened
 clear hS
 by_cases h:b=d
 ·have e1:decide (cmpC a b c d<0)=decide (a<c):=by rw [decide_eq_decide,cmpC_lt];omega
  rw [e1]
  subst h
  clear e1
  go_enter Tryz.func47,Tryz.ntmps47
  go_wp2
  go_ret
  exact⟨rfl,HB.out⟩
 ·have e1:decide (cmpC a b c d<0)=decide (b<d):=by rw [decide_eq_decide,cmpC_lt];omega
  rw [e1]
  clear e1
  go_enter Tryz.func47,Tryz.ntmps47
  go_wp2
  go_ret
  exact⟨rfl,HB.out⟩
def lnO (row:Bool) (c r:Int):Int:=if row=true then r else c
theorem lineOf_any (row:Bool) (c r:Int) (w:World) :
  Calls Tryz.prog 55 #[C c r,.bool row] w fun e w'=>e=.returned (.int .i64 (lnO row c r))∧Below w.heap.size w w':=by
 cases row
 ·go_enter Tryz.func55,Tryz.ntmps55
  go_wp2
  go_ret
  exact⟨rfl,(Below.refl _ _).alloc (Nat.le_refl _) _⟩
 ·go_enter Tryz.func55,Tryz.ntmps55
  go_wp2
  go_ret
  exact⟨rfl,(Below.refl _ _).alloc (Nat.le_refl _) _⟩
def inC (row:Bool) (c l:Int):Int:=if row=true then c else l
def inR (row:Bool) (r l:Int):Int:=if row=true then l else r
set_option maxHeartbeats 1000000 in
theorem inLine_any (row:Bool) (c r l:Int) (w:World) :
  Calls Tryz.prog 56 #[C c r,.bool row,.int .i64 l] w fun e w'=>e=.returned (C (inC row c l) (inR row r l))∧Below w.heap.size w w':=by
 cases row
 ·go_enter Tryz.func56,Tryz.ntmps56
  go_wp2
  refine bodyPost_ret (v:=C l r) (by simp [results,Tryz.results56,go_sem]) rfl ⟨rfl,?_⟩
  exact ((Below.refl _ _).alloc (Nat.le_refl _) _).alloc (by simp) _
 ·go_enter Tryz.func56,Tryz.ntmps56
  go_wp2
  refine bodyPost_ret (v:=C c l) (by simp [results,Tryz.results56,go_sem]) rfl ⟨rfl,?_⟩
  exact ((Below.refl _ _).alloc (Nat.le_refl _) _).alloc (by simp) _
end Go.Proofs.YtgifkepklnhddaaGreatDoor.ps
