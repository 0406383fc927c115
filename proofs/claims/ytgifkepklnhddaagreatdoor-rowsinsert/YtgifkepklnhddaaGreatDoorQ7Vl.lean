import Derived.Test.YtgifkepklnhddaaGreatDoorQ7Hold
namespace Go.Proofs.YtgifkepklnhddaaGreatDoor
open Go.RowKit
abbrev V (k n:Int) (s:ByteArray):Value:=.agg #[.int .i64 k,.int .i64 n,.string s]
structure Has (w:World) (b:Nat) (k n:Int) (s:ByteArray):Prop where
 lt:b<w.heap.size
 c0:w.cell? ⟨b,0,none⟩=some (.int .i64 k)
 c1:w.cell? ⟨b,1,none⟩=some (.int .i64 n)
 c2:w.cell? ⟨b,2,none⟩=some (.string s)
theorem Has.below {w w':World} {b:Nat} {k n:Int} {s:ByteArray} (h:Has w b k n s) (hb:Below w.heap.size w w'):Has w' b k n s :=
 ⟨Nat.lt_of_lt_of_le h.lt hb.size,by rw [hb.cell h.lt];exact h.c0,by rw [hb.cell h.lt];exact h.c1,by rw [hb.cell h.lt];exact h.c2⟩
theorem Has.new (w:World) (k n:Int) (s:ByteArray) (t:TypeId):Has (w.alloc (.cells #[.int .i64 k,.int .i64 n,.string s] t)) w.heap.size k n s :=
 ⟨by simp,by simp,by simp,by simp⟩
def b2n (t:Bool):Int:=if t=true then 1 else 0
theorem truth_any (t:Bool) (w:World) :
  Calls Tryz.prog 268 #[.bool t] w fun e w'=>e=.returned (V 3 (b2n t) nul)∧Below w.heap.size w w':=by
 cases t
 ·go_enter Tryz.func268,Tryz.ntmps268
  go_wp2
  exact bodyPost_ret (v:=V 3 0 nul) (by simp [results,Tryz.results268,go_sem]) rfl ⟨rfl,(Below.refl _ _).alloc (Nat.le_refl _) _⟩
 ·go_enter Tryz.func268,Tryz.ntmps268
  go_wp2
  exact bodyPost_ret (v:=V 3 1 nul) (by simp [results,Tryz.results268,go_sem]) rfl ⟨rfl,(Below.refl _ _).alloc (Nat.le_refl _) _⟩
theorem isBadNum_any (n:Int) (w:World) :
  Calls Tryz.prog 245 #[.int .i64 n] w fun e w'=>e=.returned (.bool (decide (1≤n) && decide (n≤6)))∧w'=w:=by
 by_cases h:1≤n
 ·have e1:(decide (1≤n) && decide (n≤6))=decide (n≤6):=by simp [h]
  rw [e1]
  clear e1
  go_enter Tryz.func245,Tryz.ntmps245
  go_wp2
  go_ret
  exact⟨by simp,rfl⟩
 ·have e1:(decide (1≤n) && decide (n≤6))=false:=by simp [h]
  rw [e1]
  clear e1
  go_enter Tryz.func245,Tryz.ntmps245
  go_wp2
  go_ret
  exact⟨rfl,rfl⟩
end Go.Proofs.YtgifkepklnhddaaGreatDoor
