import Derived.Test.YtgifkepklnhddaaGreatDoorQ7Amath
import Derived.Deep.RegionHeld3
import Derived.Lib.SmallJoins
namespace Go.Proofs.YtgifkepklnhddaaGreatDoor.adr
open Go.RowKit
structure SS (w:World) (c r:Int) (fc fr:Bool) (wx:World):Prop where
 own:wx.heap[w.heap.size]?=some (.cells #[.int .i64 c,.int .i64 r,.bool fc,.bool fr] 54 (0,0))
 res:wx.heap[w.heap.size+1]?=some (.cells #[.int .i64 0,.int .i64 0,.bool false,.bool false] 54 (0,0))
 below:Below w.heap.size w wx
theorem SS.start (w:World) (c r:Int) (fc fr:Bool):SS w c r fc fr ((w.alloc (.cells #[.int .i64 c,.int .i64 r,.bool fc,.bool fr] 54)).alloc (.cells #[.int .i64 0,.int .i64 0,.bool false,.bool false] 54)) :=
 ⟨by rw [Below.heap_alloc _ _ _ (by simp),heap_at _ _ _ rfl],heap_at _ _ _ (by simp),((Below.refl _ _).alloc (Nat.le_refl _) _).alloc (by simp) _⟩
section
variable {w wx:World} {c r:Int} {fc fr:Bool}
theorem SS.lt (h:SS w c r fc fr wx):w.heap.size+1<wx.heap.size:=lt_of_block h.res
theorem SS.next {wy:World} (h:SS w c r fc fr wx) (hb:Below wx.heap.size wx wy):SS w c r fc fr wy:=by
 have hl:=h.lt
 refine⟨?_,?_,bnext h.below hb h.below.size⟩
 ·rw [hb.block _ (by omega)];exact h.own
 ·rw [hb.block _ (by omega)];exact h.res
end
structure Sh where
 c:Int
 r:Int
 fc:Bool
 fr:Bool
 ok:Bool
end Go.Proofs.YtgifkepklnhddaaGreatDoor.adr
