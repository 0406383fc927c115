import Derived.Test.YtgifkepklnhddaaGreatDoorProg
import Derived.WalkKit
import Derived.ProofKit
import Derived.WalkSpells
import Derived.WalkLawsBesides
import Derived.Below
import Derived.Lib.Bytealg
import Derived.Lib.Walk
import Derived.Deep.DeepCutAuto
import Derived.Deep.RegionHeld3
namespace Go.Proofs.YtgifkepklnhddaaGreatDoor
open Go.RowKit
abbrev nul:ByteArray:=⟨#[]⟩
abbrev ptr (b:Nat):Value:=.pointer (some ⟨b,0,none⟩)
theorem bnext {B:Nat} {w x y:World} (h:Below B w x) (h2:Below x.heap.size x y) (hB:B≤x.heap.size):Below B w y:=h.trans (h2.mono hB)
theorem toList_nil {s:ByteArray} (h:s.toList.isEmpty=true):s=nul:=by
 rw [ByteArray.toList_eq,List.isEmpty_iff] at h
 obtain⟨⟨l⟩⟩:=s
 simp at h
 subst h
 rfl
structure Mine (w:World) (b:Nat):Prop where
 lt:b<w.heap.size
 free:∀ o,w.frozen? ⟨b,o,none⟩=false
theorem Mine.below {w w':World} {b:Nat} (h:Mine w b) (hb:Below w.heap.size w w'):Mine w' b :=
 ⟨Nat.lt_of_lt_of_le h.lt hb.size,fun o=>by rw [hb.frozen h.lt];exact h.free o⟩
theorem Mine.new (w:World) (c:Array Value) (t:TypeId):Mine (w.alloc (.cells c t)) w.heap.size:=⟨by simp,fun o=>by simp [go_sem]⟩
end Go.Proofs.YtgifkepklnhddaaGreatDoor
