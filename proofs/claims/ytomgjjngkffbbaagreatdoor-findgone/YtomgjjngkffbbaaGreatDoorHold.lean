
/- How the call's own blocks stand. Nothing is walked here. -/
import Derived.Test.YtomgjjngkffbbaaGreatDoorProg
import Derived.WalkKit
import Derived.ProofKit
import Derived.WalkSpells
import Derived.WalkLawsBesides
import Derived.Below
import Derived.Lib.Bytealg
import Derived.Lib.Walk
import Derived.Deep.DeepCutAuto
import Derived.Deep.RegionHeld3
namespace Go.Proofs.YtomgjjngkffbbaaGreatDoor
open Go.RowKit
abbrev nul : ByteArray := ⟨#[]⟩
abbrev ptr (b : Nat) : Value := .pointer (some ⟨b, 0, none⟩)
theorem bcell {W w1 : World} (hb : Below W.heap.size W w1) : (∀ b o, b < W.heap.size → w1.cell? ⟨b, o, none⟩ = W.cell? ⟨b, o, none⟩) ∧ (∀ b o, b < W.heap.size → w1.frozen? ⟨b, o, none⟩ = W.frozen? ⟨b, o, none⟩) :=
  ⟨fun b o h => hb.cell (p := ⟨b, o, none⟩) h, fun b o h => hb.frozen (p := ⟨b, o, none⟩) h⟩
theorem bnext {B : Nat} {w x y : World} (h : Below B w x) (h2 : Below x.heap.size x y) (hB : B ≤ x.heap.size) : Below B w y := h.trans (h2.mono hB)
theorem bnew {B : Nat} {w x y : World} (h : Below B w x) (h2 : Below x.heap.size x y) (hB : B ≤ x.heap.size) (o : Obj) : Below B w (y.alloc o) := (bnext h h2 hB).alloc (Nat.le_trans hB h2.size) _
theorem toList_nil {s : ByteArray} (h : s.toList.isEmpty = true) : s = nul := by
  rw [ByteArray.toList_eq, List.isEmpty_iff] at h
  obtain ⟨⟨l⟩⟩ := s
  simp at h
  subst h
  rfl
/-- A block may be written. -/
structure Mine (w : World) (b : Nat) : Prop where
  lt : b < w.heap.size
  free : ∀ o, w.frozen? ⟨b, o, none⟩ = false
theorem Mine.below {w w' : World} {b : Nat} (h : Mine w b) (hb : Below w.heap.size w w') : Mine w' b :=
  ⟨Nat.lt_of_lt_of_le h.lt hb.size, fun o => by rw [hb.frozen h.lt]; exact h.free o⟩
theorem Mine.alloc {w : World} {b : Nat} (h : Mine w b) (o : Obj) : Mine (w.alloc o) b := h.below ((Below.refl _ _).alloc (Nat.le_refl _) _)
theorem Mine.drew {w : World} {b : Nat} (h : Mine w b) : Mine w.drew b := ⟨h.lt, h.free⟩
theorem Mine.new (w : World) (c : Array Value) (t : TypeId) : Mine (w.alloc (.cells c t)) w.heap.size := ⟨by simp, fun o => by simp [go_sem]⟩
end Go.Proofs.YtomgjjngkffbbaaGreatDoor
