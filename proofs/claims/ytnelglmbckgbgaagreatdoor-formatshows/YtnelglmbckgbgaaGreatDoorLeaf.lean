
/- The small makers and tests of values, and how values are held against each other: what each returns, for every value. Conditions: none, but where a theorem says so. -/
import Derived.Test.YtnelglmbckgbgaaGreatDoorRows
import Derived.WalkKit
import Derived.ProofKit
import Derived.WalkSpells
import Derived.WalkLawsBesides
import Derived.Below
import Derived.Lib.Bytealg
import Derived.Lib.Walk
namespace Go.Proofs.YtnelglmbckgbgaaGreatDoor
open Go.RowKit
abbrev nul : ByteArray := ⟨#[]⟩
/-- A value of package api, as the model has it. -/
abbrev V (k n : Int) (s : ByteArray) : Value := .agg #[.int .i64 k, .int .i64 n, .string s]
abbrev ptr (b : Nat) : Value := .pointer (some ⟨b, 0, none⟩)
theorem bcell {W w1 : World} (hb : Below W.heap.size W w1) : (∀ b o, b < W.heap.size → w1.cell? ⟨b, o, none⟩ = W.cell? ⟨b, o, none⟩) ∧ (∀ b o, b < W.heap.size → w1.frozen? ⟨b, o, none⟩ = W.frozen? ⟨b, o, none⟩) :=
  ⟨fun b o h => hb.cell (p := ⟨b, o, none⟩) h, fun b o h => hb.frozen (p := ⟨b, o, none⟩) h⟩
theorem bnext {B : Nat} {w x y : World} (h : Below B w x) (h2 : Below x.heap.size x y) (hB : B ≤ x.heap.size) : Below B w y := h.trans (h2.mono hB)
theorem bnew {B : Nat} {w x y : World} (h : Below B w x) (h2 : Below x.heap.size x y) (hB : B ≤ x.heap.size) (o : Obj) : Below B w (y.alloc o) := (bnext h h2 hB).alloc (Nat.le_trans hB h2.size) _
/-- A value lies in a block of its own. -/
structure Has (w : World) (b : Nat) (k n : Int) (s : ByteArray) : Prop where
  lt : b < w.heap.size
  c0 : w.cell? ⟨b, 0, none⟩ = some (.int .i64 k)
  c1 : w.cell? ⟨b, 1, none⟩ = some (.int .i64 n)
  c2 : w.cell? ⟨b, 2, none⟩ = some (.string s)
theorem Has.below {w w' : World} {b : Nat} {k n : Int} {s : ByteArray} (h : Has w b k n s) (hb : Below w.heap.size w w') : Has w' b k n s :=
  ⟨Nat.lt_of_lt_of_le h.lt hb.size, by rw [hb.cell h.lt]; exact h.c0, by rw [hb.cell h.lt]; exact h.c1, by rw [hb.cell h.lt]; exact h.c2⟩
theorem Has.alloc {w : World} {b : Nat} {k n : Int} {s : ByteArray} (h : Has w b k n s) (o : Obj) : Has (w.alloc o) b k n s :=
  h.below ((Below.refl _ _).alloc (Nat.le_refl _) _)
theorem Has.drew {w : World} {b : Nat} {k n : Int} {s : ByteArray} (h : Has w b k n s) : Has w.drew b k n s := ⟨h.lt, h.c0, h.c1, h.c2⟩
theorem Has.new (w : World) (k n : Int) (s : ByteArray) (t : TypeId) : Has (w.alloc (.cells #[.int .i64 k, .int .i64 n, .string s] t)) w.heap.size k n s :=
  ⟨by simp, by simp, by simp, by simp⟩
/-! The makers. -/
/-- The number of a truth. -/
def b2n (t : Bool) : Int := if t = true then 1 else 0
/-! Numbers and texts held against each other. -/
def cmpI (a b : Int) : Int := if a < b then -1 else if b < a then 1 else 0
abbrev cmpS (a b : ByteArray) : Int := Lib.compareBytes a.data.toList b.data.toList
/-- How two values stand to each other. -/
def cmpV (k n : Int) (s : ByteArray) (k' n' : Int) (s' : ByteArray) : Int :=
  if cmpI k k' ≠ 0 then cmpI k k' else if k = 2 then cmpS s s' else cmpI n n'
end Go.Proofs.YtnelglmbckgbgaaGreatDoor
