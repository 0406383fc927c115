
/- Package sort: whether two rows are alike; which rows are like none ahead. Conditions: as each theorem says. -/
import Derived.Test.YtbiikodnfaeceaaGreatDoorSb
import Derived.Shelf.SlSortCmp.QuietGrown
namespace Go.Proofs.YtbiikodnfaeceaaGreatDoor.so
open Go.RowKit Go.Sort Go.Shelf
/-- A row of values, opened in every world that has grown. -/
theorem vm_at {w : World} {g o q : Nat} {v : Nat → Vl} (hg : g < w.heap.size) (h : ∀ i, i < q → w.cell? ⟨g, o + i * 3, none⟩ = some (.int .i64 (v i).k) ∧ w.cell? ⟨g, o + i * 3 + 1, none⟩ = some (.int .i64 (v i).n) ∧ w.cell? ⟨g, o + i * 3 + 2, none⟩ = some (.string (v i).s)) {i : Nat} (hi : i < q) (n : Nat) (os : Array Obj) :
    (grow (w.drewN n) os).cell? ⟨g, o + i * 3, none⟩ = some (.int .i64 (v i).k) ∧ (grow (w.drewN n) os).cell? ⟨g, o + i * 3 + 1, none⟩ = some (.int .i64 (v i).n) ∧ (grow (w.drewN n) os).cell? ⟨g, o + i * 3 + 2, none⟩ = some (.string (v i).s) := by
  have hb : Below w.heap.size w (grow (w.drewN n) os) := Gr.below ⟨n, os, rfl⟩
  rw [hb.cell (p := ⟨g, _, none⟩) hg, hb.cell (p := ⟨g, _, none⟩) hg, hb.cell (p := ⟨g, _, none⟩) hg]
  exact h i hi
/-- Does no column tell two rows apart? -/
def alk (a b : Nat → Vl) (n : Nat) (c : Nat → Int) : Bool := (List.range n).all fun i => (a (c i).toNat).cmp (b (c i).toNat) == 0
theorem alk_true {a b : Nat → Vl} {n : Nat} {c : Nat → Int} : alk a b n c = true ↔ ∀ i, i < n → (a (c i).toNat).cmp (b (c i).toNat) = 0 := by
  unfold alk
  simp
theorem alk_false {a b : Nat → Vl} {n : Nat} {c : Nat → Int} {i : Nat} (hi : i < n) (h : (a (c i).toNat).cmp (b (c i).toNat) ≠ 0) : alk a b n c = false := by
  cases e : alk a b n c with
  | false => rfl
  | true => exact absurd (alk_true.1 e i hi) h
theorem mixed : Tryz.prog.follows Departure.mixedOrders = true := by kernel_rfl
theorem vcmp_gr (x y : Vl) (w : World) : Calls Tryz.prog 41 #[V x.k x.n x.s, V y.k y.n y.s] w fun e w' => e = .returned (.int .i64 (x.cmp y)) ∧ Gr w w' := compare_any _ _ _ _ _ _ _
/-- A slice in a box of its own. -/
abbrev Bx (w : World) (b : Nat) (v : Value) : Prop := w.cell? ⟨b, 0, none⟩ = some v ∧ b < w.heap.size
end Go.Proofs.YtbiikodnfaeceaaGreatDoor.so
