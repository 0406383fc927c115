
/- How a value of package api reads as data, and back. Nothing is walked here. -/
import Derived.Test.YtnelglmbckgbgaaGreatDoorLeaf
import Derived.Test.YtnelglmbckgbgaaGreatDoorTie
import Derived.Test.YtnelglmbckgbgaaGreatDoorCards
import Derived.ProofKit
import Derived.LaidMore
import Derived.OpenShut
import Derived.Stop.Joined
import Derived.SevenTiedAt
import Derived.Lib.SmallJoins
namespace Go.Proofs.YtnelglmbckgbgaaGreatDoor
open Go.ChangeShapes Go.WideShapes Go.ChangeAt Go.RowKit Go.Joins
theorem own : ownKnob Tryz.prog.godebug = none := by kernel_rfl
theorem cells23 : Tryz.prog.cellsOf 23 = 3 := by kernel_rfl
abbrev dV {H : Type} (k n : Int) (s : ByteArray) : DataW H := .agg [.lit (.int .i64 k), .lit (.int .i64 n), .lit (.string s.data.toList)]
set_option maxRecDepth 100000 in
theorem open_val {H : Type} {enc : TypeId × Value → H} {W : World} {r : Reach} {b0 : Nat} {base : Nat} {spare : Nat → Bool} {held : Bool} {v : Value} {d : DataW H} {p : List MemPlace}
    (hv : Value.okWide Tryz.prog W r b0 23 v) (h : DataW.Trod enc Tryz.prog W base spare held 23 v d p) :
    ∃ (k n : Int) (s : ByteArray), v = V k n s ∧ d = dV k n s ∧ p = [] ∧ (Lit.int .i64 k).wf = true ∧ (Lit.int .i64 n).wf = true ∧ s.size ≤ maxLen := by
  obtain ⟨c0, c1, c2, y0, y1, y2, m, rfl, rfl, rfl, h0, h1, h2⟩ := open_agg3 Tryz.underlying23 (by kernel_rfl) cells23 hv h
  obtain ⟨k, e0, rfl, wk⟩ := DataW.trod_int Tryz.underlying3 h0
  obtain ⟨n, e1, rfl, wn⟩ := DataW.trod_int Tryz.underlying3 h1
  obtain ⟨s, e2, rfl, ws⟩ := DataW.trod_string Tryz.underlying9 h2
  simp at e0 e1 e2
  subst e0 e1 e2
  exact ⟨k, n, s, rfl, rfl, rfl, wk, wn, ws⟩
set_option maxRecDepth 100000 in
theorem shut_val {H : Type} {enc : TypeId × Value → H} {w : World} {base : Nat} {spare : Nat → Bool} {held : Bool} {k n : Int} {s : ByteArray} (wk : (Lit.int .i64 k).wf = true) (wn : (Lit.int .i64 n).wf = true) (ws : s.size ≤ maxLen) :
    DataW.Trod enc Tryz.prog w base spare held 23 (V k n s) (dV k n s) [] :=
  shut_agg3 (y0 := (.lit (.int .i64 k), [])) (y1 := (.lit (.int .i64 n), [])) (y2 := (.lit (.string s.data.toList), [])) Tryz.underlying23 (by kernel_rfl) cells23
    ⟨1, by simp [DataW.trod, Tryz.underlying3, wk]⟩ ⟨1, by simp [DataW.trod, Tryz.underlying3, wn]⟩ ⟨1, by simp [DataW.trod, Tryz.underlying9, ws]⟩
end Go.Proofs.YtnelglmbckgbgaaGreatDoor
