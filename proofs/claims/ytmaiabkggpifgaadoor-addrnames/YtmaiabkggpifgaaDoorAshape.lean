/- How a cell, a ref and a box of package api read as data, and back. Nothing is walked here. -/
import Derived.Test.YtmaiabkggpifgaaDoorAleaf
import Derived.Test.YtmaiabkggpifgaaDoorTie
import Derived.Test.YtmaiabkggpifgaaDoorCards
import Derived.ProofKit
import Derived.LaidMore
import Derived.OpenShut
import Derived.Stop.Joined
import Derived.SevenTiedAt
import Derived.Lib.SmallJoins
namespace Go.Proofs.YtmaiabkggpifgaaDoor.adr
open Go.ChangeShapes Go.WideShapes Go.ChangeAt Go.RowKit Go.Joins
theorem own : ownKnob Tryd.prog.godebug = none := by kernel_rfl
theorem cells3 : Tryd.prog.cellsOf 3 = 1 := by kernel_rfl
theorem cells4 : Tryd.prog.cellsOf 4 = 1 := by kernel_rfl
theorem cells23 : Tryd.prog.cellsOf 23 = 2 := by kernel_rfl
theorem cells25 : Tryd.prog.cellsOf 25 = 4 := by kernel_rfl
abbrev dC {H : Type} (c r : Int) : DataW H := .agg [.lit (.int .i64 c), .lit (.int .i64 r)]
abbrev dR {H : Type} (c r : Int) (fc fr : Bool) : DataW H := .agg [dC c r, .lit (.bool fc), .lit (.bool fr)]
section
variable {H : Type} {enc : TypeId × Value → H} {W : World} {base : Nat} {spare : Nat → Bool} {held : Bool}
theorem list2 {α : Type} {l : List α} (h : l.length = 2) : ∃ a b, l = [a, b] := by
  match l, h with
  | [a, b], _ => exact ⟨a, b, rfl⟩
theorem list4 {α : Type} {l : List α} (h : l.length = 4) : ∃ a b c d, l = [a, b, c, d] := by
  match l, h with
  | [a, b, c, d], _ => exact ⟨a, b, c, d, rfl⟩
set_option maxRecDepth 100000 in
theorem cell_trod {fuel : Nat} {cs : List Value} {x : DataW H × List MemPlace} (h : DataW.trod enc Tryd.prog W base spare held fuel 23 cs = some x) :
    ∃ c r : Int, cs = [.int .i64 c, .int .i64 r] ∧ x = (dC c r, []) ∧ (Lit.int .i64 c).wf = true ∧ (Lit.int .i64 r).wf = true := by
  obtain ⟨y0, y1, n, rfl, hl, h0, h1⟩ := trod_struct2 Tryd.underlying23 h
  obtain ⟨a, b, rfl⟩ := list2 (hl.trans cells23)
  simp only [cells3, List.drop_zero, List.drop_succ_cons, List.take_succ_cons, List.take_zero] at h0 h1
  obtain ⟨c, e0, rfl, w0⟩ := DataW.trod_int Tryd.underlying3 h0
  obtain ⟨r, e1, rfl, w1⟩ := DataW.trod_int Tryd.underlying3 h1
  simp at e0 e1
  subst e0 e1
  exact ⟨c, r, rfl, rfl, w0, w1⟩
set_option maxRecDepth 100000 in
theorem cell_mk {c r : Int} (w0 : (Lit.int .i64 c).wf = true) (w1 : (Lit.int .i64 r).wf = true) :
    DataW.trod enc Tryd.prog W base spare held 2 23 [.int .i64 c, .int .i64 r] = some (dC c r, []) := by
  refine trod_struct2_mk (n := 1) (y0 := (.lit (.int .i64 c), [])) (y1 := (.lit (.int .i64 r), [])) Tryd.underlying23 (by rw [cells23]; rfl) ?_ ?_
  · simp only [cells3, List.drop_zero, List.take_succ_cons, List.take_zero]
    simp [DataW.trod, Tryd.underlying3, w0]
  · simp only [cells3, List.drop_zero, List.drop_succ_cons, List.take_succ_cons, List.take_zero]
    simp [DataW.trod, Tryd.underlying3, w1]
set_option maxRecDepth 100000 in
theorem open_cell {r0 : Reach} {b0 : Nat} {v : Value} {d : DataW H} {p : List MemPlace} (hv : Value.okWide Tryd.prog W r0 b0 23 v) (h : DataW.Trod enc Tryd.prog W base spare held 23 v d p) :
    ∃ c r : Int, v = C c r ∧ d = dC c r ∧ p = [] ∧ (Lit.int .i64 c).wf = true ∧ (Lit.int .i64 r).wf = true := by
  obtain ⟨cs, rfl, hsz⟩ := okWide_struct Tryd.underlying23 hv
  obtain ⟨fuel, hf⟩ := h
  obtain ⟨c, r, e, hx, w0, w1⟩ := cell_trod hf
  obtain ⟨l⟩ := cs
  simp only [Value.cells, Prod.mk.injEq] at e hx
  have e' : l = [.int .i64 c, .int .i64 r] := by simpa using e
  subst e'
  exact ⟨c, r, rfl, hx.1, hx.2, w0, w1⟩
set_option maxRecDepth 100000 in
theorem shut_cell {c r : Int} (w0 : (Lit.int .i64 c).wf = true) (w1 : (Lit.int .i64 r).wf = true) : DataW.Trod enc Tryd.prog W base spare held 23 (C c r) (dC c r) [] :=
  ⟨2, by simpa [Value.cells] using cell_mk w0 w1⟩
set_option maxRecDepth 100000 in
theorem open_ref {r0 : Reach} {b0 : Nat} {v : Value} {d : DataW H} {p : List MemPlace} (hv : Value.okWide Tryd.prog W r0 b0 25 v) (h : DataW.Trod enc Tryd.prog W base spare held 25 v d p) :
    ∃ (c r : Int) (fc fr : Bool), v = R c r fc fr ∧ d = dR c r fc fr ∧ p = [] ∧ (Lit.int .i64 c).wf = true ∧ (Lit.int .i64 r).wf = true := by
  obtain ⟨cs, rfl, hsz⟩ := okWide_struct Tryd.underlying25 hv
  obtain ⟨fuel, hf⟩ := h
  obtain ⟨y0, y1, y2, n, hx, hl, h0, h1, h2⟩ := Go.Deep.trod_struct3 Tryd.underlying25 hf
  obtain ⟨l⟩ := cs
  simp only [Value.cells] at hl h0 h1 h2
  obtain ⟨a0, a1, a2, a3, rfl⟩ := list4 (show l.length = 4 from by simpa [cells25] using hl)
  simp only [cells23, cells4, List.drop_zero, List.drop_succ_cons, List.take_succ_cons, List.take_zero] at h0 h1 h2
  obtain ⟨c, r, e0, rfl, w0, w1⟩ := cell_trod h0
  obtain ⟨fc, e1, rfl⟩ := DataW.trod_bool Tryd.underlying4 h1
  obtain ⟨fr, e2, rfl⟩ := DataW.trod_bool Tryd.underlying4 h2
  simp at e0 e1 e2
  obtain ⟨rfl, rfl⟩ := e0
  subst e1 e2
  simp only [Prod.mk.injEq] at hx
  exact ⟨c, r, fc, fr, rfl, hx.1, hx.2, w0, w1⟩
set_option maxRecDepth 100000 in
theorem shut_ref {c r : Int} {fc fr : Bool} (w0 : (Lit.int .i64 c).wf = true) (w1 : (Lit.int .i64 r).wf = true) : DataW.Trod enc Tryd.prog W base spare held 25 (R c r fc fr) (dR c r fc fr) [] := by
  have ts := Go.Deep.trod_struct3_mk (enc := enc) (P := Tryd.prog) (w := W) (base := base) (spare := spare) (held := held) (n := 2) (cs := [.int .i64 c, .int .i64 r, .bool fc, .bool fr]) (y0 := (dC c r, [])) (y1 := (.lit (.bool fc), [])) (y2 := (.lit (.bool fr), [])) Tryd.underlying25 (by rw [cells25]; rfl)
    (by simp only [cells23, List.drop_zero, List.take_succ_cons, List.take_zero]; exact cell_mk w0 w1)
    (by simp only [cells4, List.drop_zero, List.drop_succ_cons, List.take_succ_cons, List.take_zero]; simp [DataW.trod, Tryd.underlying4])
    (by simp only [cells4, List.drop_zero, List.drop_succ_cons, List.take_succ_cons, List.take_zero]; simp [DataW.trod, Tryd.underlying4])
  exact ⟨3, by simpa [Value.cells] using ts⟩
theorem cells43 : Tryd.prog.cellsOf 43 = 4 := by kernel_rfl
/-- A box, as the model has it, and as data. -/
abbrev X (a b c d : Int) : Value := .agg #[.int .i64 a, .int .i64 b, .int .i64 c, .int .i64 d]
abbrev dX {H : Type} (a b c d : Int) : DataW H := .agg [dC a b, dC c d]
set_option maxRecDepth 100000 in
theorem open_box {r0 : Reach} {b0 : Nat} {v : Value} {d : DataW H} {p : List MemPlace} (hv : Value.okWide Tryd.prog W r0 b0 43 v) (h : DataW.Trod enc Tryd.prog W base spare held 43 v d p) :
    ∃ c r c' r' : Int, v = X c r c' r' ∧ d = dX c r c' r' ∧ p = [] ∧ ((Lit.int .i64 c).wf = true ∧ (Lit.int .i64 r).wf = true) ∧ (Lit.int .i64 c').wf = true ∧ (Lit.int .i64 r').wf = true := by
  obtain ⟨cs, rfl, hsz⟩ := okWide_struct Tryd.underlying43 hv
  obtain ⟨fuel, hf⟩ := h
  obtain ⟨y0, y1, n, hx, hl, h0, h1⟩ := trod_struct2 Tryd.underlying43 hf
  obtain ⟨l⟩ := cs
  simp only [Value.cells] at hl h0 h1
  obtain ⟨a0, a1, a2, a3, rfl⟩ := list4 (show l.length = 4 from by simpa [cells43] using hl)
  simp only [cells23, List.drop_zero, List.drop_succ_cons, List.take_succ_cons, List.take_zero] at h0 h1
  obtain ⟨c, r, e0, rfl, w0, w1⟩ := cell_trod h0
  obtain ⟨c', r', e1, rfl, w2, w3⟩ := cell_trod h1
  simp at e0 e1
  obtain ⟨rfl, rfl⟩ := e0
  obtain ⟨rfl, rfl⟩ := e1
  simp only [Prod.mk.injEq] at hx
  exact ⟨c, r, c', r', rfl, hx.1, hx.2, ⟨w0, w1⟩, w2, w3⟩
set_option maxRecDepth 100000 in
theorem shut_box {c r c' r' : Int} (w0 : (Lit.int .i64 c).wf = true) (w1 : (Lit.int .i64 r).wf = true) (w2 : (Lit.int .i64 c').wf = true) (w3 : (Lit.int .i64 r').wf = true) : DataW.Trod enc Tryd.prog W base spare held 43 (X c r c' r') (dX c r c' r') [] := by
  have ts := trod_struct2_mk (enc := enc) (P := Tryd.prog) (w := W) (base := base) (spare := spare) (held := held) (n := 2) (cs := [.int .i64 c, .int .i64 r, .int .i64 c', .int .i64 r']) (y0 := (dC c r, [])) (y1 := (dC c' r', [])) Tryd.underlying43 (by rw [cells43]; rfl)
    (by simp only [cells23, List.drop_zero, List.take_succ_cons, List.take_zero]; exact cell_mk w0 w1)
    (by simp only [cells23, List.drop_zero, List.drop_succ_cons, List.take_succ_cons, List.take_zero]; exact cell_mk w2 w3)
  exact ⟨3, by simpa [Value.cells] using ts⟩
end
end Go.Proofs.YtmaiabkggpifgaaDoor.adr
