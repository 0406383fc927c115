
/- Proved: the law PickGroups returns true for every table, every list of columns and every column that hold together at most 1048576 values and letters: what Group says is wrong, or the groups, their keys, counts and sums are the document's. Conditions: that bound (the second form's own); the listed package variables start as their initialisers lay them (the card ties them). -/
import Derived.Test.YtbiikodnfaeceaaGreatDoorSa
import Derived.OpenShut
import Derived.Deep.Slices
import Derived.Deep.Strs
import Derived.Lib.SmallJoins
import Derived.Test.YtbiikodnfaeceaaGreatDoorOq
import Derived.ReadAgain
import Derived.ChangeOld
import Derived.Handed
import Derived.Below
import Derived.SizedLaws
import Derived.ProofKit
import Derived.Test.YtbiikodnfaeceaaGreatDoorJt
import Derived.Test.YtbiikodnfaeceaaGreatDoorTie
import Derived.Test.YtbiikodnfaeceaaGreatDoorCards
import Derived.LaidMore
import Derived.Shelf.Vars
import Derived.Lay
import Derived.MakeChecks
import Derived.Deep.DeepHandedRow
import Derived.Deep.DeepWitnessRowRef

/- A table, keys and numbers that were handed in lie in memory as they are read. Nothing is walked here. -/
namespace Go.Proofs.YtbiikodnfaeceaaGreatDoor.so
open Go.ChangeShapes Go.WideShapes Go.ChangeAt Go.RowKit
theorem vcof3 : Tryz.prog.cellsOf 3 = 1 := by kernel_rfl
theorem vcof4 : Tryz.prog.cellsOf 4 = 1 := by kernel_rfl
theorem vcof9 : Tryz.prog.cellsOf 9 = 1 := by kernel_rfl
theorem vcofV : Tryz.prog.cellsOf 36 = 3 := by kernel_rfl
theorem vcofK : Tryz.prog.cellsOf 48 = 2 := by kernel_rfl
theorem vcofR : Tryz.prog.cellsOf 34 = 1 := by kernel_rfl
theorem add_plain (g o k : Nat) : (⟨g, o, none⟩ : Addr).add k = ⟨g, o + k, none⟩ := by
  unfold Addr.add
  by_cases h : k = 0 <;> simp [h]
theorem list3 {α : Type} {l : List α} (h : l.length = 3) : ∃ a b c, l = [a, b, c] := by
  match l, h with
  | [a, b, c], _ => exact ⟨a, b, c, rfl⟩
theorem list2 {α : Type} {l : List α} (h : l.length = 2) : ∃ a b, l = [a, b] := by
  match l, h with
  | [a, b], _ => exact ⟨a, b, rfl⟩
theorem blk_of {W : World} {g o : Nat} {v : Value} (h : W.cell? ⟨g, o, none⟩ = some v) : g < W.heap.size := by
  unfold World.cell? at h
  rcases Nat.lt_or_ge g W.heap.size with h' | h'
  · exact h'
  · rw [Array.getElem?_eq_none h'] at h
    simp at h
instance : Inhabited Vl := ⟨⟨0, 0, nul⟩⟩
section
variable {H : Type} {enc : TypeId × Value → H} {W : World} {spare : Nat → Bool} {held : Bool}
set_option maxRecDepth 100000 in
theorem val_trod {base fuel : Nat} {cs : List Value} {x : DataW H × List MemPlace} (h : DataW.trod enc Tryz.prog W base spare held fuel 36 cs = some x) :
    ∃ y : Vl, cs = [.int .i64 y.k, .int .i64 y.n, .string y.s] := by
  obtain ⟨y0, y1, y2, n, hx, hl, h0, h1, h2⟩ := Go.Deep.trod_struct3 Tryz.underlying36 h
  obtain ⟨a0, a1, a2, rfl⟩ := list3 (hl.trans vcofV)
  simp only [vcof3, vcof9, List.drop_zero, List.drop_succ_cons, List.take_succ_cons, List.take_zero] at h0 h1 h2
  obtain ⟨k, e0, -, -⟩ := DataW.trod_int Tryz.underlying3 h0
  obtain ⟨m, e1, -, -⟩ := DataW.trod_int Tryz.underlying3 h1
  obtain ⟨s, e2, -, -⟩ := DataW.trod_string Tryz.underlying9 h2
  simp at e0 e1 e2
  subst e0 e1 e2
  exact ⟨⟨k, m, s⟩, rfl⟩
set_option maxRecDepth 100000 in
theorem row_trod {fuel : Nat} {cs : List Value} {x : DataW H × List MemPlace} (h : DataW.trod enc Tryz.prog W 0 spare held fuel 34 cs = some x) :
    ∃ (p : Option Addr) (len cap : Nat) (v : Nat → Vl), cs = [.slice p len cap] ∧ len ≤ 9223372036854775807 ∧ VM W p len v := by
  rcases Go.Deep.open_slice Tryz.underlying34 h with ⟨e, -⟩ | ⟨a, len, cap, m, n, D, Pl, e, -, hlc, hcm, hm, -, hel⟩
  · exact ⟨none, 0, 0, fun _ => ⟨0, 0, nul⟩, e, by omega, .inl rfl⟩
  have hmax : maxLen = 9223372036854775807 := rfl
  have hle : len ≤ m := by rw [hm]; split <;> omega
  rw [vcofV] at hel
  obtain ⟨F, hF⟩ := Go.Deep.choose_lt (α := Vl) (n := len) (p := fun i y => W.cells? 0 (a.add (i * 3)) 3 = some [.int .i64 y.k, .int .i64 y.n, .string y.s]) (fun i hi => by
    obtain ⟨cs', g1, g2⟩ := hel i (by omega)
    obtain ⟨y, rfl⟩ := val_trod g2
    exact ⟨y, g1⟩)
  refine ⟨some a, len, cap, F, e, by omega, ?_⟩
  by_cases h0 : len = 0
  · exact .inl h0
  right
  have hc0 : ∀ i, i < len → ∀ j, j < 3 → W.cell? (a.add (i * 3 + j)) = ([.int .i64 (F i).k, .int .i64 (F i).n, .string (F i).s] : List Value)[j]? := fun i hi j hj => by
    have := (World.cells?_some (hF i hi)).2.2 j hj
    rw [Go.Deep.add_add] at this
    exact this
  have hsp : W.cell? a = some (.int .i64 (F 0).k) := by
    have := hc0 0 (by omega) 0 (by omega)
    simpa [Addr.add] using this
  have hspot := World.cell?_spot hsp
  obtain ⟨g, o, sp⟩ := a
  simp only at hspot
  subst hspot
  refine ⟨g, o, rfl, blk_of hsp, fun i hi => ?_⟩
  have q0 := hc0 i hi 0 (by omega)
  have q1 := hc0 i hi 1 (by omega)
  have q2 := hc0 i hi 2 (by omega)
  rw [add_plain] at q0 q1 q2
  exact ⟨q0, by rw [Nat.add_assoc]; exact q1, by rw [Nat.add_assoc]; exact q2⟩
set_option maxRecDepth 100000 in
theorem open_table {r0 : Reach} {b0 : Nat} {v : Value} {d : DataW H} {q : List MemPlace} (hv : Value.okWide Tryz.prog W r0 b0 22 v) (h : DataW.Trod enc Tryz.prog W 0 spare held 22 v d q) :
    ∃ (p : Option Addr) (cap : Nat) (T : Tb), v = .slice p T.q cap ∧ T.q ≤ 9223372036854775807 ∧ T.q ≤ cap ∧ (∀ i, i < T.q → T.L i ≤ 9223372036854775807) ∧ TM W p T := by
  obtain ⟨p, len, cap, rfl⟩ := okWide_slice Tryz.underlying22 hv
  obtain ⟨fuel, hf⟩ := h
  rcases Go.Deep.open_slice Tryz.underlying22 hf with ⟨e, -⟩ | ⟨a, len', cap', m, n, D, Pl, e, -, hlc, hcm, hm, -, hel⟩
  · simp [Value.cells] at e
    obtain ⟨rfl, rfl, rfl⟩ := e
    exact ⟨none, 0, ⟨0, fun _ => none, fun _ => 0, fun _ => 0, fun _ _ => ⟨0, 0, nul⟩⟩, rfl, by simp, by simp, by simp, .inl rfl⟩
  simp [Value.cells] at e
  obtain ⟨rfl, rfl, rfl⟩ := e
  have hmax : maxLen = 9223372036854775807 := rfl
  have hle : len ≤ m := by rw [hm]; split <;> omega
  rw [vcofR] at hel
  obtain ⟨F, hF⟩ := Go.Deep.choose_lt (α := Option Addr × Nat × Nat × (Nat → Vl)) (n := len) (p := fun i y => W.cells? 0 (a.add (i * 1)) 1 = some [.slice y.1 y.2.1 y.2.2.1] ∧ y.2.1 ≤ 9223372036854775807 ∧ VM W y.1 y.2.1 y.2.2.2) (fun i hi => by
    obtain ⟨cs', g1, g2⟩ := hel i (by omega)
    obtain ⟨p', l', c', v', rfl, hl, hv⟩ := row_trod g2
    exact ⟨(p', l', c', v'), g1, hl, hv⟩)
  refine ⟨some a, cap, ⟨len, fun i => (F i).1, fun i => (F i).2.1, fun i => (F i).2.2.1, fun i => (F i).2.2.2⟩, rfl, by show len ≤ _; omega, hlc, fun i hi => (hF i hi).2.1, ?_⟩
  by_cases h0 : len = 0
  · exact .inl h0
  right
  have hc0 : ∀ i, i < len → W.cell? (a.add i) = some (.slice (F i).1 (F i).2.1 (F i).2.2.1) := fun i hi => by
    have := (World.cells?_some (hF i hi).1).2.2 0 (by omega)
    rw [Go.Deep.add_add, Nat.add_zero, Nat.mul_one] at this
    exact this
  have hsp : W.cell? a = some (.slice (F 0).1 (F 0).2.1 (F 0).2.2.1) := by
    have := hc0 0 (by omega)
    simpa [Addr.add] using this
  have hspot := World.cell?_spot hsp
  obtain ⟨g, o, sp⟩ := a
  simp only at hspot
  subst hspot
  refine ⟨g, o, rfl, blk_of hsp, fun i hi => ⟨?_, (hF i hi).2.2⟩⟩
  have q0 := hc0 i hi
  rw [add_plain] at q0
  exact q0
set_option maxRecDepth 100000 in
theorem open_ints {r0 : Reach} {b0 : Nat} {v : Value} {d : DataW H} {q : List MemPlace} (hv : Value.okWide Tryz.prog W r0 b0 23 v) (h : DataW.Trod enc Tryz.prog W 0 spare held 23 v d q) :
    ∃ (p : Option Addr) (n cap : Nat) (c : Nat → Int), v = .slice p n cap ∧ n ≤ 9223372036854775807 ∧ IM W p n c := by
  obtain ⟨p, len, cap, rfl⟩ := okWide_slice Tryz.underlying23 hv
  obtain ⟨fuel, hf⟩ := h
  rcases Go.Deep.open_slice1 Tryz.underlying23 vcof3 hf with ⟨e, -⟩ | ⟨a, len', cap', m, n, V, D, Pl, e, -, hlc, hcm, hm, -, hel⟩
  · simp [Value.cells] at e
    obtain ⟨rfl, rfl, rfl⟩ := e
    exact ⟨none, 0, 0, fun _ => 0, rfl, by omega, .inl rfl⟩
  simp [Value.cells] at e
  obtain ⟨rfl, rfl, rfl⟩ := e
  have hle : len ≤ m := by rw [hm]; split <;> omega
  obtain ⟨F, hF⟩ := Go.Deep.choose_lt (α := Int) (n := len) (p := fun i y => W.cell? (a.add i) = some (.int .i64 y)) (fun i hi => by
    obtain ⟨g1, g2⟩ := hel i (by omega)
    obtain ⟨y, e0, -, -⟩ := DataW.trod_int Tryz.underlying3 g2
    simp at e0
    exact ⟨y, by rw [g1, e0]⟩)
  have hmx : maxLen = 9223372036854775807 := rfl
  refine ⟨some a, len, cap, F, rfl, by omega, ?_⟩
  by_cases h0 : len = 0
  · exact .inl h0
  right
  have hsp : W.cell? a = some (.int .i64 (F 0)) := by
    have := hF 0 (by omega)
    simpa [Addr.add] using this
  have hspot := World.cell?_spot hsp
  obtain ⟨g, o, sp⟩ := a
  simp only at hspot
  subst hspot
  refine ⟨g, o, rfl, blk_of hsp, fun i hi => ?_⟩
  have := hF i hi
  rw [add_plain] at this
  exact this
end
end Go.Proofs.YtbiikodnfaeceaaGreatDoor.so

/- A table, and numbers, that were handed in: with what 64 bits hold, and how long the reading is. Conditions: as each theorem says. -/
namespace Go.Proofs.YtbiikodnfaeceaaGreatDoor.so
open Go.RowKit Go.Joins Go.ChangeShapes Go.WideShapes Go.ChangeAt
section
variable {H : Type} {enc : TypeId × Value → H} {W : World} {spare : Nat → Bool} {held : Bool}
set_option maxRecDepth 100000 in
theorem val_trodB {base fuel : Nat} {cs : List Value} {x : DataW H × List MemPlace} (h : DataW.trod enc Tryz.prog W base spare held fuel 36 cs = some x) :
    ∃ y : Vl, cs = [.int .i64 y.k, .int .i64 y.n, .string y.s] ∧ B64 y.n := by
  obtain ⟨y0, y1, y2, n, hx, hl, h0, h1, h2⟩ := Go.Deep.trod_struct3 Tryz.underlying36 h
  obtain ⟨a0, a1, a2, rfl⟩ := list3 (hl.trans vcofV)
  simp only [vcof3, vcof9, List.drop_zero, List.drop_succ_cons, List.take_succ_cons, List.take_zero] at h0 h1 h2
  obtain ⟨k, e0, -, -⟩ := DataW.trod_int Tryz.underlying3 h0
  obtain ⟨m, e1, -, hw⟩ := DataW.trod_int Tryz.underlying3 h1
  obtain ⟨s, e2, -, -⟩ := DataW.trod_string Tryz.underlying9 h2
  simp at e0 e1 e2
  subst e0 e1 e2
  exact ⟨⟨k, m, s⟩, rfl, bounds_i64 hw⟩
set_option maxRecDepth 100000 in
theorem row_trodB {fuel : Nat} {cs : List Value} {x : DataW H × List MemPlace} (h : DataW.trod enc Tryz.prog W 0 spare held fuel 34 cs = some x) :
    ∃ (p : Option Addr) (len cap : Nat) (v : Nat → Vl), cs = [.slice p len cap] ∧ len ≤ 9223372036854775807 ∧ VM W p len v ∧ ∀ i, i < len → B64 (v i).n := by
  rcases Go.Deep.open_slice Tryz.underlying34 h with ⟨e, -⟩ | ⟨a, len, cap, m, n, D, Pl, e, -, hlc, hcm, hm, -, hel⟩
  · exact ⟨none, 0, 0, fun _ => ⟨0, 0, nul⟩, e, by omega, .inl rfl, fun i hi => by omega⟩
  have hmax : maxLen = 9223372036854775807 := rfl
  have hle : len ≤ m := by rw [hm]; split <;> omega
  rw [vcofV] at hel
  obtain ⟨F, hF⟩ := Go.Deep.choose_lt (α := Vl) (n := len) (p := fun i y => W.cells? 0 (a.add (i * 3)) 3 = some [.int .i64 y.k, .int .i64 y.n, .string y.s] ∧ B64 y.n) (fun i hi => by
    obtain ⟨cs', g1, g2⟩ := hel i (by omega)
    obtain ⟨y, rfl, hb⟩ := val_trodB g2
    exact ⟨y, g1, hb⟩)
  refine ⟨some a, len, cap, F, e, by omega, ?_, fun i hi => (hF i hi).2⟩
  by_cases h0 : len = 0
  · exact .inl h0
  right
  have hc0 : ∀ i, i < len → ∀ j, j < 3 → W.cell? (a.add (i * 3 + j)) = ([.int .i64 (F i).k, .int .i64 (F i).n, .string (F i).s] : List Value)[j]? := fun i hi j hj => by
    have := (World.cells?_some (hF i hi).1).2.2 j hj
    rw [Go.Deep.add_add] at this
    exact this
  have hsp : W.cell? a = some (.int .i64 (F 0).k) := by
    have := hc0 0 (by omega) 0 (by omega)
    simpa [Addr.add] using this
  have hspot := World.cell?_spot hsp
  obtain ⟨g, o, sp⟩ := a
  simp only at hspot
  subst hspot
  refine ⟨g, o, rfl, blk_of hsp, fun i hi => ?_⟩
  have q0 := hc0 i hi 0 (by omega)
  have q1 := hc0 i hi 1 (by omega)
  have q2 := hc0 i hi 2 (by omega)
  rw [add_plain] at q0 q1 q2
  exact ⟨q0, by rw [Nat.add_assoc]; exact q1, by rw [Nat.add_assoc]; exact q2⟩
set_option maxRecDepth 100000 in
theorem open_tableB {r0 : Reach} {b0 : Nat} {v : Value} {d : DataW H} {q : List MemPlace} (hv : Value.okWide Tryz.prog W r0 b0 22 v) (h : DataW.Trod enc Tryz.prog W 0 spare held 22 v d q) :
    ∃ (p : Option Addr) (cap : Nat) (T : Tb), v = .slice p T.q cap ∧ T.q ≤ 9223372036854775807 ∧ T.q ≤ cap ∧ (∀ i, i < T.q → T.L i ≤ 9223372036854775807) ∧ TM W p T ∧ ∀ i, i < T.q → ∀ j, j < T.L i → B64 (T.v i j).n := by
  obtain ⟨p, len, cap, rfl⟩ := okWide_slice Tryz.underlying22 hv
  obtain ⟨fuel, hf⟩ := h
  rcases Go.Deep.open_slice Tryz.underlying22 hf with ⟨e, -⟩ | ⟨a, len', cap', m, n, D, Pl, e, -, hlc, hcm, hm, -, hel⟩
  · simp [Value.cells] at e
    obtain ⟨rfl, rfl, rfl⟩ := e
    exact ⟨none, 0, ⟨0, fun _ => none, fun _ => 0, fun _ => 0, fun _ _ => ⟨0, 0, nul⟩⟩, rfl, by simp, by simp, by simp, .inl rfl, fun i hi => absurd hi (Nat.not_lt_zero _)⟩
  simp [Value.cells] at e
  obtain ⟨rfl, rfl, rfl⟩ := e
  have hmax : maxLen = 9223372036854775807 := rfl
  have hle : len ≤ m := by rw [hm]; split <;> omega
  rw [vcofR] at hel
  obtain ⟨F, hF⟩ := Go.Deep.choose_lt (α := Option Addr × Nat × Nat × (Nat → Vl)) (n := len) (p := fun i y => W.cells? 0 (a.add (i * 1)) 1 = some [.slice y.1 y.2.1 y.2.2.1] ∧ y.2.1 ≤ 9223372036854775807 ∧ VM W y.1 y.2.1 y.2.2.2 ∧ ∀ j, j < y.2.1 → B64 (y.2.2.2 j).n) (fun i hi => by
    obtain ⟨cs', g1, g2⟩ := hel i (by omega)
    obtain ⟨p', l', c', v', rfl, hl, hv, hb⟩ := row_trodB g2
    exact ⟨(p', l', c', v'), g1, hl, hv, hb⟩)
  refine ⟨some a, cap, ⟨len, fun i => (F i).1, fun i => (F i).2.1, fun i => (F i).2.2.1, fun i => (F i).2.2.2⟩, rfl, by show len ≤ _; omega, hlc, fun i hi => (hF i hi).2.1, ?_, fun i hi => (hF i hi).2.2.2⟩
  by_cases h0 : len = 0
  · exact .inl h0
  right
  have hc0 : ∀ i, i < len → W.cell? (a.add i) = some (.slice (F i).1 (F i).2.1 (F i).2.2.1) := fun i hi => by
    have := (World.cells?_some (hF i hi).1).2.2 0 (by omega)
    rw [Go.Deep.add_add, Nat.add_zero, Nat.mul_one] at this
    exact this
  have hsp : W.cell? a = some (.slice (F 0).1 (F 0).2.1 (F 0).2.2.1) := by
    have := hc0 0 (by omega)
    simpa [Addr.add] using this
  have hspot := World.cell?_spot hsp
  obtain ⟨g, o, sp⟩ := a
  simp only at hspot
  subst hspot
  refine ⟨g, o, rfl, blk_of hsp, fun i hi => ⟨?_, (hF i hi).2.2.1⟩⟩
  have q0 := hc0 i hi
  rw [add_plain] at q0
  exact q0
set_option maxRecDepth 100000 in
theorem open_intsB {r0 : Reach} {b0 : Nat} {v : Value} {d : DataW H} {q : List MemPlace} (hv : Value.okWide Tryz.prog W r0 b0 23 v) (h : DataW.Trod enc Tryz.prog W 0 spare held 23 v d q) :
    ∃ (p : Option Addr) (n cap : Nat) (c : Nat → Int), v = .slice p n cap ∧ n ≤ 9223372036854775807 ∧ IM W p n c ∧ (n = 0 ∨ ∃ elems sp, d = .slice elems sp ∧ elems.length = n) := by
  obtain ⟨p, len, cap, rfl⟩ := okWide_slice Tryz.underlying23 hv
  obtain ⟨fuel, hf⟩ := h
  rcases Go.Deep.open_slice1 Tryz.underlying23 vcof3 hf with ⟨e, -⟩ | ⟨a, len', cap', m, n, V, D, Pl, e, -, hlc, hcm, hm, hx, hel⟩
  · simp [Value.cells] at e
    obtain ⟨rfl, rfl, rfl⟩ := e
    exact ⟨none, 0, 0, fun _ => 0, rfl, by omega, .inl rfl, .inl rfl⟩
  simp [Value.cells] at e
  obtain ⟨rfl, rfl, rfl⟩ := e
  have hle : len ≤ m := by rw [hm]; split <;> omega
  obtain ⟨F, hF⟩ := Go.Deep.choose_lt (α := Int) (n := len) (p := fun i y => W.cell? (a.add i) = some (.int .i64 y)) (fun i hi => by
    obtain ⟨g1, g2⟩ := hel i (by omega)
    obtain ⟨y, e0, -, -⟩ := DataW.trod_int Tryz.underlying3 g2
    simp at e0
    exact ⟨y, by rw [g1, e0]⟩)
  have hmx : maxLen = 9223372036854775807 := rfl
  injection hx with hx _
  refine ⟨some a, len, cap, F, rfl, by omega, ?_, .inr ⟨_, _, hx, by simp⟩⟩
  by_cases h0 : len = 0
  · exact .inl h0
  right
  have hsp : W.cell? a = some (.int .i64 (F 0)) := by
    have := hF 0 (by omega)
    simpa [Addr.add] using this
  have hspot := World.cell?_spot hsp
  obtain ⟨g, o, sp⟩ := a
  simp only at hspot
  subst hspot
  refine ⟨g, o, rfl, blk_of hsp, fun i hi => ?_⟩
  have := hF i hi
  rw [add_plain] at this
  exact this
end
end Go.Proofs.YtbiikodnfaeceaaGreatDoor.so

/- The outside of a law that writes nothing: its arguments, whatever their types, read behind the call as they did; and the row's frame with the world's shape handed on. No program is walked here. -/
namespace Go.Proofs.YtbiikodnfaeceaaGreatDoor.out
open Go.RowKit
section
variable {H : Type} {enc : TypeId × Value → H} {P : Program}
theorem trodAll_carry {w w' : World} {base : Nat} {spare : Nat → Bool} {held : Bool} : ∀ {ts : List TypeId} {vs : List Value} {ds : List (DataW H)} {ps : List MemPlace},
    DataW.TrodAll enc P w base spare held ts vs ds ps → (∀ p ∈ ps, w.sameAt w' p) → DataW.TrodAll enc P w' base spare held ts vs ds ps
  | [], [], [], _, h, _ => h
  | _ :: _, _ :: _, _ :: _, _, ⟨p, q, ⟨n, h1⟩, h2, e⟩, hs =>
    ⟨p, q, ⟨n, DataW.trod_carry n _ _ _ h1 (fun x hx => hs x (by rw [e]; exact List.mem_append_left _ hx))⟩, trodAll_carry h2 (fun x hx => hs x (by rw [e]; exact List.mem_append_right _ hx)), e⟩
theorem sameAt_below {w w' : World} (hb : Below w.heap.size w w') (p : MemPlace) (hp : p.block < w.heap.size) : w.sameAt w' p := by
  cases p with
  | cell b off => exact hb.cell (p := ⟨b, off, none⟩) hp
  | map b => exact hb.block b hp
/-- What a law that writes nothing was handed reads behind it as it did. -/
theorem trodAll_after (hl : laidOutB P = true) (hm : mapsRowed P = true) (hz : ((List.range P.types.size).all fun t => match P.underlying t with | some (.slice e) => decide (0 < P.cellsOf e) | _ => true) = true)
    {w w' : World} {ts : List TypeId} {vs : List Value} {ds : List (DataW H)} {ps : List MemPlace} (hts : ∀ t ∈ ts, t < P.types.size)
    (h : DataW.TrodAll enc P w 0 (fun _ => true) true ts vs ds ps) (hb : Below w.heap.size w w') : DataW.TrodAll enc P w' 0 (fun b => decide (b < w.heap.size)) true ts vs ds ps :=
  trodAll_carry (DataW.TrodAll.respare (kids_rows hl hm) (slices_full_of P hz) hts h (fun p hp => decide_eq_true (h.lt p hp))) (fun p hp => sameAt_below hb p (h.lt p hp))
theorem returnsInHanded_shaped {a : Assume} {C : Checked} {os : Os} {f : FuncId} {fn : Func} {s : ChangeSpec} {conds : List PathCond} {apart fresh handsOn again : Bool} {X : World → Array Value → Prop}
    (hX : ∀ (w w' : World) (args : Array Value), w.heap = w'.heap → X w args → X w' args)
    (own : ownKnob C.prog.godebug = none) (started : os.Started) (noInit : C.prog.inits.idxOf? f = none) (hfn : C.prog.funcs[f]? = some fn)
    (witness : ∃ (w : World) (tape : Tape) (i : Input), w.os = os ∧ (w.forCall tape i).Shaped C.prog ∧ i.vars = [] ∧ Input.okWide C.prog (w.forCall tape i) .any w.heap.size f i ∧
      ((s.pre enc C.prog fn conds apart (w.forCall tape i).memory i.args ∧ X (w.forCall tape i).memory i.args) ∧ sizedMet enc C.prog fn (OpenSpec.ofChange s) apart (w.forCall tape i).memory i.args) ∧ a.holds C.prog (lone (Frame.enter C.prog f i.args .normal) [] (w.forCall tape i)))
    (contract : ∀ (W : World) (base : Nat) (args : Array Value) (ds gs : List (DataW H)) (before : List MemPlace),
      (∀ (j : Nat) t v, fn.params[j]? = some t → args[j]? = some v → Value.okWide C.prog W .any base t v) →
      DataW.Whole enc C.prog fn.params.toList s.vars apart W args.toList ds gs before →
      conds.all (PathCond.test C.prog ⟨fn.params.toList, ds, s.plain.varTypes C.prog, gs⟩) = true →
      (DataW.weightsEach C.prog (fn.params.toList ++ s.plain.varTypes C.prog) (ds ++ gs)).all (· ≤ reachBytes) = true → X W args → W.ShapedOpen C.prog →
      a.holds C.prog (lone (Frame.enter C.prog f args .normal) [] W) →
      Calls C.prog f args W fun e W' => ∃ v, e = .returned v ∧ s.post enc C.prog fn apart fresh handsOn again W args v W') :
    ReturnsInHanded a C os f .any (fun w args => (s.pre enc C.prog fn conds apart w args ∧ X w args) ∧ sizedMet enc C.prog fn (OpenSpec.ofChange s) apart w args) (s.post enc C.prog fn apart fresh handsOn again) := by
  refine returnsInHanded_of_calls own started noInit witness ?_
  intro w tape i _ hsh _ hok hpre hholds
  obtain ⟨_, _, _, fn', hfn', _, _, _, _, hval⟩ := hok
  have e : fn' = fn := Option.some.inj (hfn'.symm.trans hfn)
  subst e
  obtain ⟨⟨⟨ds, gs, before, hw, hc⟩, hx⟩, hz⟩ := hpre
  have hw' := DataW.Whole.of_heap (w' := w.forCall tape i) (by rfl) hw
  refine (contract (w.forCall tape i) w.heap.size i.args ds gs before hval hw' hc (hz.weights hw) (hX _ _ _ (by rfl) hx) hsh hholds).mono fun e W' ⟨v, he, hp⟩ => ?_
  subst he
  exact ChangeSpec.post_blind hp
end
end Go.Proofs.YtbiikodnfaeceaaGreatDoor.out
namespace Go.Proofs.YtbiikodnfaeceaaGreatDoor.pkg
open Go.ChangeShapes Go.WideShapes Go.ChangeAt Go.RowKit Go.Joins
theorem one_le {H : Type} (d : DataW H) : 1 ≤ Rows.uptoBulk d := by
  cases d with
  | lit l => cases l <;> simp [Rows.uptoBulk]
  | nil => simp [Rows.uptoBulk]
  | ptr d => simp [Rows.uptoBulk]
  | slice elems spare => simp [Rows.uptoBulk]
  | agg parts => simp [Rows.uptoBulk]
  | iface t d => simp [Rows.uptoBulk]
  | map entries => simp [Rows.uptoBulk]
  | held h => simp [Rows.uptoBulk]
theorem part_le {H : Type} {d : DataW H} {l : List (DataW H)} (h : d ∈ l) : Rows.uptoBulk d ≤ Rows.uptoBulkAll l := by
  induction l with
  | nil => cases h
  | cons x r ih =>
    simp only [Rows.uptoBulkAll]
    cases List.mem_cons.1 h with
    | inl e => subst e; omega
    | inr e => have := ih e; omega
theorem length_le {H : Type} (l : List (DataW H)) : l.length ≤ Rows.uptoBulkAll l := by
  induction l with
  | nil => simp [Rows.uptoBulkAll]
  | cons x r ih => have := one_le x; simp only [Rows.uptoBulkAll, List.length_cons]; omega
theorem slice_le {H : Type} (elems spare : List (DataW H)) : elems.length + spare.length + 1 ≤ Rows.uptoBulk (.slice elems spare) := by
  have h1 := length_le elems
  have h2 := length_le spare
  simp only [Rows.uptoBulk]
  omega
theorem gErr : Tryz.prog.globalNamed "errors.errorType" = some 0 := by kernel_rfl
theorem rtErr : (Tryz.prog.cutTypes.find? (·.1 == "internal/reflectlite.rtype")).map (·.2) = some 117 := by kernel_rfl
theorem oneErr : ((List.range 254).filter fun t => Tryz.prog.rowNamed t [101, 114, 114, 111, 114]) = [29] := by kernel_rfl
theorem sizeErr : Tryz.prog.types.size = 254 := by kernel_rfl
theorem size_of_var {W : World} {n : String} {g : Nat} {c : Array Value} (hg : Tryz.prog.globalNamed n = some g) (h : W.var? Tryz.prog n = some c) : g < W.heap.size := by
  unfold World.var? at h
  rw [hg] at h
  simp only [Option.bind_some] at h
  by_cases hh : g < W.heap.size
  · exact hh
  · rw [Array.getElem?_eq_none (by omega)] at h
    cases h
theorem err_of_handle {W : World} (h : handlesMet Tryz.prog [("errors.errorType", Rows.laid_errors_errorType)] W) : ErrTy W := by
  obtain ⟨name, u, ty, e1, e2, e3, e4, e5⟩ := h _ (List.mem_singleton.2 rfl)
  have en : name = [101, 114, 114, 111, 114] := (Option.some.inj e1).symm
  subst en
  obtain rfl := Option.some.inj (rtErr.symm.trans e2)
  have hm : ty ∈ (List.range 254).filter fun t => Tryz.prog.rowNamed t [101, 114, 114, 111, 114] := List.mem_filter.2 ⟨List.mem_range.2 (by rw [← sizeErr]; exact e3), e4⟩
  rw [oneErr] at hm
  obtain rfl := List.mem_singleton.1 hm
  have hh : typeHandle Tryz.prog 29 = .pointer (some ⟨8, 29, none⟩) := by kernel_rfl
  rw [hh] at e5
  exact ⟨size_of_var gErr e5, by simpa using World.var?_cell gErr e5 0⟩
theorem err_of {W : World} (h : laidMetH Tryz.prog Rows.pickGroupsUptoRow.laid W) : ErrTy W := err_of_handle (show laidMet Tryz.prog _ W ∧ handlesMet Tryz.prog [("errors.errorType", Rows.laid_errors_errorType)] W from h).2
theorem door_met (os : Os) (args : Array Value) : laidMetH Tryz.prog Rows.pickGroupsUptoRow.laid ((World.doorLaid Tryz.prog 400 os).forCall (fun _ _ => 0) ⟨#[], args, []⟩).memory :=
  laidMetH_of_parts3 (fuel := 8) (laidMet_of_run' 8 (by kernel_rfl) (by kernel_rfl)) (by kernel_rfl) (by kernel_rfl)
theorem laid_out : laidOutB Tryz.prog = true := by kernel_rfl
theorem maps_rowed : mapsRowed Tryz.prog = true := by kernel_rfl
theorem slices_full : ((List.range Tryz.prog.types.size).all fun t => match Tryz.prog.underlying t with | some (.slice e) => decide (0 < Tryz.prog.cellsOf e) | _ => true) = true := by kernel_rfl
theorem params_in : ∀ t ∈ Tryz.f3.params.toList, t < Tryz.prog.types.size := by
  have h : (Tryz.f3.params.toList.all fun t => decide (t < Tryz.prog.types.size)) = true := by kernel_rfl
  exact fun t ht => of_decide_eq_true (List.all_eq_true.1 h t ht)
theorem trodAll_three {H : Type} {enc : TypeId × Value → H} {P : Program} {w : World} {base : Nat} {spare : Nat → Bool} {held : Bool} {t0 t1 t2 : TypeId} {args : Array Value} {ds : List (DataW H)} {ps : List MemPlace} (h : DataW.TrodAll enc P w base spare held [t0, t1, t2] args.toList ds ps) :
    ∃ v0 v1 v2 d0 d1 d2 p0 p1 p2, args = #[v0, v1, v2] ∧ ds = [d0, d1, d2] ∧ DataW.Trod enc P w base spare held t0 v0 d0 p0 ∧ DataW.Trod enc P w base spare held t1 v1 d1 p1 ∧ DataW.Trod enc P w base spare held t2 v2 d2 p2 := by
  obtain ⟨v0, vs, d0, ds0, p0, q0, hargs, rfl, -, h0, r0⟩ := trodAll_cons h
  obtain ⟨v1, vs1, d1, ds1, p1, q1, rfl, rfl, -, h1, r1⟩ := trodAll_cons r0
  obtain ⟨v2, vs2, d2, ds2, p2, q2, rfl, rfl, -, h2, r2⟩ := trodAll_cons r1
  obtain ⟨rfl, rfl, -⟩ := trodAll_nil r2
  exact ⟨v0, v1, v2, d0, d1, d2, p0, p1, p2, by cases args; simp_all, rfl, h0, h1, h2⟩
theorem own : ownKnob Tryz.checked.prog.godebug = none := by kernel_rfl
theorem reads (os : Os) {H : Type} (enc : TypeId × Value → H) : ∃ places, DataW.whole enc Tryz.prog ((World.doorLaid Tryz.prog 400 os).forCall (fun _ _ => 0) ⟨#[], #[.slice none 0 0, .slice none 0 0, .int .i64 0], []⟩).memory Tryz.f3.params.toList Rows.pickGroupsSpec.vars false #[Value.slice none 0 0, .slice none 0 0, .int .i64 0].toList 8 = some ([.nil, .nil, .lit (.int .i64 0)], [], places) :=
  ⟨[], by kernel_rfl⟩
set_option maxRecDepth 100000 in
theorem lifted (os : Os) (started : os.Started) (H : Type) (enc : TypeId × Value → H) (F : Stop.Interp) :
    ReturnsInHanded {} Tryz.checked os 3 .any ((Rows.OpenSpec.upto Rows.pickGroupsSpec).preRow enc Tryz.prog Tryz.f3 Rows.pickGroupsUptoRow.domain false Rows.pickGroupsUptoRow.laid) (((Rows.OpenSpec.upto Rows.pickGroupsSpec).at F).post enc Tryz.prog Tryz.f3 false true false false) := by
  obtain ⟨places, hx⟩ := reads os enc
  refine returnsInHanded_of_row (C := Tryz.checked) (s := Rows.OpenSpec.upto Rows.pickGroupsSpec) own started (by kernel_rfl) Tryz.func3
    (witness_row_atRef (enc := enc) (C := Tryz.checked) false (World.doorLaid Tryz.prog 400 os) #[.slice none 0 0, .slice none 0 0, .int .i64 0] rfl (by kernel_rfl) (by kernel_rfl) (by kernel_rfl)
      (OpenSpec.preRow_of_cond 8 hx (by kernel_rfl) (fun k hk => by cases hk; kernel_rfl) (by kernel_rfl) (door_met os _))) ?_
  intro W base args ds gs before hval0 hW _ hcond _ hL _ _
  have hval : ∀ (j : Nat) t v, Tryz.f3.params[j]? = some t → args[j]? = some v → Value.okWide Tryz.prog W .any base t v := hval0
  have hW' := hW
  have hk := hcond _ rfl
  obtain ⟨p, q, hA0, hV, rfl, hfz, hnd⟩ := hW
  have hAft : ∀ W', Below W.heap.size W W' → DataW.TrodAll enc Tryz.prog W' 0 (fun b => decide (b < W.heap.size)) true Tryz.f3.params.toList args.toList ds p := fun W' hb => out.trodAll_after laid_out maps_rowed slices_full params_in hA0 hb
  have hA : DataW.TrodAll enc Tryz.prog W 0 (fun _ => true) true Tryz.f3.params.toList args.toList ds p := hA0
  rw [Tryz.params3] at hA hval
  obtain ⟨v0, v1, v2, d0, d1, d2, p0, p1, p2, rfl, rfl, h0, h1, h2⟩ := trodAll_three hA
  obtain ⟨rfl, rfl⟩ := trodVars_none hV
  obtain ⟨p, cap, T, rfl, hq, hqc, hTL, hTM, h64⟩ := so.open_tableB (hval 0 22 v0 rfl rfl) h0
  obtain ⟨p2, n, cap2, c, rfl, -, hIM, hlen⟩ := so.open_intsB (hval 1 23 v1 rfl rfl) h1
  obtain ⟨x, rfl, -, -, -⟩ := open_int Tryz.underlying3 (hval 2 3 v2 rfl rfl) h2
  have hn : n ≤ 4398046511104 := by
    rcases hlen with h | ⟨elems, sp, e, h⟩
    · omega
    · subst e
      have hb := of_decide_eq_true hk
      have h1' := part_le (d := DataW.slice elems sp) (l := [d0, DataW.slice elems sp, d2] ++ []) (by simp)
      have h2' := slice_le elems sp
      omega
  clear hA0 hval0 hk hcond
  simp only [List.append_nil] at hW'
  have key : Calls Tryz.prog 3 #[.slice p T.q cap, .slice p2 n cap2, .int .i64 x] W fun e w' => e = .returned (.bool true) ∧ Below W.heap.size W w' := so.groups_any T p cap p2 n cap2 c x W hTM hIM hq hn hTL h64 (err_of hL)
  refine key.mono fun e W' ⟨he, hg⟩ => ?_
  subst he
  exact ⟨_, rfl, _, _, _, [], _, [], hW', trodAll_mk1 (shut_bool Tryz.underlying4 _), hAft W' hg, rfl, hg.frame _, fun h => by cases h⟩
theorem row_holds : Rows.PickGroupsUptoSaid :=
  OpenClaim.holds_of_cond 3 Tryz.f3 rfl rfl rfl rfl rfl rfl rfl ⟨rfl, rfl, rfl, rfl, rfl⟩ rfl rfl rfl rfl rfl (by kernel_rfl) Tryz.func3 (by kernel_rfl)
    (of_decide_eq_true (by kernel_rfl)) (by unfold Func.isWrapper; first | (rw [if_pos (by decide +kernel)]; kernel_rfl) | (rw [if_neg (by decide +kernel)]; exact ⟨rfl, rfl⟩))
    (fun os started H enc _ F => by rw [OpenClaim.pre_eq_preRow]; exact lifted os started H enc F)
theorem card_holds : Rows.PickGroupsUptoCardSaid :=
  Claim7.holds_tied_plain_at .later [] _ _ _ _
    row_holds (fun _ h => by cases h) (by kernel_rfl) (fun _ h => by cases h) pickGroupsUpto_row_tie rfl ⟨rfl, rfl⟩ (by kernel_rfl) rfl
    (fun f fn hf hfn => by
      obtain rfl : f = 3 := Option.some.inj ((show Tryz.prog.funcNamed "sccsettle/scclaw3.PickGroups" = some 3 by kernel_rfl).symm.trans hf) |>.symm
      obtain rfl : fn = Tryz.f3 := (Option.some.inj (Tryz.func3.symm.trans hfn)).symm
      exact ⟨by kernel_rfl, fun j t ht => by
        rw [Tryz.params3] at ht
        have hm : t ∈ [22, 23, 3] := by simpa using Array.mem_of_getElem? ht
        have hall : ([22, 23, 3].all fun u => !Tryz.prog.wantsStandIn u) = true := by kernel_rfl
        exact (show Tryz.prog.wantsStandIn t = false by simpa using List.all_eq_true.1 hall t hm)⟩)
    (by kernel_rfl)
#print axioms card_holds
end Go.Proofs.YtbiikodnfaeceaaGreatDoor.pkg
