
/- A table, keys and numbers that were handed in lie in memory as they are read. Nothing is walked here. -/
import Derived.Test.YtehamdkjdbaceaaDoorSa
import Derived.OpenShut
import Derived.Deep.Slices
import Derived.Deep.Strs
import Derived.Lib.SmallJoins
namespace Go.Proofs.YtehamdkjdbaceaaDoor.so
open Go.ChangeShapes Go.WideShapes Go.ChangeAt Go.RowKit
theorem vcof3 : Tryd.prog.cellsOf 3 = 1 := by kernel_rfl
theorem vcof4 : Tryd.prog.cellsOf 4 = 1 := by kernel_rfl
theorem vcof9 : Tryd.prog.cellsOf 9 = 1 := by kernel_rfl
theorem vcofV : Tryd.prog.cellsOf 45 = 3 := by kernel_rfl
theorem vcofK : Tryd.prog.cellsOf 50 = 2 := by kernel_rfl
theorem vcofR : Tryd.prog.cellsOf 42 = 1 := by kernel_rfl
theorem add_plain (g o k : Nat) : (⟨g, o, none⟩ : Addr).add k = ⟨g, o + k, none⟩ := by
  unfold Addr.add
  by_cases h : k = 0 <;> simp [h]
theorem list3 {α : Type} {l : List α} (h : l.length = 3) : ∃ a b c, l = [a, b, c] := by
  match l, h with
  | [a, b, c], _ => exact ⟨a, b, c, rfl⟩
theorem list2 {α : Type} {l : List α} (h : l.length = 2) : ∃ a b, l = [a, b] := by
  match l, h with
  | [a, b], _ => exact ⟨a, b, rfl⟩
theorem blk_of {W : World} {g o : Nat} {v : Value} (h : W.cell? ⟨g, o, none⟩ = some v) : g < W.heap.size := by
  unfold World.cell? at h
  rcases Nat.lt_or_ge g W.heap.size with h' | h'
  · exact h'
  · rw [Array.getElem?_eq_none h'] at h
    simp at h
instance : Inhabited Vl := ⟨⟨0, 0, nul⟩⟩
section
variable {H : Type} {enc : TypeId × Value → H} {W : World} {spare : Nat → Bool} {held : Bool}
set_option maxRecDepth 100000 in
theorem val_trod {base fuel : Nat} {cs : List Value} {x : DataW H × List MemPlace} (h : DataW.trod enc Tryd.prog W base spare held fuel 45 cs = some x) :
    ∃ y : Vl, cs = [.int .i64 y.k, .int .i64 y.n, .string y.s] := by
  obtain ⟨y0, y1, y2, n, hx, hl, h0, h1, h2⟩ := Go.Deep.trod_struct3 Tryd.underlying45 h
  obtain ⟨a0, a1, a2, rfl⟩ := list3 (hl.trans vcofV)
  simp only [vcof3, vcof9, List.drop_zero, List.drop_succ_cons, List.take_succ_cons, List.take_zero] at h0 h1 h2
  obtain ⟨k, e0, -, -⟩ := DataW.trod_int Tryd.underlying3 h0
  obtain ⟨m, e1, -, -⟩ := DataW.trod_int Tryd.underlying3 h1
  obtain ⟨s, e2, -, -⟩ := DataW.trod_string Tryd.underlying9 h2
  simp at e0 e1 e2
  subst e0 e1 e2
  exact ⟨⟨k, m, s⟩, rfl⟩
set_option maxRecDepth 100000 in
theorem row_trod {fuel : Nat} {cs : List Value} {x : DataW H × List MemPlace} (h : DataW.trod enc Tryd.prog W 0 spare held fuel 42 cs = some x) :
    ∃ (p : Option Addr) (len cap : Nat) (v : Nat → Vl), cs = [.slice p len cap] ∧ len ≤ 9223372036854775807 ∧ VM W p len v := by
  rcases Go.Deep.open_slice Tryd.underlying42 h with ⟨e, -⟩ | ⟨a, len, cap, m, n, D, Pl, e, -, hlc, hcm, hm, -, hel⟩
  · exact ⟨none, 0, 0, fun _ => ⟨0, 0, nul⟩, e, by omega, .inl rfl⟩
  have hmax : maxLen = 9223372036854775807 := rfl
  have hle : len ≤ m := by rw [hm]; split <;> omega
  rw [vcofV] at hel
  obtain ⟨F, hF⟩ := Go.Deep.choose_lt (α := Vl) (n := len) (p := fun i y => W.cells? 0 (a.add (i * 3)) 3 = some [.int .i64 y.k, .int .i64 y.n, .string y.s]) (fun i hi => by
    obtain ⟨cs', g1, g2⟩ := hel i (by omega)
    obtain ⟨y, rfl⟩ := val_trod g2
    exact ⟨y, g1⟩)
  refine ⟨some a, len, cap, F, e, by omega, ?_⟩
  by_cases h0 : len = 0
  · exact .inl h0
  right
  have hc0 : ∀ i, i < len → ∀ j, j < 3 → W.cell? (a.add (i * 3 + j)) = ([.int .i64 (F i).k, .int .i64 (F i).n, .string (F i).s] : List Value)[j]? := fun i hi j hj => by
    have := (World.cells?_some (hF i hi)).2.2 j hj
    rw [Go.Deep.add_add] at this
    exact this
  have hsp : W.cell? a = some (.int .i64 (F 0).k) := by
    have := hc0 0 (by omega) 0 (by omega)
    simpa [Addr.add] using this
  have hspot := World.cell?_spot hsp
  obtain ⟨g, o, sp⟩ := a
  simp only at hspot
  subst hspot
  refine ⟨g, o, rfl, blk_of hsp, fun i hi => ?_⟩
  have q0 := hc0 i hi 0 (by omega)
  have q1 := hc0 i hi 1 (by omega)
  have q2 := hc0 i hi 2 (by omega)
  rw [add_plain] at q0 q1 q2
  exact ⟨q0, by rw [Nat.add_assoc]; exact q1, by rw [Nat.add_assoc]; exact q2⟩
set_option maxRecDepth 100000 in
theorem open_table {r0 : Reach} {b0 : Nat} {v : Value} {d : DataW H} {q : List MemPlace} (hv : Value.okWide Tryd.prog W r0 b0 22 v) (h : DataW.Trod enc Tryd.prog W 0 spare held 22 v d q) :
    ∃ (p : Option Addr) (cap : Nat) (T : Tb), v = .slice p T.q cap ∧ T.q ≤ 9223372036854775807 ∧ T.q ≤ cap ∧ (∀ i, i < T.q → T.L i ≤ 9223372036854775807) ∧ TM W p T := by
  obtain ⟨p, len, cap, rfl⟩ := okWide_slice Tryd.underlying22 hv
  obtain ⟨fuel, hf⟩ := h
  rcases Go.Deep.open_slice Tryd.underlying22 hf with ⟨e, -⟩ | ⟨a, len', cap', m, n, D, Pl, e, -, hlc, hcm, hm, -, hel⟩
  · simp [Value.cells] at e
    obtain ⟨rfl, rfl, rfl⟩ := e
    exact ⟨none, 0, ⟨0, fun _ => none, fun _ => 0, fun _ => 0, fun _ _ => ⟨0, 0, nul⟩⟩, rfl, by simp, by simp, by simp, .inl rfl⟩
  simp [Value.cells] at e
  obtain ⟨rfl, rfl, rfl⟩ := e
  have hmax : maxLen = 9223372036854775807 := rfl
  have hle : len ≤ m := by rw [hm]; split <;> omega
  rw [vcofR] at hel
  obtain ⟨F, hF⟩ := Go.Deep.choose_lt (α := Option Addr × Nat × Nat × (Nat → Vl)) (n := len) (p := fun i y => W.cells? 0 (a.add (i * 1)) 1 = some [.slice y.1 y.2.1 y.2.2.1] ∧ y.2.1 ≤ 9223372036854775807 ∧ VM W y.1 y.2.1 y.2.2.2) (fun i hi => by
    obtain ⟨cs', g1, g2⟩ := hel i (by omega)
    obtain ⟨p', l', c', v', rfl, hl, hv⟩ := row_trod g2
    exact ⟨(p', l', c', v'), g1, hl, hv⟩)
  refine ⟨some a, cap, ⟨len, fun i => (F i).1, fun i => (F i).2.1, fun i => (F i).2.2.1, fun i => (F i).2.2.2⟩, rfl, by show len ≤ _; omega, hlc, fun i hi => (hF i hi).2.1, ?_⟩
  by_cases h0 : len = 0
  · exact .inl h0
  right
  have hc0 : ∀ i, i < len → W.cell? (a.add i) = some (.slice (F i).1 (F i).2.1 (F i).2.2.1) := fun i hi => by
    have := (World.cells?_some (hF i hi).1).2.2 0 (by omega)
    rw [Go.Deep.add_add, Nat.add_zero, Nat.mul_one] at this
    exact this
  have hsp : W.cell? a = some (.slice (F 0).1 (F 0).2.1 (F 0).2.2.1) := by
    have := hc0 0 (by omega)
    simpa [Addr.add] using this
  have hspot := World.cell?_spot hsp
  obtain ⟨g, o, sp⟩ := a
  simp only at hspot
  subst hspot
  refine ⟨g, o, rfl, blk_of hsp, fun i hi => ⟨?_, (hF i hi).2.2⟩⟩
  have q0 := hc0 i hi
  rw [add_plain] at q0
  exact q0
set_option maxRecDepth 100000 in
theorem open_ints {r0 : Reach} {b0 : Nat} {v : Value} {d : DataW H} {q : List MemPlace} (hv : Value.okWide Tryd.prog W r0 b0 24 v) (h : DataW.Trod enc Tryd.prog W 0 spare held 24 v d q) :
    ∃ (p : Option Addr) (n cap : Nat) (c : Nat → Int), v = .slice p n cap ∧ n ≤ 9223372036854775807 ∧ IM W p n c := by
  obtain ⟨p, len, cap, rfl⟩ := okWide_slice Tryd.underlying24 hv
  obtain ⟨fuel, hf⟩ := h
  rcases Go.Deep.open_slice1 Tryd.underlying24 vcof3 hf with ⟨e, -⟩ | ⟨a, len', cap', m, n, V, D, Pl, e, -, hlc, hcm, hm, -, hel⟩
  · simp [Value.cells] at e
    obtain ⟨rfl, rfl, rfl⟩ := e
    exact ⟨none, 0, 0, fun _ => 0, rfl, by omega, .inl rfl⟩
  simp [Value.cells] at e
  obtain ⟨rfl, rfl, rfl⟩ := e
  have hle : len ≤ m := by rw [hm]; split <;> omega
  obtain ⟨F, hF⟩ := Go.Deep.choose_lt (α := Int) (n := len) (p := fun i y => W.cell? (a.add i) = some (.int .i64 y)) (fun i hi => by
    obtain ⟨g1, g2⟩ := hel i (by omega)
    obtain ⟨y, e0, -, -⟩ := DataW.trod_int Tryd.underlying3 g2
    simp at e0
    exact ⟨y, by rw [g1, e0]⟩)
  have hmx : maxLen = 9223372036854775807 := rfl
  refine ⟨some a, len, cap, F, rfl, by omega, ?_⟩
  by_cases h0 : len = 0
  · exact .inl h0
  right
  have hsp : W.cell? a = some (.int .i64 (F 0)) := by
    have := hF 0 (by omega)
    simpa [Addr.add] using this
  have hspot := World.cell?_spot hsp
  obtain ⟨g, o, sp⟩ := a
  simp only at hspot
  subst hspot
  refine ⟨g, o, rfl, blk_of hsp, fun i hi => ?_⟩
  have := hF i hi
  rw [add_plain] at this
  exact this
end
end Go.Proofs.YtehamdkjdbaceaaDoor.so
