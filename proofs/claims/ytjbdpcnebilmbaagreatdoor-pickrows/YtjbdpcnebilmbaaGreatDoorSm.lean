
/- Wants that were handed in lie in memory as they are read. Nothing is walked here. -/
import Derived.Test.YtjbdpcnebilmbaaGreatDoorSp
import Derived.Test.YtjbdpcnebilmbaaGreatDoorSx
namespace Go.Proofs.YtjbdpcnebilmbaaGreatDoor.so
open Go.ChangeShapes Go.WideShapes Go.ChangeAt Go.RowKit
theorem vcofW : Tryz.prog.cellsOf 40 = 5 := by kernel_rfl
theorem list5 {α : Type} {l : List α} (h : l.length = 5) : ∃ a b c d e, l = [a, b, c, d, e] := by
  match l, h with
  | [a, b, c, d, e], _ => exact ⟨a, b, c, d, e, rfl⟩
section
variable {H : Type} {enc : TypeId × Value → H} {W : World} {spare : Nat → Bool} {held : Bool}
set_option maxRecDepth 100000 in
theorem want_trod {base fuel : Nat} {cs : List Value} {x : DataW H × List MemPlace} (h : DataW.trod enc Tryz.prog W base spare held fuel 40 cs = some x) :
    ∃ y : Wt, cs = [.int .i64 y.c, .int .i64 y.o, .int .i64 y.v.k, .int .i64 y.v.n, .string y.v.s] := by
  obtain ⟨y0, y1, y2, n, hx, hl, h0, h1, h2⟩ := Go.Deep.trod_struct3 Tryz.underlying40 h
  obtain ⟨a0, a1, a2, a3, a4, rfl⟩ := list5 (hl.trans vcofW)
  simp only [vcof3, vcofV, List.drop_zero, List.drop_succ_cons, List.take_succ_cons, List.take_zero] at h0 h1 h2
  obtain ⟨k, e0, -, -⟩ := DataW.trod_int Tryz.underlying3 h0
  obtain ⟨m, e1, -, -⟩ := DataW.trod_int Tryz.underlying3 h1
  obtain ⟨v, e2⟩ := val_trod h2
  simp at e0 e1 e2
  obtain ⟨rfl, rfl, rfl⟩ := e2
  subst e0 e1
  exact ⟨⟨k, m, v⟩, rfl⟩
set_option maxRecDepth 100000 in
theorem open_wants {r0 : Reach} {b0 : Nat} {v : Value} {d : DataW H} {q : List MemPlace} (hv : Value.okWide Tryz.prog W r0 b0 23 v) (h : DataW.Trod enc Tryz.prog W 0 spare held 23 v d q) :
    ∃ (p : Option Addr) (n cap : Nat) (f : Nat → Wt), v = .slice p n cap ∧ n ≤ 9223372036854775807 ∧ n ≤ cap ∧ WM W p n f := by
  obtain ⟨p, len, cap, rfl⟩ := okWide_slice Tryz.underlying23 hv
  obtain ⟨fuel, hf⟩ := h
  rcases Go.Deep.open_slice Tryz.underlying23 hf with ⟨e, -⟩ | ⟨a, len', cap', m, n, D, Pl, e, -, hlc, hcm, hm, -, hel⟩
  · simp [Value.cells] at e
    obtain ⟨rfl, rfl, rfl⟩ := e
    exact ⟨none, 0, 0, fun _ => ⟨0, 0, ⟨0, 0, nul⟩⟩, rfl, by omega, by omega, .inl rfl⟩
  simp [Value.cells] at e
  obtain ⟨rfl, rfl, rfl⟩ := e
  have hmax : maxLen = 9223372036854775807 := rfl
  have hle : len ≤ m := by rw [hm]; split <;> omega
  rw [vcofW] at hel
  haveI : Inhabited Wt := ⟨⟨0, 0, ⟨0, 0, nul⟩⟩⟩
  obtain ⟨F, hF⟩ := Go.Deep.choose_lt (α := Wt) (n := len) (p := fun i y => W.cells? 0 (a.add (i * 5)) 5 = some [.int .i64 y.c, .int .i64 y.o, .int .i64 y.v.k, .int .i64 y.v.n, .string y.v.s]) (fun i hi => by
    obtain ⟨cs', g1, g2⟩ := hel i (by omega)
    obtain ⟨y, rfl⟩ := want_trod g2
    exact ⟨y, g1⟩)
  refine ⟨some a, len, cap, F, rfl, by omega, hlc, ?_⟩
  by_cases h0 : len = 0
  · exact .inl h0
  right
  have hc0 : ∀ i, i < len → ∀ j, j < 5 → W.cell? (a.add (i * 5 + j)) = ([.int .i64 (F i).c, .int .i64 (F i).o, .int .i64 (F i).v.k, .int .i64 (F i).v.n, .string (F i).v.s] : List Value)[j]? := fun i hi j hj => by
    have := (World.cells?_some (hF i hi)).2.2 j hj
    rw [Go.Deep.add_add] at this
    exact this
  have hsp : W.cell? a = some (.int .i64 (F 0).c) := by
    have := hc0 0 (by omega) 0 (by omega)
    simpa [Addr.add] using this
  have hspot := World.cell?_spot hsp
  obtain ⟨g, o, sp⟩ := a
  simp only at hspot
  subst hspot
  refine ⟨g, o, rfl, blk_of hsp, fun i hi => ?_⟩
  have q0 := hc0 i hi 0 (by omega)
  have q1 := hc0 i hi 1 (by omega)
  have q2 := hc0 i hi 2 (by omega)
  have q3 := hc0 i hi 3 (by omega)
  have q4 := hc0 i hi 4 (by omega)
  rw [add_plain] at q0 q1 q2 q3 q4
  exact ⟨q0, by rw [Nat.add_assoc]; exact q1, by rw [Nat.add_assoc]; exact q2, by rw [Nat.add_assoc]; exact q3, by rw [Nat.add_assoc]; exact q4⟩
end
end Go.Proofs.YtjbdpcnebilmbaaGreatDoor.so
