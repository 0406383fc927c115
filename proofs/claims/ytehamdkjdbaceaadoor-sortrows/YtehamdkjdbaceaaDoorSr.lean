
/- Keys that were handed in lie in memory as they are read. Nothing is walked here. -/
import Derived.Test.YtehamdkjdbaceaaDoorSp
import Derived.SizedLaws
namespace Go.Proofs.YtehamdkjdbaceaaDoor.so
open Go.ChangeShapes Go.WideShapes Go.ChangeAt Go.RowKit
theorem bytesK : Tryd.prog.bytesOf 50 = 16 := by kernel_rfl
section
variable {H : Type} {enc : TypeId × Value → H} {W : World} {spare : Nat → Bool} {held : Bool}
set_option maxRecDepth 100000 in
theorem key_trod {base fuel : Nat} {cs : List Value} {x : DataW H × List MemPlace} (h : DataW.trod enc Tryd.prog W base spare held fuel 50 cs = some x) :
    ∃ (c : Int) (d : Bool), cs = [.int .i64 c, .bool d] := by
  obtain ⟨y0, y1, n, hx, hl, h0, h1⟩ := trod_struct2 Tryd.underlying50 h
  obtain ⟨a0, a1, rfl⟩ := list2 (hl.trans vcofK)
  simp only [vcof3, vcof4, List.drop_zero, List.drop_succ_cons, List.take_succ_cons, List.take_zero] at h0 h1
  obtain ⟨k, e0, -, -⟩ := DataW.trod_int Tryd.underlying3 h0
  obtain ⟨m, e1, -⟩ := DataW.trod_bool Tryd.underlying4 h1
  simp at e0 e1
  subst e0 e1
  exact ⟨k, m, rfl⟩
set_option maxRecDepth 100000 in
theorem open_keys {r0 : Reach} {b0 : Nat} {v : Value} {d : DataW H} {q : List MemPlace} (hv : Value.okWide Tryd.prog W r0 b0 23 v) (h : DataW.Trod enc Tryd.prog W 0 spare held 23 v d q) :
    ∃ (p : Option Addr) (n cap : Nat) (c : Nat → Int) (e : Nat → Bool), v = .slice p n cap ∧ KM W p n c e ∧ (n = 0 ∨ ∃ elems sp, d = .slice elems sp ∧ elems.length = n) := by
  obtain ⟨p, len, cap, rfl⟩ := okWide_slice Tryd.underlying23 hv
  obtain ⟨fuel, hf⟩ := h
  rcases Go.Deep.open_slice Tryd.underlying23 hf with ⟨e, -⟩ | ⟨a, len', cap', m, n, D, Pl, e, -, hlc, hcm, hm, hx, hel⟩
  · simp [Value.cells] at e
    obtain ⟨rfl, rfl, rfl⟩ := e
    exact ⟨none, 0, 0, fun _ => 0, fun _ => false, rfl, .inl rfl, .inl rfl⟩
  simp [Value.cells] at e
  obtain ⟨rfl, rfl, rfl⟩ := e
  have hle : len ≤ m := by rw [hm]; split <;> omega
  rw [vcofK] at hel
  injection hx with hx _
  obtain ⟨F, hF⟩ := Go.Deep.choose_lt (α := Int × Bool) (n := len) (p := fun i y => W.cells? 0 (a.add (i * 2)) 2 = some [.int .i64 y.1, .bool y.2]) (fun i hi => by
    obtain ⟨cs', g1, g2⟩ := hel i (by omega)
    obtain ⟨c, d, rfl⟩ := key_trod g2
    exact ⟨(c, d), g1⟩)
  refine ⟨some a, len, cap, fun i => (F i).1, fun i => (F i).2, rfl, ?_, .inr ⟨_, _, hx, by simp⟩⟩
  by_cases h0 : len = 0
  · exact .inl h0
  right
  have hc0 : ∀ i, i < len → ∀ j, j < 2 → W.cell? (a.add (i * 2 + j)) = ([.int .i64 (F i).1, .bool (F i).2] : List Value)[j]? := fun i hi j hj => by
    have := (World.cells?_some (hF i hi)).2.2 j hj
    rw [Go.Deep.add_add] at this
    exact this
  have hsp : W.cell? a = some (.int .i64 (F 0).1) := by
    have := hc0 0 (by omega) 0 (by omega)
    simpa [Addr.add] using this
  have hspot := World.cell?_spot hsp
  obtain ⟨g, o, sp⟩ := a
  simp only at hspot
  subst hspot
  refine ⟨g, o, rfl, blk_of hsp, fun i hi => ?_⟩
  have q0 := hc0 i hi 0 (by omega)
  have q1 := hc0 i hi 1 (by omega)
  rw [add_plain] at q0 q1
  exact ⟨q0, by rw [Nat.add_assoc]; exact q1⟩
end
end Go.Proofs.YtehamdkjdbaceaaDoor.so
