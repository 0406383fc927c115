
/- A list of cells with their texts that was handed in, with its room. Conditions: as the theorem says. -/
import Derived.Test.YtomgjjngkffbbaaGreatDoorFop
import Derived.Deep.MidRow
import Derived.ProofKit
import Derived.OpenShut
import Derived.Deep.Slices
import Derived.Deep.Strs
import Derived.Lib.SmallJoins
namespace Go.Proofs.YtomgjjngkffbbaaGreatDoor.ps
open Go.ChangeShapes Go.WideShapes Go.ChangeAt Go.RowKit
open adr (C isC)
section
variable {H : Type} {enc : TypeId × Value → H} {W : World} {base : Nat} {spare : Nat → Bool} {held : Bool}
set_option maxRecDepth 100000 in
theorem open_fills2 {r0 : Reach} {b0 : Nat} {v : Value} {d : DataW H} {q : List MemPlace} (hv : Value.okWide Tryz.prog W r0 b0 22 v) (h : DataW.Trod enc Tryz.prog W 0 spare held 22 v d q) :
    ∃ (p : Option Addr) (xs : List Fl) (cap : Nat), v = .slice p xs.length cap ∧ FM W p xs ∧ xs.length ≤ cap := by
  obtain ⟨p, len, cap, rfl⟩ := okWide_slice Tryz.underlying22 hv
  obtain ⟨fuel, hf⟩ := h
  rcases Go.Deep.open_slice Tryz.underlying22 hf with ⟨e, -⟩ | ⟨a, len', cap', m, n, D, Pl, e, -, hlc, hcm, hm, -, hel⟩
  · simp [Value.cells] at e
    obtain ⟨rfl, rfl, rfl⟩ := e
    exact ⟨none, [], 0, rfl, .inl rfl, Nat.le_refl _⟩
  simp [Value.cells] at e
  obtain ⟨rfl, rfl, rfl⟩ := e
  have hle : len ≤ m := by rw [hm]; split <;> omega
  rw [vcof33] at hel
  haveI : Inhabited Fl := ⟨⟨0, 0, nul⟩⟩
  obtain ⟨F, hF⟩ := Go.Deep.choose_lt (α := Fl) (n := len) (p := fun i y => W.cells? 0 (a.add (i * 3)) 3 = some (fl3 y)) (fun i hi => by
    obtain ⟨cs', g1, g2⟩ := hel i (by omega)
    obtain ⟨f, rfl⟩ := fl_trod g2
    exact ⟨f, g1⟩)
  have hlen : ((List.range len).map F).length = len := by simp
  refine ⟨some a, (List.range len).map F, cap, by rw [hlen], ?_, by rw [hlen]; exact hlc⟩
  by_cases h0 : len = 0
  · left; subst h0; rfl
  right
  have hc0 : ∀ i, i < len → ∀ j, j < 3 → W.cell? (a.add (i * 3 + j)) = (fl3 (F i))[j]? := fun i hi j hj => by
    have := (World.cells?_some (hF i hi)).2.2 j hj
    rw [Go.Deep.add_add] at this
    exact this
  have hsp : W.cell? a = some (.int .i64 (F 0).c) := by
    have := hc0 0 (by omega) 0 (by omega)
    simpa [Addr.add] using this
  have hspot := World.cell?_spot hsp
  obtain ⟨g, o, sp⟩ := a
  simp only at hspot
  subst hspot
  refine ⟨g, o, rfl, ?_, fun t u hu => ?_⟩
  · unfold World.cell? at hsp
    rcases Nat.lt_or_ge g W.heap.size with h | h
    · exact h
    · rw [Array.getElem?_eq_none h] at hsp
      simp at hsp
  · obtain ⟨i, j, x, rfl, hj, hx, hu'⟩ := flF_inv hu
    have hi : i < len := by have := (List.getElem?_eq_some_iff.1 hx).1; rw [hlen] at this; exact this
    have hxF : x = F i := by
      rw [List.getElem?_map, List.getElem?_range hi] at hx
      simpa using hx.symm
    subst hxF
    have := hc0 i hi j hj
    rw [add_plain, hu'] at this
    exact this
end
end Go.Proofs.YtomgjjngkffbbaaGreatDoor.ps
