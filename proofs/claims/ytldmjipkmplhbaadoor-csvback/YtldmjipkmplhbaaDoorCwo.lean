
/- Rows of texts that were handed in lie in memory as they are read; how long they are at the most. Nothing is walked here. -/
import Derived.Test.YtldmjipkmplhbaaDoorCva
import Derived.OpenShut
import Derived.Deep.Slices
import Derived.Deep.Strs
import Derived.Lib.SmallJoins
import Derived.SizedLaws
namespace Go.Proofs.YtldmjipkmplhbaaDoor.fw
open Go.ChangeShapes Go.WideShapes Go.ChangeAt Go.RowKit
theorem cof9 : Tryd.prog.cellsOf 9 = 1 := by kernel_rfl
theorem cofR : Tryd.prog.cellsOf 37 = 1 := by kernel_rfl
theorem bof9 : Tryd.prog.bytesOf 9 = 16 := by kernel_rfl
theorem bofR : Tryd.prog.bytesOf 37 = 24 := by kernel_rfl
theorem add_flat (g o k : Nat) : (⟨g, o, none⟩ : Addr).add k = ⟨g, o + k, none⟩ := by
  unfold Addr.add
  by_cases h : k = 0 <;> simp [h]
theorem blk_lt {W : World} {g o : Nat} {v : Value} (h : W.cell? ⟨g, o, none⟩ = some v) : g < W.heap.size := by
  unfold World.cell? at h
  rcases Nat.lt_or_ge g W.heap.size with h' | h'
  · exact h'
  · rw [Array.getElem?_eq_none h'] at h
    simp at h
section
variable {H : Type} {enc : TypeId × Value → H} {W : World} {spare : Nat → Bool} {held : Bool}
theorem all_weights {e : TypeId} : ∀ {l : List (DataW H)} {d : DataW H}, d ∈ l → ∀ n ∈ d.weights Tryd.prog e, n ∈ DataW.weightsAll Tryd.prog e l
  | [], _, h, _, _ => by cases h
  | x :: l, d, h, n, hn => by
    rw [DataW.weightsAll, List.mem_append]
    rcases List.mem_cons.1 h with rfl | h
    · exact .inl hn
    · exact .inr (all_weights h n hn)
set_option maxRecDepth 100000 in
theorem row_open {fuel : Nat} {v : Value} {x : DataW H × List MemPlace} (h : DataW.trod enc Tryd.prog W 0 spare held fuel 37 [v] = some x) :
    ∃ (p : Option Addr) (r : List ByteArray) (c : Nat), v = .slice p r.length c ∧ SM W p r ∧ ((∀ n ∈ x.1.weights Tryd.prog 37, n ≤ reachBytes) → r.length ≤ 70368744177664 ∧ ∀ f ∈ r, f.size ≤ 140737488355328) := by
  have hreach : reachBytes = 140737488351232 := rfl
  rcases Go.Deep.open_slice1 Tryd.underlying37 cof9 h with ⟨e, -⟩ | ⟨a, len, cap, m, n, V, D, Pl, e, -, hlc, hcm, hm, hx, hel⟩
  · simp at e
    subst e
    exact ⟨none, [], 0, rfl, .inl rfl, fun _ => ⟨by simp, fun f hf => by cases hf⟩⟩
  simp at e
  subst e
  have hle : len ≤ m := by rw [hm]; split <;> omega
  obtain ⟨S, hS⟩ := Go.Deep.choose_lt (α := ByteArray) (n := len) (p := fun i s => W.cell? (a.add i) = some (.string s) ∧ D i = .lit (.string s.data.toList)) (fun i hi => by
    obtain ⟨g1, g2⟩ := hel i (by omega)
    obtain ⟨s, e0, e1, -⟩ := DataW.trod_string Tryd.underlying9 g2
    simp at e0
    injection e1 with e1 e2
    exact ⟨s, by rw [g1, e0], e1⟩)
  have hlen : ((List.range len).map S).length = len := by simp
  refine ⟨some a, (List.range len).map S, cap, by rw [hlen], ?_, fun hz => ?_⟩
  · by_cases h0 : len = 0
    · exact .inl (by rw [h0]; rfl)
    · have hsp : W.cell? a = some (.string (S 0)) := by
        have := (hS 0 (by omega)).1
        simpa [Addr.add] using this
      have hspot := World.cell?_spot hsp
      obtain ⟨g, o, sp⟩ := a
      simp only at hspot
      subst hspot
      refine .inr ⟨g, o, rfl, blk_lt hsp, fun i s hs => ?_⟩
      rw [List.getElem?_map] at hs
      obtain ⟨j, hj, rfl⟩ := Option.map_eq_some_iff.1 hs
      have hi : i < len := by have := (List.getElem?_eq_some_iff.1 hj).1; simpa using this
      rw [List.getElem?_range hi] at hj
      obtain rfl := Option.some.inj hj
      have := (hS i hi).1
      rw [add_flat] at this
      exact this
  · rw [hx] at hz
    have hw : ∀ n ∈ ((((List.range len).map D).length + ((List.range (m - len)).map fun j => D (len + j)).length) * Tryd.prog.bytesOf 9 :: (DataW.weightsAll Tryd.prog 9 ((List.range len).map D) ++ DataW.weightsAll Tryd.prog 9 ((List.range (m - len)).map fun j => D (len + j)))), n ≤ reachBytes := by
      intro n hn
      refine hz n ?_
      rw [DataW.weights, Tryd.underlying37]
      exact hn
    rw [hlen]
    constructor
    · have := hw _ List.mem_cons_self
      rw [bof9, List.length_map, List.length_range] at this
      omega
    · intro f hf
      obtain ⟨i, hi, rfl⟩ := List.mem_map.1 hf
      have hi' : i < len := List.mem_range.1 hi
      have h1 : (S i).data.toList.length ∈ (D i).weights Tryd.prog 9 := by
        rw [(hS i hi').2, DataW.weights]
        exact List.mem_singleton.2 rfl
      have := hw _ (List.mem_cons_of_mem _ (List.mem_append_left _ (all_weights (List.mem_map.2 ⟨i, hi, rfl⟩) _ h1)))
      have e2 : (S i).data.toList.length = (S i).size := by simp
      omega
set_option maxRecDepth 100000 in
theorem open_rows {r0 : Reach} {b0 : Nat} {v : Value} {d : DataW H} {q : List MemPlace} (hv : Value.okWide Tryd.prog W r0 b0 22 v) (h : DataW.Trod enc Tryd.prog W 0 spare held 22 v d q) (hz : ∀ n ∈ d.weights Tryd.prog 22, n ≤ reachBytes) :
    ∃ (p : Option Addr) (t : List (List ByteArray)) (c : Nat), v = .slice p t.length c ∧ RM W p t ∧ t.length ≤ 70368744177664 ∧ ∀ r ∈ t, r.length ≤ 70368744177664 ∧ ∀ f ∈ r, f.size ≤ 140737488355328 := by
  have hreach : reachBytes = 140737488351232 := rfl
  obtain ⟨p, len, cap, rfl⟩ := okWide_slice Tryd.underlying22 hv
  obtain ⟨fuel, hf⟩ := h
  rcases Go.Deep.open_slice1 Tryd.underlying22 cofR hf with ⟨e, -⟩ | ⟨a, len', cap', m, n, V, D, Pl, e, -, hlc, hcm, hm, hx, hel⟩
  · simp [Value.cells] at e
    obtain ⟨rfl, rfl, rfl⟩ := e
    exact ⟨none, [], 0, rfl, .inl rfl, by simp, fun r hr => by cases hr⟩
  simp [Value.cells] at e
  obtain ⟨rfl, rfl, rfl⟩ := e
  have hle : len ≤ m := by rw [hm]; split <;> omega
  injection hx with hx _
  rw [hx] at hz
  have hw : ∀ n ∈ ((((List.range len).map D).length + ((List.range (m - len)).map fun j => D (len + j)).length) * Tryd.prog.bytesOf 37 :: (DataW.weightsAll Tryd.prog 37 ((List.range len).map D) ++ DataW.weightsAll Tryd.prog 37 ((List.range (m - len)).map fun j => D (len + j)))), n ≤ reachBytes := by
    intro n hn
    refine hz n ?_
    rw [DataW.weights, Tryd.underlying22]
    exact hn
  obtain ⟨F, hF⟩ := Go.Deep.choose_lt (α := Option Addr × List ByteArray × Nat) (n := len) (p := fun i y => W.cell? (a.add i) = some (.slice y.1 y.2.1.length y.2.2) ∧ SM W y.1 y.2.1 ∧ (y.2.1.length ≤ 70368744177664 ∧ ∀ f ∈ y.2.1, f.size ≤ 140737488355328)) (fun i hi => by
    obtain ⟨g1, g2⟩ := hel i (by omega)
    obtain ⟨p', r', c', e1, e2, e3⟩ := row_open g2
    refine ⟨(p', r', c'), by rw [g1, e1], e2, e3 fun n hn => ?_⟩
    exact hw n (List.mem_cons_of_mem _ (List.mem_append_left _ (all_weights (List.mem_map.2 ⟨i, List.mem_range.2 hi, rfl⟩) n hn))))
  have hlen : ((List.range len).map fun i => (F i).2.1).length = len := by simp
  refine ⟨some a, (List.range len).map fun i => (F i).2.1, cap, by rw [hlen], ?_, ?_, ?_⟩
  · by_cases h0 : len = 0
    · exact .inl (by rw [h0]; rfl)
    · have hsp : W.cell? a = some (.slice (F 0).1 (F 0).2.1.length (F 0).2.2) := by
        have := (hF 0 (by omega)).1
        simpa [Addr.add] using this
      have hspot := World.cell?_spot hsp
      obtain ⟨g, o, sp⟩ := a
      simp only at hspot
      subst hspot
      refine .inr ⟨g, o, rfl, blk_lt hsp, fun i r hr => ?_⟩
      rw [List.getElem?_map] at hr
      obtain ⟨j, hj, rfl⟩ := Option.map_eq_some_iff.1 hr
      have hi : i < len := by have := (List.getElem?_eq_some_iff.1 hj).1; simpa using this
      rw [List.getElem?_range hi] at hj
      obtain rfl := Option.some.inj hj
      have := (hF i hi).1
      rw [add_flat] at this
      exact ⟨_, _, this, (hF i hi).2.1⟩
  · rw [hlen]
    have := hw _ List.mem_cons_self
    rw [bofR, List.length_map, List.length_range] at this
    omega
  · intro r hr
    obtain ⟨i, hi, rfl⟩ := List.mem_map.1 hr
    exact (hF i (List.mem_range.1 hi)).2.2
end
end Go.Proofs.YtldmjipkmplhbaaDoor.fw
