/- A map of the call's own whose keys are structs, whatever its elements: made, written, looked up. No program is walked here. -/
import Derived.Maps.Keyed
import Derived.DeepKeys4
import Derived.Below
import Derived.Maps.OwnOps
namespace Go.Proofs.YtoaejcppfmjhdaaGreatDoor.mp
open Go.RowKit
open Go.ChangeMaps (setBlock)
/-- Block b is a map that has f's values at f's keys. -/
def CM (P : Program) (kt : TypeId) (w : World) (b : Nat) (f : Value → Option Value) : Prop :=
  ∃ es clock, w.heap[b]? = some (.map es clock) ∧ (∀ e ∈ es.toList, ∃ l, keyOf P kt e.key = some l) ∧ (∀ e ∈ es.toList, f e.key = some e.val) ∧ (∀ x v, f x = some v → ∃ e ∈ es.toList, e.key = x) ∧ ∀ (i j : Nat) e e', es.toList[i]? = some e → es.toList[j]? = some e' → e.key = e'.key → i = j
section
variable {P : Program} {kt et mt : TypeId} {w : World} {b : Nat} {f : Value → Option Value}
theorem cm_empty (h : w.heap[b]? = some (.map #[] 0)) : CM P kt w b (fun _ => none) := ⟨#[], 0, h, fun e he => by simp at he, fun e he => by simp at he, fun x v h => (by cases h), fun i j e e' h => (by simp at h)⟩
theorem cm_below {w' : World} (h : CM P kt w b f) (hb : w'.heap[b]? = w.heap[b]?) : CM P kt w' b f := by
  obtain ⟨es, clock, h1, h2⟩ := h
  exact ⟨es, clock, hb.trans h1, h2⟩
theorem cm_lookup (L : WideMaps.KeyLaw P kt) (hm : P.underlying mt = some (.map kt et)) {z : Value} (hz : (zeroValue et).run P w = .ok z w) (h : CM P kt w b f) {x : Value} {l : Lit} (hx : keyOf P kt x = some l) :
    (Instr.lookup mt (.map (some b)) x false).run P w = .ok ((f x).getD z) w ∧ (Instr.lookup mt (.map (some b)) x true).run P w = .ok (.tuple #[(f x).getD z, .bool (f x).isSome]) w := by
  obtain ⟨es, clock, hb, hk, hf, hg, -⟩ := h
  rcases L.find w hx es.toList hk with ⟨h1, h2⟩ | ⟨j, e0, h1, h2, h3⟩
  · have hn : f x = none := by
      cases hv : f x with
      | none => rfl
      | some v => obtain ⟨e, he, h4⟩ := hg x v hv; exact absurd h4 (h2 e he)
    rw [hn]
    constructor
    · simp [Instr.lookup, run_underlying hm, MapKept.run_getObj_map hb, L.check w _ hx, h1, hz, Result.andThen]
    · simp [Instr.lookup, run_underlying hm, MapKept.run_getObj_map hb, L.check w _ hx, h1, hz, Result.andThen]
  · have hv : f x = some e0.val := by rw [← h3]; exact hf e0 (List.mem_of_getElem? h2)
    rw [hv]
    constructor
    · simp [Instr.lookup, run_underlying hm, MapKept.run_getObj_map hb, L.check w _ hx, h1, Result.andThen]
    · simp [Instr.lookup, run_underlying hm, MapKept.run_getObj_map hb, L.check w _ hx, h1, Result.andThen]
open Classical in
/-- f with another value at a key. -/
noncomputable def upd (f : Value → Option Value) (x v : Value) : Value → Option Value := fun y => if y = x then some v else f y
theorem upd_same (f : Value → Option Value) (x v : Value) : upd f x v x = some v := if_pos rfl
theorem upd_other (f : Value → Option Value) {x y : Value} (v : Value) (h : y ≠ x) : upd f x v y = f y := if_neg h
theorem cm_update (L : WideMaps.KeyLaw P kt) (hm : P.underlying mt = some (.map kt et)) (h : CM P kt w b f) {x v : Value} {l : Lit} (hx : keyOf P kt x = some l) :
    ∃ o, (Instr.mapUpdate mt (.map (some b)) x v).run P w = .ok () (setBlock w b o) ∧ CM P kt (setBlock w b o) b (upd f x v) := by
  obtain ⟨es, clock, hb, hk, hf, hg, hu⟩ := h
  have hlt : b < w.heap.size := (Array.getElem?_eq_some_iff.1 hb).1
  have hnew : ∀ o, (setBlock w b o).heap[b]? = some o := fun o => by
    unfold setBlock
    simp [hlt]
  rcases L.find w hx es.toList hk with ⟨h1, h2⟩ | ⟨j, e0, h1, h2, h3⟩
  · refine ⟨.map (es.push ⟨x, v, clock⟩) (clock + 1), ?_, es.push ⟨x, v, clock⟩, clock + 1, hnew _, ?_, ?_, ?_, ?_⟩
    · simp [Instr.mapUpdate, run_underlying hm, MapKept.run_getObj_map hb, L.check w false hx, h1, MapKept.run_setObj_map _ hb, Result.andThen, setBlock]
    · intro e he
      simp only [Array.toList_push, List.mem_append, List.mem_singleton] at he
      rcases he with he | rfl
      · exact hk e he
      · exact ⟨l, hx⟩
    · intro e he
      simp only [Array.toList_push, List.mem_append, List.mem_singleton] at he
      rcases he with he | rfl
      · rw [upd_other f v (h2 e he)]; exact hf e he
      · exact upd_same f x v
    · intro y u hy
      by_cases e : y = x
      · subst e
        exact ⟨⟨y, v, clock⟩, by simp, rfl⟩
      · rw [upd_other f v e] at hy
        obtain ⟨e1, he1, h4⟩ := hg y u hy
        exact ⟨e1, by simp only [Array.toList_push, List.mem_append]; exact .inl he1, h4⟩
    · intro i j e e' hi hj hee
      simp only [Array.toList_push] at hi hj
      have hlast : ∀ (i : Nat) e, (es.toList ++ [⟨x, v, clock⟩])[i]? = some e → es.toList[i]? = some e ∨ (i = es.toList.length ∧ e.key = x) := fun i e h => by
        rcases Nat.lt_trichotomy i es.toList.length with q | q | q
        · rw [List.getElem?_append_left q] at h; exact .inl h
        · rw [List.getElem?_append_right (by omega), q] at h; simp at h; exact .inr ⟨q, by rw [← h]⟩
        · rw [List.getElem?_append_right (by omega), List.getElem?_eq_none (by simp only [List.length_singleton]; omega)] at h; cases h
      rcases hlast i e hi with q1 | ⟨q1, q2⟩ <;> rcases hlast j e' hj with q3 | ⟨q3, q4⟩
      · exact hu i j e e' q1 q3 hee
      · exact absurd (hee.trans q4) (h2 e (List.mem_of_getElem? q1))
      · exact absurd (hee.symm.trans q2) (h2 e' (List.mem_of_getElem? q3))
      · omega
  · have hj : es[j]? = some e0 := by simpa using h2
    have hjl : j < es.size := (Array.getElem?_eq_some_iff.1 hj).1
    have hst := L.stays w hx
    have hlist : (es.modify j (fun e' => { e' with key := x, val := v })).toList = es.toList.set j { e0 with key := x, val := v } := by rw [Array.toList_modify, ChangeMaps.modify_eq_set _ _ _ _ h2]
    have who : ∀ (i : Nat) e, (es.toList.set j { e0 with key := x, val := v })[i]? = some e → (i = j ∧ e.key = x ∧ e.val = v) ∨ (i ≠ j ∧ es.toList[i]? = some e ∧ e.key ≠ x) := fun i e hi => by
      rw [List.getElem?_set] at hi
      split at hi
      · next q =>
        subst q
        split at hi
        · cases hi; exact .inl ⟨rfl, rfl, rfl⟩
        · cases hi
      · next q => exact .inr ⟨fun e1 => q e1.symm, hi, fun e1 => q (hu j i e0 e h2 hi (h3.trans e1.symm))⟩
    refine ⟨.map (es.modify j fun e => { e with key := x, val := v }) clock, ?_, es.modify j fun e => { e with key := x, val := v }, clock, hnew _, ?_, ?_, ?_, ?_⟩
    · simp [Instr.mapUpdate, run_underlying hm, MapKept.run_getObj_map hb, L.check w false hx, h1, hj, h3, hst, MapKept.run_setObj_map _ hb, Result.andThen, setBlock]
    · intro e he
      rw [hlist] at he
      obtain ⟨i, hi⟩ := List.getElem?_of_mem he
      rcases who i e hi with ⟨-, q, -⟩ | ⟨-, q, -⟩
      · exact ⟨l, by rw [q]; exact hx⟩
      · exact hk e (List.mem_of_getElem? q)
    · intro e he
      rw [hlist] at he
      obtain ⟨i, hi⟩ := List.getElem?_of_mem he
      rcases who i e hi with ⟨-, q, q2⟩ | ⟨-, q, q2⟩
      · rw [q, q2]; exact upd_same f x v
      · rw [upd_other f v q2]; exact hf e (List.mem_of_getElem? q)
    · intro y u hy
      rw [hlist]
      by_cases e : y = x
      · subst e
        exact ⟨{ e0 with key := y, val := v }, List.mem_of_getElem? (i := j) (by rw [List.getElem?_set, if_pos rfl, if_pos (by simpa using hjl)]), rfl⟩
      · rw [upd_other f v e] at hy
        obtain ⟨e1, he1, h4⟩ := hg y u hy
        obtain ⟨i, hi⟩ := List.getElem?_of_mem he1
        refine ⟨e1, List.mem_of_getElem? (i := i) ?_, h4⟩
        rw [List.getElem?_set, if_neg (fun q => by subst q; rw [hi] at h2; cases h2; exact e (h4.symm.trans h3))]
        exact hi
    · intro i i' e e' hi hi' hee
      rw [hlist] at hi hi'
      rcases who i e hi with ⟨q1, q2, -⟩ | ⟨q1, q2, q3⟩ <;> rcases who i' e' hi' with ⟨r1, r2, -⟩ | ⟨r1, r2, r3⟩
      · omega
      · exact absurd (hee.symm.trans q2) r3
      · exact absurd (hee.trans r2) q3
      · exact hu i i' e e' q2 r2 hee
end
/-- A store into a map: an equation of the operation's run, laid into the walk. -/
theorem wpList_mapUpdate_eq {P : Program} {w : World} {ops : Array Oper} {rest : List Oper} {o : Oper} {a : Act} {Q : Exit → Act → World → Prop} (hg : o.guard = none) (m x v : Operand) (t : TypeId) (hop : o.op = Op.mapUpdate t m x v)
    (mv key val : Value) (w' : World) (hm : a.eval m = mv) (hx : a.eval x = key) (hv : a.eval v = val) (hr : (Instr.mapUpdate t mv key val).run P w = .ok () w') (h : wpList P ops Q rest (a.put o.dst undef) w') : wpList P ops Q (o :: rest) a w := by
  refine wpList_plain hg fun K' hK' => ?_
  unfold Oper.wp
  simp [execOp, hop, hm, hx, hv, hr, Result.andThen]
  exact hK' _ _ h
/-- A look into a map, likewise. -/
theorem wpList_lookup_eq {P : Program} {w : World} {ops : Array Oper} {rest : List Oper} {o : Oper} {a : Act} {Q : Exit → Act → World → Prop} (hg : o.guard = none) (m x : Operand) (t : TypeId) (ok : Bool) (hop : o.op = Op.lookup t m x ok)
    (mv key val : Value) (hm : a.eval m = mv) (hx : a.eval x = key) (hr : (Instr.lookup t mv key ok).run P w = .ok val w) (h : wpList P ops Q rest (a.put o.dst val) w) : wpList P ops Q (o :: rest) a w := by
  refine wpList_plain hg fun K' hK' => ?_
  unfold Oper.wp
  simp [execOp, hop, hm, hx, hr, Result.andThen]
  exact hK' _ _ h
end Go.Proofs.YtoaejcppfmjhdaaGreatDoor.mp
