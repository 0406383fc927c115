
/- A list of values that grows. Conditions: as each theorem says. -/
import Derived.Test.YtbiikodnfaeceaaGreatDoorSe
namespace Go.Proofs.YtbiikodnfaeceaaGreatDoor.so
open Go.RowKit Go.Sort Go.Shelf
theorem infoV : (Tryz.prog.info? 36).map (fun i => (i.zero, i.size, i.bytes)) = some (some (.agg #[.int .i64 0, .int .i64 0, .string nul]), 3, 32) := by kernel_rfl
def v3 (x : Vl) : List Value := [.int .i64 x.k, .int .i64 x.n, .string x.s]
def vals (l : List Vl) : List Value := l.flatMap v3
theorem vals_len (l : List Vl) : (vals l).length = l.length * 3 := by
  induction l with
  | nil => rfl
  | cons x l ih => unfold vals at *; rw [List.flatMap_cons, List.length_append, ih, List.length_cons]; show 3 + _ = _; omega
theorem vals_app (l m : List Vl) : vals (l ++ m) = vals l ++ vals m := by unfold vals; rw [List.flatMap_append]
theorem vals_at {l : List Vl} {i : Nat} {x : Vl} (h : l[i]? = some x) : (vals l)[i * 3]? = some (.int .i64 x.k) ∧ (vals l)[i * 3 + 1]? = some (.int .i64 x.n) ∧ (vals l)[i * 3 + 2]? = some (.string x.s) := by
  induction l generalizing i with
  | nil => simp at h
  | cons y l ih =>
    have e : vals (y :: l) = v3 y ++ vals l := by unfold vals; rw [List.flatMap_cons]
    rw [e]
    cases i with
    | zero =>
      have e2 : y = x := by simpa using h
      subst e2
      exact ⟨rfl, rfl, rfl⟩
    | succ i =>
      have h' : l[i]? = some x := by simpa using h
      obtain ⟨a, b, c⟩ := ih h'
      have hl : (v3 y).length = 3 := rfl
      refine ⟨?_, ?_, ?_⟩
      · rw [List.getElem?_append_right (by rw [hl]; omega), hl, show (i + 1) * 3 - 3 = i * 3 by omega]; exact a
      · rw [List.getElem?_append_right (by rw [hl]; omega), hl, show (i + 1) * 3 + 1 - 3 = i * 3 + 1 by omega]; exact b
      · rw [List.getElem?_append_right (by rw [hl]; omega), hl, show (i + 1) * 3 + 2 - 3 = i * 3 + 2 by omega]; exact c
/-- A list of values of one's own, and all that stood stands. -/
structure VV (w : World) (v : Value) (xs : List Vl) (wx : World) : Prop where
  own : wx.ownsRow w.heap.size 36 3 v xs.length (vals xs)
  below : Bw w wx
theorem VV.nil (w : World) : VV w (.slice none 0 0) [] w := ⟨⟨rfl, .inl ⟨rfl, rfl⟩⟩, Below.refl _ _⟩
theorem VV.next {w : World} {v : Value} {xs : List Vl} {wx wy : World} (h : VV w v xs wx) (hb : Bw wx wy) : VV w v xs wy := ⟨own_next h.own hb, h.below.tr hb⟩
theorem VV.one {w : World} {v : Value} {xs : List Vl} {wx : World} (h : VV w v xs wx) (hl : xs.length < 4398046511104) (y : Vl) :
    ∃ g c w', (Builtin.append_ #[34, 34] 34 #[v, .slice (some ⟨wx.heap.size, 0, none⟩) 1 1]).run Tryz.prog (wx.alloc (.cells #[.int .i64 y.k, .int .i64 y.n, .string y.s] 36)) = .ok (.slice (some ⟨g, 0, none⟩) (xs.length + 1) c) w' ∧ VV w (.slice (some ⟨g, 0, none⟩) (xs.length + 1) c) (xs ++ [y]) w' := by
  obtain ⟨i0, hi, hz0, hz1, hz2⟩ := info_parts infoV
  have hmax : maxLen = 9223372036854775807 := rfl
  have h1 := h.next (Bw.al wx (.cells #[.int .i64 y.k, .int .i64 y.n, .string y.s] 36))
  obtain ⟨g, c, w', r1, r2, r3, -, -⟩ := run_append_lies (P := Tryz.prog) (w := wx.alloc (.cells #[.int .i64 y.k, .int .i64 y.n, .string y.s] 36)) 34 34 w.heap.size 36 i0 (.agg #[.int .i64 0, .int .i64 0, .string nul]) 3 32 Tryz.underlying34 hi hz0 hz1 hz2 rfl (by decide) v xs.length (vals xs) h1.own ⟨wx.heap.size, 0, none⟩ 1 1 (v3 y) rfl (World.news_of_block (heap_alloc_new wx _)) (by simp [Value.oneCell', v3]) (by decide) (by omega) (by omega) h1.below.size _ rfl
  refine ⟨g, c, w', r1, ⟨?_, h1.below.grown r3 h1.below.size (fun q hq => (h1.own.lt q hq).1)⟩⟩
  have e : vals (xs ++ [y]) = vals xs ++ v3 y := by rw [vals_app]; simp [vals]
  rw [e, List.length_append]
  exact r2
/-- The value at a place. -/
abbrev nthV (l : List Vl) (i : Nat) : Vl := l.getD i ⟨0, 0, nul⟩
theorem VV.vm {w : World} {v : Value} {xs : List Vl} {wx : World} (h : VV w v xs wx) : ∃ p c, v = .slice p xs.length c ∧ VM wx p xs.length (nthV xs) ∧ (0 < xs.length → ∃ g, p = some ⟨g, 0, none⟩) := by
  rcases h.own.2 with ⟨rfl, h0⟩ | ⟨g, cap, cur, rfl, hb, hg, hc, hm, hz, ht⟩
  · exact ⟨none, 0, by rw [h0], .inl h0, fun h' => by omega⟩
  · refine ⟨_, _, rfl, .inr ⟨g, 0, rfl, (Array.getElem?_eq_some_iff.1 hg).1, fun i hi => ?_⟩, fun _ => ⟨g, rfl⟩⟩
    have hx : xs[i]? = some (nthV xs i) := by
      unfold nthV
      rw [List.getD_eq_getElem?_getD, List.getElem?_eq_getElem hi]
      rfl
    obtain ⟨a, b, c⟩ := vals_at hx
    have key : ∀ t u, t < xs.length * 3 → (vals xs)[t]? = some u → wx.cell? ⟨g, t, none⟩ = some u := fun t u ht' hu => by
      have e : (cur.toList.take (xs.length * 3))[t]? = (vals xs)[t]? := by rw [ht]
      rw [List.getElem?_take, if_pos ht', Array.getElem?_toList, hu] at e
      simp only [World.cell?, hg]
      exact e
    simp only [Nat.zero_add]
    exact ⟨key _ _ (by omega) a, key _ _ (by omega) b, key _ _ (by omega) c⟩
end Go.Proofs.YtbiikodnfaeceaaGreatDoor.so
