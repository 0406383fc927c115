
/- Lists of cells with their texts that grow. Nothing is walked here. Conditions: as each theorem says. -/
import Derived.Test.YtomgjjngkffbbaaGreatDoorMgb
import Derived.Deep.WholeRow
import Derived.Deep.MidRow
namespace Go.Proofs.YtomgjjngkffbbaaGreatDoor.fw
open Go.RowKit Go.Sort
def fl3w (x : ps.Fl) : List Value := [.int .i64 x.c, .int .i64 x.r, .string x.s]
/-- How an element of a list lies in cells. -/
structure EL (α : Type) where
  ty : TypeId
  k : Nat
  enc : α → List Value
  len : ∀ x, (enc x).length = k
  one : ∀ x, ∀ u ∈ enc x, u.oneCell' = true
def EL.cs {α : Type} (L : EL α) (l : List α) : List Value := l.flatMap L.enc
theorem EL.cs_len {α : Type} (L : EL α) (l : List α) : (L.cs l).length = l.length * L.k := by
  induction l with
  | nil => simp [EL.cs]
  | cons x l ih => unfold EL.cs at *; rw [List.flatMap_cons, List.length_append, ih, L.len, List.length_cons, Nat.succ_mul, Nat.add_comm]
theorem EL.cs_app {α : Type} (L : EL α) (l m : List α) : L.cs (l ++ m) = L.cs l ++ L.cs m := by unfold EL.cs; rw [List.flatMap_append]
theorem EL.cs_one {α : Type} (L : EL α) (x : α) : L.cs [x] = L.enc x := by simp [EL.cs]
theorem EL.cs_at {α : Type} (L : EL α) {l : List α} {i : Nat} {x : α} (h : l[i]? = some x) (j : Nat) (hj : j < L.k) : (L.cs l)[i * L.k + j]? = (L.enc x)[j]? := by
  induction l generalizing i with
  | nil => simp at h
  | cons y l ih =>
    have e : L.cs (y :: l) = L.enc y ++ L.cs l := by unfold EL.cs; rw [List.flatMap_cons]
    rw [e]
    cases i with
    | zero =>
      have e2 : y = x := by simpa using h
      subst e2
      rw [Nat.zero_mul, Nat.zero_add, List.getElem?_append_left (by rw [L.len]; exact hj)]
    | succ i =>
      have h' : l[i]? = some x := by simpa using h
      have e3 : (i + 1) * L.k + j = i * L.k + j + L.k := by rw [Nat.succ_mul]; omega
      rw [e3, List.getElem?_append_right (by rw [L.len]; omega), L.len, Nat.add_sub_cancel]
      exact ih h'
/-- A list of one's own, and all that stood stands. -/
structure RV {α : Type} (L : EL α) (w : World) (v : Value) (xs : List α) (wx : World) : Prop where
  own : wx.ownsRow w.heap.size L.ty L.k v xs.length (L.cs xs)
  below : Bw w wx
theorem RV.nil {α : Type} (L : EL α) (w : World) : RV L w (.slice none 0 0) [] w := ⟨⟨by simp [EL.cs], .inl ⟨rfl, rfl⟩⟩, Below.refl _ _⟩
theorem RV.next {α : Type} {L : EL α} {w : World} {v : Value} {xs : List α} {wx wy : World} (h : RV L w v xs wx) (hb : Bw wx wy) : RV L w v xs wy := ⟨own_next h.own hb, h.below.tr hb⟩
theorem RV.form {α : Type} {L : EL α} {w : World} {v : Value} {xs : List α} {wx : World} (h : RV L w v xs wx) : ∃ p c, v = .slice p xs.length c ∧ ((xs.length = 0 ∧ p = none ∧ c = 0) ∨ ∃ g, p = some ⟨g, 0, none⟩ ∧ xs.length ≤ c) := by
  rcases h.own.2 with ⟨rfl, h0⟩ | ⟨g, cap, cur, rfl, -, -, hc, -⟩
  · exact ⟨none, 0, by rw [h0], .inl ⟨h0, rfl, rfl⟩⟩
  · exact ⟨_, _, rfl, .inr ⟨g, rfl, hc⟩⟩
theorem RV.one {α : Type} {L : EL α} {w : World} {v : Value} {xs : List α} {wx : World} (h : RV L w v xs wx) (S : TypeId) {z : Value} {b : Nat} (hu : Tryz.prog.underlying S = some (.slice L.ty)) (hin : (Tryz.prog.info? L.ty).map (fun i => (i.zero, i.size, i.bytes)) = some (some z, L.k, b)) (hz : z.cells.size = L.k) (hk : 0 < L.k) (hl : (xs.length + 1) * b ≤ 140737488355328) (hm : xs.length + 1 ≤ 9223372036854775807) (y : α) (ys : Array Value) (hy : ys.toList = L.enc y) :
    ∃ g c w', (Builtin.append_ #[S, S] S #[v, .slice (some ⟨wx.heap.size, 0, none⟩) 1 1]).run Tryz.prog (wx.alloc (.cells ys L.ty)) = .ok (.slice (some ⟨g, 0, none⟩) (xs.length + 1) c) w' ∧ RV L w (.slice (some ⟨g, 0, none⟩) (xs.length + 1) c) (xs ++ [y]) w' := by
  obtain ⟨i0, hi, hz0, hz1, hz2⟩ := info_parts hin
  have hmax : maxLen = 9223372036854775807 := rfl
  have h1 := h.next (Bw.al wx (.cells ys L.ty))
  obtain ⟨g, c, w', r1, r2, r3, -, -⟩ := run_append_lies (P := Tryz.prog) (w := wx.alloc (.cells ys L.ty)) S S w.heap.size L.ty i0 z L.k b hu hi hz0 hz1 hz2 hz hk v xs.length (L.cs xs) h1.own ⟨wx.heap.size, 0, none⟩ 1 1 (L.enc y) (by rw [L.len, Nat.one_mul]) (by rw [← hy]; exact World.news_of_block (heap_alloc_new wx _)) (L.one y) (by decide) (by omega) hl h1.below.size _ rfl
  refine ⟨g, c, w', r1, ⟨?_, h1.below.grown r3 h1.below.size (fun q hq => (h1.own.lt q hq).1)⟩⟩
  rw [L.cs_app, L.cs_one, List.length_append]
  exact r2
/-- An element's cells. -/
theorem RV.at {α : Type} {L : EL α} {w : World} {v : Value} {xs : List α} {wx : World} (h : RV L w v xs wx) {i : Nat} {x : α} (hx : xs[i]? = some x) : ∃ g c, v = .slice (some ⟨g, 0, none⟩) xs.length c ∧ xs.length ≤ c ∧ g < wx.heap.size ∧ ∀ j u, (L.enc x)[j]? = some u → wx.cell? ⟨g, i * L.k + j, none⟩ = some u := by
  have hi : i < xs.length := (List.getElem?_eq_some_iff.1 hx).1
  rcases h.own.2 with ⟨rfl, h0⟩ | ⟨g, cap, cur, rfl, hb, hg, hc, hm, hz, ht⟩
  · omega
  · refine ⟨_, _, rfl, hc, (Array.getElem?_eq_some_iff.1 hg).1, fun j u hu => ?_⟩
    have hj : j < L.k := by
      have := (List.getElem?_eq_some_iff.1 hu).1
      rw [L.len] at this
      exact this
    have hlt : i * L.k + j < xs.length * L.k := by
      have : (i + 1) * L.k ≤ xs.length * L.k := Nat.mul_le_mul_right _ hi
      rw [Nat.succ_mul] at this
      omega
    have e : (cur.toList.take (xs.length * L.k))[i * L.k + j]? = (L.cs xs)[i * L.k + j]? := by rw [ht]
    rw [List.getElem?_take, if_pos hlt, Array.getElem?_toList, L.cs_at hx j hj, hu] at e
    simp only [World.cell?, hg]
    exact e
/-- How a cell with its text lies. -/
def fL : EL ps.Fl := ⟨45, 3, fl3w, fun _ => rfl, fun x u hu => by simp [fl3w] at hu; rcases hu with rfl | rfl | rfl <;> rfl⟩
theorem infoF : (Tryz.prog.info? 45).map (fun i => (i.zero, i.size, i.bytes)) = some (some (.agg #[.int .i64 0, .int .i64 0, .string nul]), 3, 32) := by kernel_rfl
theorem RV.fill {w : World} {v : Value} {xs : List ps.Fl} {wx : World} (h : RV fL w v xs wx) (hl : xs.length ≤ 10000) (c r : Int) (s : ByteArray) :
    ∃ g k w', (Builtin.append_ #[22, 22] 22 #[v, .slice (some ⟨wx.heap.size, 0, none⟩) 1 1]).run Tryz.prog (wx.alloc (.cells #[.int .i64 c, .int .i64 r, .string s] 45)) = .ok (.slice (some ⟨g, 0, none⟩) (xs.length + 1) k) w' ∧ RV fL w (.slice (some ⟨g, 0, none⟩) (xs.length + 1) k) (xs ++ [⟨c, r, s⟩]) w' :=
  h.one 22 (b := 32) Tryz.underlying22 infoF rfl (by decide) (by omega) (by omega) ⟨c, r, s⟩ _ rfl
end Go.Proofs.YtomgjjngkffbbaaGreatDoor.fw
