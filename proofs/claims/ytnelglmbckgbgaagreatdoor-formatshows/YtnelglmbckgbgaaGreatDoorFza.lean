
/- The document's Code: its block, and what its loops find. Nothing is walked here. Conditions: as each theorem says. -/
import Derived.Test.YtnelglmbckgbgaaGreatDoorFxb
import Derived.Test.YtnelglmbckgbgaaGreatDoorFwe
namespace Go.Proofs.YtnelglmbckgbgaaGreatDoor.fw
open Go.RowKit Go.Sort
def frV (k : LK) : Value := .agg #[.string (txt k.ahead), .string (txt k.behind), .bool k.three, .int .i64 (k.digits : Int), .int .i64 (k.places : Int)]
/-- What the document's Code answers. -/
def RCo (o : Option LK) (e : Ending) : Prop := match o with
  | none => ∃ a b g l p, e = .returned (.tuple #[.agg #[.string a, .string b, .bool g, .int .i64 l, .int .i64 p], .bool false])
  | some k => e = .returned (.tuple #[frV k, .bool true])
/-- The code that is being read, and the answer's block. -/
structure FB (w0 : World) (a b : ByteArray) (g : Bool) (l p : Int) (wx : World) : Prop where
  res : wx.heap[w0.heap.size]? = some (.cells #[.string ⟨#[]⟩, .string ⟨#[]⟩, .bool false, .int .i64 0, .int .i64 0] 26 (0, 0))
  blk : wx.heap[w0.heap.size + 1]? = some (.cells #[.string a, .string b, .bool g, .int .i64 l, .int .i64 p] 26 (0, 0))
  below : Bw w0 wx
theorem blk_set2 {w : World} {b o : Nat} {cs : Array Value} {u : Value} {t : TypeId} {f : Nat × Nat} (h : w.heap[b]? = some (.cells cs t f)) : (w.setCell ⟨b, o, none⟩ u).heap[b]? = some (.cells (cs.setIfInBounds o u) t f) := by
  have hlt := (Array.getElem?_eq_some_iff.1 h).1
  have h' : w.heap[b] = .cells cs t f := by simpa [Array.getElem?_eq_getElem hlt] using h
  show (w.heap.modify b _)[b]? = _
  rw [Array.getElem?_eq_getElem (by simpa using hlt), Array.getElem_modify_self, h']
  rfl
theorem FB.set {w0 : World} {a b : ByteArray} {g : Bool} {l p : Int} {wx : World} (h : FB w0 a b g l p wx) (o : Nat) (u : Value) {a' b' : ByteArray} {g' : Bool} {l' p' : Int}
    (e : (#[.string a, .string b, .bool g, .int .i64 l, .int .i64 p] : Array Value).setIfInBounds o u = #[.string a', .string b', .bool g', .int .i64 l', .int .i64 p']) : FB w0 a' b' g' l' p' (wx.setCell ⟨w0.heap.size + 1, o, none⟩ u) :=
  ⟨by rw [Below.heap_setCell _ _ _ _ (by simp)]; exact h.res, by rw [blk_set2 h.blk, e], h.below.set _ _ _ (Nat.le_succ _)⟩
theorem FB.cells {w0 : World} {a b : ByteArray} {g : Bool} {l p : Int} {wx : World} (h : FB w0 a b g l p wx) : wx.cell? ⟨w0.heap.size + 1, 0, none⟩ = some (.string a) ∧ wx.cell? ⟨w0.heap.size + 1, 1, none⟩ = some (.string b) ∧ wx.cell? ⟨w0.heap.size + 1, 2, none⟩ = some (.bool g) ∧ wx.cell? ⟨w0.heap.size + 1, 3, none⟩ = some (.int .i64 l) ∧ wx.cell? ⟨w0.heap.size + 1, 4, none⟩ = some (.int .i64 p) := by
  simp only [World.cell?, h.blk]
  exact ⟨rfl, rfl, rfl, rfl, rfl⟩
theorem FB.free {w0 : World} {a b : ByteArray} {g : Bool} {l p : Int} {wx : World} (h : FB w0 a b g l p wx) (o : Nat) : wx.frozen? ⟨w0.heap.size + 1, o, none⟩ = false ∧ wx.frozen? ⟨w0.heap.size, o, none⟩ = false := by
  unfold World.frozen?
  simp [h.blk, h.res]
theorem FB.rcells {w0 : World} {a b : ByteArray} {g : Bool} {l p : Int} {wx : World} (h : FB w0 a b g l p wx) : wx.cell? ⟨w0.heap.size, 0, none⟩ = some (.string ⟨#[]⟩) ∧ wx.cell? ⟨w0.heap.size, 1, none⟩ = some (.string ⟨#[]⟩) ∧ wx.cell? ⟨w0.heap.size, 2, none⟩ = some (.bool false) ∧ wx.cell? ⟨w0.heap.size, 3, none⟩ = some (.int .i64 0) ∧ wx.cell? ⟨w0.heap.size, 4, none⟩ = some (.int .i64 0) := by
  simp only [World.cell?, h.res]
  exact ⟨rfl, rfl, rfl, rfl, rfl⟩
/-- How many zeros stand there. -/
theorem cz_at {r : List UInt8} {j : Nat} (hj : j ≤ r.length) (h : ∀ i, i < j → r[i]? = some 48) (hn : r[j]? ≠ some 48) : czL r = (j, r.drop j) := by
  have e : r.dropWhile (· == 48) = r.drop j := by
    induction r generalizing j with
    | nil => simp
    | cons c r ih =>
      cases j with
      | zero =>
        rw [List.dropWhile_cons, if_neg]
        · rfl
        · intro hc
          apply hn
          simp only [beq_iff_eq] at hc
          simp [hc]
      | succ j =>
        have hc := h 0 (by omega)
        simp only [List.getElem?_cons_zero, Option.some.injEq] at hc
        subst hc
        rw [List.dropWhile_cons]
        simp only [beq_self_eq_true, if_true, List.drop_succ_cons]
        exact ih (by simpa using hj) (fun i hi => by have := h (i + 1) (by omega); simpa using this) (by simpa using hn)
  unfold czL
  rw [e, List.length_drop]
  congr 1
  omega
/-- Where the first quote stands. -/
theorem sq_some {r : List UInt8} {j : Nat} (h : ∀ i, i < j → r[i]? ≠ some 34) (hn : r[j]? = some 34) : splitQ r = some (r.take j, r.drop (j + 1)) := by
  induction r generalizing j with
  | nil => simp at hn
  | cons c r ih =>
    cases j with
    | zero =>
      simp only [List.getElem?_cons_zero, Option.some.injEq] at hn
      simp [splitQ, hn]
    | succ j =>
      have hc : c ≠ 34 := by
        have := h 0 (by omega)
        simpa using this
      have := ih (j := j) (fun i hi => by have := h (i + 1) (by omega); simpa using this) (by simpa using hn)
      simp [splitQ, hc, this]
theorem sq_none {r : List UInt8} (h : ∀ i, i < r.length → r[i]? ≠ some 34) : splitQ r = none := by
  induction r with
  | nil => rfl
  | cons c r ih =>
    have hc : c ≠ 34 := by
      have := h 0 (by simp)
      simpa using this
    have := ih (fun i hi => by have := h (i + 1) (by simp; omega); simpa using this)
    simp [splitQ, hc, this]
/-- What is left from a place on. -/
theorem rest_at (S : ByteArray) (i j : Nat) : (S.toList.drop i)[j]? = S.toList[i + j]? := by rw [List.getElem?_drop]
theorem ext_take (S : ByteArray) (i j : Nat) : S.extract i (i + j) = txt ((S.toList.drop i).take j) := by
  apply ByteArray.ext
  simp only [txt]
  rw [ByteArray.toList_eq]
  apply Array.ext'
  simp
end Go.Proofs.YtnelglmbckgbgaaGreatDoor.fw
