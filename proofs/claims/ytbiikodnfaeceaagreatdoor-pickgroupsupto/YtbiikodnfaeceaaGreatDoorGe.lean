
/- Groups: rows that are alike, one behind the other; a list of groups that grows. Nothing is walked here. Conditions: as each theorem says. -/
import Derived.Test.YtbiikodnfaeceaaGreatDoorGd
import Derived.Test.YtbiikodnfaeceaaGreatDoorUe
namespace Go.Proofs.YtbiikodnfaeceaaGreatDoor.so
open Go.RowKit Go.Sort Go.Shelf
/-- An order, cut where a row is not like the first of those ahead. -/
inductive Pt (al : Nat → Nat → Bool) : List Nat → List (List Nat) → Prop
  | nil : Pt al [] []
  | step (z : Nat) (h t : List Nat) (ps : List (List Nat)) (h1 : ∀ y ∈ h, al y z = true) (h2 : ∀ y t', t = y :: t' → al y z = false) (h3 : Pt al t ps) : Pt al ((z :: h) ++ t) ((z :: h) :: ps)
/-- A group: where its key lies, and its rows. -/
structure Gp where
  p : Option Addr
  cap : Nat
  pt : List Nat
/-- The sum of a column in some rows. -/
def gsum (T : Tb) (k : Nat) (pt : List Nat) : Vl := sumV (pt.map fun i => T.v i k) []
def g5 (T : Tb) (n k : Nat) (g : Gp) : List Value := [.slice g.p n g.cap, .int .i64 (g.pt.length : Nat), .int .i64 (gsum T k g.pt).k, .int .i64 (gsum T k g.pt).n, .string (gsum T k g.pt).s]
def grps (T : Tb) (n k : Nat) (l : List Gp) : List Value := l.flatMap (g5 T n k)
theorem grps_app (T : Tb) (n k : Nat) (l m : List Gp) : grps T n k (l ++ m) = grps T n k l ++ grps T n k m := by unfold grps; rw [List.flatMap_append]
theorem grps_at {T : Tb} {n k : Nat} {l : List Gp} {i : Nat} {x : Gp} (h : l[i]? = some x) (j : Nat) (hj : j < 5) : (grps T n k l)[i * 5 + j]? = (g5 T n k x)[j]? := by
  induction l generalizing i with
  | nil => simp at h
  | cons y l ih =>
    have e : grps T n k (y :: l) = g5 T n k y ++ grps T n k l := by unfold grps; rw [List.flatMap_cons]
    rw [e]
    have hl : (g5 T n k y).length = 5 := rfl
    cases i with
    | zero =>
      have e2 : y = x := by simpa using h
      subst e2
      rw [List.getElem?_append_left (by rw [hl]; omega), Nat.zero_mul, Nat.zero_add]
    | succ i =>
      have h' : l[i]? = some x := by simpa using h
      rw [List.getElem?_append_right (by rw [hl]; omega), hl, show (i + 1) * 5 + j - 5 = i * 5 + j by omega]
      exact ih h'
/-- A group's key lies apart from the list. -/
def KA (v : Value) (n : Nat) (p : Option Addr) (wx : World) : Prop := n = 0 ∨ ∃ b, p = some ⟨b, 0, none⟩ ∧ b < wx.heap.size ∧ v.ownBlock ≠ some b
/-- A group's key. -/
def gkey (T : Tb) (c : Nat → Int) (g : Gp) (i : Nat) : Vl := T.v (g.pt.headD 0) (c i).toNat
/-- A list of groups of one's own, and all that stood stands. -/
structure GS (T : Tb) (n : Nat) (c : Nat → Int) (k : Nat) (w : World) (v : Value) (gs : List Gp) (wx : World) : Prop where
  own : wx.ownsRow w.heap.size 38 5 v gs.length (grps T n k gs)
  below : Bw w wx
  keys : ∀ g ∈ gs, VM wx g.p n (gkey T c g) ∧ KA v n g.p wx
theorem GS.nil (T : Tb) (n : Nat) (c : Nat → Int) (k : Nat) (w : World) : GS T n c k w (.slice none 0 0) [] w := ⟨⟨rfl, .inl ⟨rfl, rfl⟩⟩, Below.refl _ _, fun _ hg => absurd hg List.not_mem_nil⟩
theorem KA.next {v : Value} {n : Nat} {p : Option Addr} {wx wy : World} (h : KA v n p wx) (hb : Bw wx wy) : KA v n p wy := by
  rcases h with h | ⟨b, h1, h2, h3⟩
  · exact .inl h
  · exact .inr ⟨b, h1, Nat.lt_of_lt_of_le h2 hb.size, h3⟩
theorem GS.next {T : Tb} {n : Nat} {c : Nat → Int} {k : Nat} {w : World} {v : Value} {gs : List Gp} {wx wy : World} (h : GS T n c k w v gs wx) (hb : Bw wx wy) : GS T n c k w v gs wy :=
  ⟨own_next h.own hb, h.below.tr hb, fun g hg => ⟨(h.keys g hg).1.next hb, (h.keys g hg).2.next hb⟩⟩
theorem VM.blk {wx w' : World} {p : Option Addr} {n : Nat} {r : Nat → Vl} (h : VM wx p n r) (hk : n = 0 ∨ ∃ b, p = some ⟨b, 0, none⟩ ∧ b < w'.heap.size ∧ w'.heap[b]? = wx.heap[b]?) : VM w' p n r := by
  rcases hk with h0 | ⟨b, rfl, h1, h2⟩
  · exact .inl h0
  · rcases h with h0 | ⟨g, o, e, hg, h3⟩
    · exact .inl h0
    · obtain ⟨rfl, rfl⟩ : b = g ∧ 0 = o := by
        injection e with e; injection e with e1 e2; exact ⟨e1, e2⟩
      refine .inr ⟨b, 0, rfl, h1, fun i hi => ?_⟩
      have := h3 i hi
      simp only [World.cell?, h2] at this ⊢
      exact this
theorem infoG : (Tryz.prog.info? 38).map (fun i => (i.zero, i.size, i.bytes)) = some (some (.agg #[.slice none 0 0, .int .i64 0, .int .i64 0, .int .i64 0, .string nul]), 5, 64) := by kernel_rfl
theorem GS.one {T : Tb} {n : Nat} {c : Nat → Int} {k : Nat} {w : World} {v : Value} {gs : List Gp} {wx : World} (h : GS T n c k w v gs wx) (hl : gs.length < 1000000) (y : Gp) (hy : VM wx y.p n (gkey T c y)) (hk : KA v n y.p wx) :
    ∃ g cc w', (Builtin.append_ #[26, 26] 26 #[v, .slice (some ⟨wx.heap.size, 0, none⟩) 1 1]).run Tryz.prog (wx.alloc (.cells #[.slice y.p n y.cap, .int .i64 (y.pt.length : Nat), .int .i64 (gsum T k y.pt).k, .int .i64 (gsum T k y.pt).n, .string (gsum T k y.pt).s] 38)) = .ok (.slice (some ⟨g, 0, none⟩) (gs.length + 1) cc) w' ∧ GS T n c k w (.slice (some ⟨g, 0, none⟩) (gs.length + 1) cc) (gs ++ [y]) w' := by
  obtain ⟨i0, hi, hz0, hz1, hz2⟩ := info_parts infoG
  have hmax : maxLen = 9223372036854775807 := rfl
  have h1 := h.next (Bw.al wx (.cells #[.slice y.p n y.cap, .int .i64 (y.pt.length : Nat), .int .i64 (gsum T k y.pt).k, .int .i64 (gsum T k y.pt).n, .string (gsum T k y.pt).s] 38))
  obtain ⟨g, cc, w', r1, r2, r3, r4, r5⟩ := run_append_lies (P := Tryz.prog) (w := wx.alloc (.cells #[.slice y.p n y.cap, .int .i64 (y.pt.length : Nat), .int .i64 (gsum T k y.pt).k, .int .i64 (gsum T k y.pt).n, .string (gsum T k y.pt).s] 38)) 26 26 w.heap.size 38 i0 (.agg #[.slice none 0 0, .int .i64 0, .int .i64 0, .int .i64 0, .string nul]) 5 64 Tryz.underlying26 hi hz0 hz1 hz2 rfl (by decide) v gs.length (grps T n k gs) h1.own ⟨wx.heap.size, 0, none⟩ 1 1 (g5 T n k y) rfl (World.news_of_block (heap_alloc_new wx _)) (by simp [Value.oneCell', g5]) (by decide) (by omega) (by omega) h1.below.size _ rfl
  have hsz : wx.heap.size < w'.heap.size := by have := r3.size; simp at this; omega
  have key : ∀ p, KA v n p wx → ∀ r, VM wx p n r → VM w' p n r ∧ KA (.slice (some ⟨g, 0, none⟩) (gs.length + 1) cc) n p w' := fun p hp r hr => by
    rcases hp with h0 | ⟨b, rfl, hb, hne⟩
    · exact ⟨.inl h0, .inl h0⟩
    · refine ⟨hr.blk (.inr ⟨b, rfl, by omega, ?_⟩), .inr ⟨b, rfl, by omega, ?_⟩⟩
      · rw [r3.block b (by simp; omega) (fun e => hne e.symm)]
        exact Below.heap_alloc _ _ _ hb
      · intro e
        have eg : g = b := by simpa [Value.ownBlock] using e
        rcases r4 with r4 | r4
        · exact hne (by rw [r4, eg])
        · simp at r4; omega
  refine ⟨g, cc, w', r1, ⟨?_, h1.below.grown r3 h1.below.size (fun q hq => (h1.own.lt q hq).1), fun x hx => ?_⟩⟩
  · have e : grps T n k (gs ++ [y]) = grps T n k gs ++ g5 T n k y := by rw [grps_app]; simp [grps]
    rw [e, List.length_append]
    exact r2
  · rcases List.mem_append.1 hx with hx | hx
    · exact key _ (h.keys x hx).2 _ (h.keys x hx).1
    · rw [List.mem_singleton] at hx
      subst hx
      exact key _ hk _ hy
/-- The capacity of a list of numbers. -/
theorem IV.im2 {w : World} {v : Value} {xs : List Int} {wx : World} (h : IV w v xs wx) : ∃ p c, v = .slice p xs.length c ∧ xs.length ≤ c ∧ IM wx p xs.length (fun i => xs.getD i 0) := by
  obtain ⟨p, c, rfl, him⟩ := h.im
  refine ⟨p, c, rfl, ?_, him⟩
  rcases h.own.2 with ⟨e, h0⟩ | ⟨g, cap, cur, e, -, -, hc, -⟩
  · omega
  · injection e with e1 e2 e3
    subst e3
    exact hc
end Go.Proofs.YtbiikodnfaeceaaGreatDoor.so
