
/- A sheet as a grid of texts: plain; lists of cells that grow; a grid in memory. Nothing is walked here but sccsame.Sheets. Conditions: as each theorem says. -/
import Derived.Test.YtdinmgepdeigjaaGreatDoorCve
import Derived.Test.YtdinmgepdeigjaaGreatDoorYb
import Derived.Deep.MidRow
namespace Go.Proofs.YtdinmgepdeigjaaGreatDoor.fw
open Go.RowKit Go.Sort
/-- How an element of a list lies in cells. -/
structure EL (α : Type) where
  ty : TypeId
  k : Nat
  enc : α → List Value
  len : ∀ x, (enc x).length = k
  one : ∀ x, ∀ u ∈ enc x, u.oneCell' = true
def EL.cs {α : Type} (L : EL α) (l : List α) : List Value := l.flatMap L.enc
theorem EL.cs_len {α : Type} (L : EL α) (l : List α) : (L.cs l).length = l.length * L.k := by
  induction l with
  | nil => simp [EL.cs]
  | cons x l ih => unfold EL.cs at *; rw [List.flatMap_cons, List.length_append, ih, L.len, List.length_cons, Nat.succ_mul, Nat.add_comm]
theorem EL.cs_app {α : Type} (L : EL α) (l m : List α) : L.cs (l ++ m) = L.cs l ++ L.cs m := by unfold EL.cs; rw [List.flatMap_append]
theorem EL.cs_one {α : Type} (L : EL α) (x : α) : L.cs [x] = L.enc x := by simp [EL.cs]
theorem EL.cs_at {α : Type} (L : EL α) {l : List α} {i : Nat} {x : α} (h : l[i]? = some x) (j : Nat) (hj : j < L.k) : (L.cs l)[i * L.k + j]? = (L.enc x)[j]? := by
  induction l generalizing i with
  | nil => simp at h
  | cons y l ih =>
    have e : L.cs (y :: l) = L.enc y ++ L.cs l := by unfold EL.cs; rw [List.flatMap_cons]
    rw [e]
    cases i with
    | zero =>
      have e2 : y = x := by simpa using h
      subst e2
      rw [Nat.zero_mul, Nat.zero_add, List.getElem?_append_left (by rw [L.len]; exact hj)]
    | succ i =>
      have h' : l[i]? = some x := by simpa using h
      have e3 : (i + 1) * L.k + j = i * L.k + j + L.k := by rw [Nat.succ_mul]; omega
      rw [e3, List.getElem?_append_right (by rw [L.len]; omega), L.len, Nat.add_sub_cancel]
      exact ih h'
/-- A list of one's own, and all that stood stands. -/
structure RV {α : Type} (L : EL α) (w : World) (v : Value) (xs : List α) (wx : World) : Prop where
  own : wx.ownsRow w.heap.size L.ty L.k v xs.length (L.cs xs)
  below : Bw w wx
theorem RV.nil {α : Type} (L : EL α) (w : World) : RV L w (.slice none 0 0) [] w := ⟨⟨by simp [EL.cs], .inl ⟨rfl, rfl⟩⟩, Below.refl _ _⟩
theorem RV.next {α : Type} {L : EL α} {w : World} {v : Value} {xs : List α} {wx wy : World} (h : RV L w v xs wx) (hb : Bw wx wy) : RV L w v xs wy := ⟨own_next h.own hb, h.below.tr hb⟩
theorem RV.form {α : Type} {L : EL α} {w : World} {v : Value} {xs : List α} {wx : World} (h : RV L w v xs wx) : ∃ p c, v = .slice p xs.length c ∧ ((xs.length = 0 ∧ p = none ∧ c = 0) ∨ ∃ g, p = some ⟨g, 0, none⟩ ∧ xs.length ≤ c) := by
  rcases h.own.2 with ⟨rfl, h0⟩ | ⟨g, cap, cur, rfl, -, -, hc, -⟩
  · exact ⟨none, 0, by rw [h0], .inl ⟨h0, rfl, rfl⟩⟩
  · exact ⟨_, _, rfl, .inr ⟨g, rfl, hc⟩⟩
theorem RV.one {α : Type} {L : EL α} {w : World} {v : Value} {xs : List α} {wx : World} (h : RV L w v xs wx) (S : TypeId) {z : Value} {b : Nat} (hu : Tryz.prog.underlying S = some (.slice L.ty)) (hin : (Tryz.prog.info? L.ty).map (fun i => (i.zero, i.size, i.bytes)) = some (some z, L.k, b)) (hz : z.cells.size = L.k) (hk : 0 < L.k) (hl : (xs.length + 1) * b ≤ 140737488355328) (hm : xs.length + 1 ≤ 9223372036854775807) (y : α) (ys : Array Value) (hy : ys.toList = L.enc y) :
    ∃ g c w', (Builtin.append_ #[S, S] S #[v, .slice (some ⟨wx.heap.size, 0, none⟩) 1 1]).run Tryz.prog (wx.alloc (.cells ys L.ty)) = .ok (.slice (some ⟨g, 0, none⟩) (xs.length + 1) c) w' ∧ RV L w (.slice (some ⟨g, 0, none⟩) (xs.length + 1) c) (xs ++ [y]) w' := by
  obtain ⟨i0, hi, hz0, hz1, hz2⟩ := info_parts hin
  have hmax : maxLen = 9223372036854775807 := rfl
  have h1 := h.next (Bw.al wx (.cells ys L.ty))
  obtain ⟨g, c, w', r1, r2, r3, -, -⟩ := run_append_lies (P := Tryz.prog) (w := wx.alloc (.cells ys L.ty)) S S w.heap.size L.ty i0 z L.k b hu hi hz0 hz1 hz2 hz hk v xs.length (L.cs xs) h1.own ⟨wx.heap.size, 0, none⟩ 1 1 (L.enc y) (by rw [L.len, Nat.one_mul]) (by rw [← hy]; exact World.news_of_block (heap_alloc_new wx _)) (L.one y) (by decide) (by omega) hl h1.below.size _ rfl
  refine ⟨g, c, w', r1, ⟨?_, h1.below.grown r3 h1.below.size (fun q hq => (h1.own.lt q hq).1)⟩⟩
  rw [L.cs_app, L.cs_one, List.length_append]
  exact r2
/-- An element's cells. -/
theorem RV.at {α : Type} {L : EL α} {w : World} {v : Value} {xs : List α} {wx : World} (h : RV L w v xs wx) {i : Nat} {x : α} (hx : xs[i]? = some x) : ∃ g c, v = .slice (some ⟨g, 0, none⟩) xs.length c ∧ xs.length ≤ c ∧ g < wx.heap.size ∧ ∀ j u, (L.enc x)[j]? = some u → wx.cell? ⟨g, i * L.k + j, none⟩ = some u := by
  have hi : i < xs.length := (List.getElem?_eq_some_iff.1 hx).1
  rcases h.own.2 with ⟨rfl, h0⟩ | ⟨g, cap, cur, rfl, hb, hg, hc, hm, hz, ht⟩
  · omega
  · refine ⟨_, _, rfl, hc, (Array.getElem?_eq_some_iff.1 hg).1, fun j u hu => ?_⟩
    have hj : j < L.k := by
      have := (List.getElem?_eq_some_iff.1 hu).1
      rw [L.len] at this
      exact this
    have hlt : i * L.k + j < xs.length * L.k := by
      have : (i + 1) * L.k ≤ xs.length * L.k := Nat.mul_le_mul_right _ hi
      rw [Nat.succ_mul] at this
      omega
    have e : (cur.toList.take (xs.length * L.k))[i * L.k + j]? = (L.cs xs)[i * L.k + j]? := by rw [ht]
    rw [List.getElem?_take, if_pos hlt, Array.getElem?_toList, L.cs_at hx j hj, hu] at e
    simp only [World.cell?, hg]
    exact e
/-- How a cell with its text lies. -/
def fL : EL ps.Fl := ⟨38, 3, ps.fl3, fun _ => rfl, fun x u hu => by simp [ps.fl3] at hu; rcases hu with rfl | rfl | rfl <;> rfl⟩
theorem infoF : (Tryz.prog.info? 38).map (fun i => (i.zero, i.size, i.bytes)) = some (some (.agg #[.int .i64 0, .int .i64 0, .string nul]), 3, 32) := by kernel_rfl
theorem RV.fill {w : World} {v : Value} {xs : List ps.Fl} {wx : World} (h : RV fL w v xs wx) (hl : xs.length ≤ 10000) (c r : Int) (s : ByteArray) :
    ∃ g k w', (Builtin.append_ #[22, 22] 22 #[v, .slice (some ⟨wx.heap.size, 0, none⟩) 1 1]).run Tryz.prog (wx.alloc (.cells #[.int .i64 c, .int .i64 r, .string s] 38)) = .ok (.slice (some ⟨g, 0, none⟩) (xs.length + 1) k) w' ∧ RV fL w (.slice (some ⟨g, 0, none⟩) (xs.length + 1) k) (xs ++ [⟨c, r, s⟩]) w' :=
  h.one 22 (b := 32) Tryz.underlying22 infoF rfl (by decide) (by omega) (by omega) ⟨c, r, s⟩ _ rfl
theorem eqF (c r : Int) (s : ByteArray) (m : Nat) (W : World) : (Op.equalIn (m + 4) 38 (.agg #[.int .i64 c, .int .i64 r, .string s]) (.agg #[.int .i64 c, .int .i64 r, .string s])).run Tryz.prog W = .ok true W := by
  have hS : Tryz.prog.underlying 38 = some (.struct (Tryz.prog.fieldsOf 38)) := by kernel_rfl
  have hp : Tryz.prog.stoodInHeld 38 = false := by kernel_rfl
  rw [run_equalIn_struct W (m + 3) 38 _ _ hS hp]
  simp only [Program.fieldsOf, Tryz.underlying38]
  simp [Op.eqFields, go_sem, ps.eqIn30]
theorem neqF (c r : Int) (s : ByteArray) (W : World) : (binOp BinOp.neq 38 (.agg #[.int .i64 c, .int .i64 r, .string s]) (.agg #[.int .i64 c, .int .i64 r, .string s])).run Tryz.prog W = .ok (.bool false) W := by
  rw [run_neq_struct, show (10000 : Nat) = 9996 + 4 from rfl, eqF]; rfl

theorem fm_next {w w' : World} {p : Option Addr} {xs : List ps.Fl} (h : ps.FM w p xs) (hb : Bw w w') : ps.FM w' p xs := by
  rcases h with h | ⟨g, o, h1, h2, h3⟩
  · exact .inl h
  · exact .inr ⟨g, o, h1, Nat.lt_of_lt_of_le h2 hb.size, fun t u hu => by rw [hb.cell (p := ⟨g, _, none⟩) h2]; exact h3 t u hu⟩
theorem fm_at {w : World} {p : Option Addr} {xs : List ps.Fl} (h : ps.FM w p xs) {i : Nat} {x : ps.Fl} (hx : xs[i]? = some x) : ∃ g o, p = some ⟨g, o, none⟩ ∧ g < w.heap.size ∧ w.cell? ⟨g, o + i * 3, none⟩ = some (.int .i64 x.c) ∧ w.cell? ⟨g, o + i * 3 + 1, none⟩ = some (.int .i64 x.r) ∧ w.cell? ⟨g, o + i * 3 + 2, none⟩ = some (.string x.s) := by
  obtain ⟨g, o, rfl, hl⟩ := h.at hx
  exact ⟨g, o, rfl, hl, h.cells hx⟩
theorem RV.fm {w : World} {v : Value} {X : List ps.Fl} {wx : World} (h : RV fL w v X wx) : ∃ p c, v = .slice p X.length c ∧ ps.FM wx p X := by
  have hF : ps.FB wx v X := by
    have := own_lower h.own (Nat.zero_le _)
    exact this
  exact hF.shape
/-- Does a cell stand ahead of the place (i, j)? -/
def BF (x : ps.Fl) (i j : Int) : Prop := x.r - 1 < i ∨ (x.r - 1 = i ∧ x.c - 1 < j)
/-- The text at a place. -/
def gt (xs : List ps.Fl) (i j : Nat) : ByteArray := match xs.find? (fun x => x.c == (j : Int) + 1 && x.r == (i : Int) + 1) with
  | some x => x.s
  | none => nul
theorem gt_nil (i j : Nat) : gt [] i j = nul := rfl
theorem gt_some {xs : List ps.Fl} {i j : Nat} (h : gt xs i j ≠ nul) : ∃ (m : Nat) (x : ps.Fl), xs[m]? = some x ∧ x.c = (j : Int) + 1 ∧ x.r = (i : Int) + 1 ∧ x.s = gt xs i j := by
  unfold gt at h ⊢
  cases hf : xs.find? (fun x => x.c == (j : Int) + 1 && x.r == (i : Int) + 1) with
  | none => rw [hf] at h; exact absurd rfl h
  | some x =>
    have h1 := List.find?_some hf
    rw [Bool.and_eq_true, beq_iff_eq, beq_iff_eq] at h1
    obtain ⟨m, hm⟩ := List.getElem?_of_mem (List.mem_of_find?_eq_some hf)
    exact ⟨m, x, hm, h1.1, h1.2, rfl⟩
theorem gt_none {xs : List ps.Fl} {i j : Nat} (hn : ∀ x ∈ xs, x.s.size ≠ 0) (h : gt xs i j = nul) : ∀ x ∈ xs, ¬ (x.c = (j : Int) + 1 ∧ x.r = (i : Int) + 1) := by
  intro x hx ⟨h1, h2⟩
  unfold gt at h
  cases hf : xs.find? (fun x => x.c == (j : Int) + 1 && x.r == (i : Int) + 1) with
  | none =>
    have := List.find?_eq_none.1 hf x hx
    simp [h1, h2] at this
  | some y =>
    rw [hf] at h
    exact hn y (List.mem_of_find?_eq_some hf) (by show y.s.size = 0; rw [show y.s = nul from h]; rfl)
theorem gt_snoc (l : List ps.Fl) (x : ps.Fl) (i j : Nat) (h : ∀ y ∈ l, ¬ (y.c = x.c ∧ y.r = x.r)) : gt (l ++ [x]) i j = if x.c = (j : Int) + 1 ∧ x.r = (i : Int) + 1 then x.s else gt l i j := by
  unfold gt
  rw [List.find?_append]
  by_cases hx : x.c = (j : Int) + 1 ∧ x.r = (i : Int) + 1
  · rw [if_pos hx]
    have : l.find? (fun x => x.c == (j : Int) + 1 && x.r == (i : Int) + 1) = none := by
      rw [List.find?_eq_none]
      intro y hy hc
      rw [Bool.and_eq_true, beq_iff_eq, beq_iff_eq] at hc
      exact h y hy ⟨by rw [hc.1, hx.1], by rw [hc.2, hx.2]⟩
    rw [this]
    simp [hx.1, hx.2]
  · rw [if_neg hx]
    have : [x].find? (fun x => x.c == (j : Int) + 1 && x.r == (i : Int) + 1) = none := by
      rw [List.find?_eq_none]
      intro y hy hc
      rw [List.mem_singleton] at hy
      subst hy
      rw [Bool.and_eq_true, beq_iff_eq, beq_iff_eq] at hc
      exact hx hc
    rw [this, Option.or_none]
/-- How many cells stand ahead of a place: they are the first ones. -/
def PF (xs : List ps.Fl) (k : Nat) (i j : Int) : Prop := k ≤ xs.length ∧ (∀ (m : Nat) (x : ps.Fl), m < k → xs[m]? = some x → BF x i j) ∧ (∀ (m : Nat) (x : ps.Fl), k ≤ m → xs[m]? = some x → ¬ BF x i j)
theorem PF.start {xs : List ps.Fl} (h : ∀ x ∈ xs, 1 ≤ x.c ∧ 1 ≤ x.r) : PF xs 0 0 0 := by
  refine ⟨Nat.zero_le _, fun m x hm => absurd hm (Nat.not_lt_zero _), fun m x _ hx hb => ?_⟩
  have := h x (List.mem_of_getElem? hx)
  unfold BF at hb
  omega
theorem PF.skip {xs : List ps.Fl} {k : Nat} {i j : Nat} (h : PF xs k i j) (hn : ∀ x ∈ xs, ¬ (x.c = (j : Int) + 1 ∧ x.r = (i : Int) + 1)) : PF xs k i ((j + 1 : Nat) : Int) := by
  refine ⟨h.1, fun m x hm hx => ?_, fun m x hm hx hb => ?_⟩
  · have := h.2.1 m x hm hx
    unfold BF at this ⊢
    omega
  · have h1 := h.2.2 m x hm hx
    have h2 := hn x (List.mem_of_getElem? hx)
    unfold BF at h1 hb
    omega
theorem PF.hit {xs : List ps.Fl} {k : Nat} {i j : Nat} (hs : ps.Srt xs) (h : PF xs k i j) {m : Nat} {x : ps.Fl} (hx : xs[m]? = some x) (hc : x.c = (j : Int) + 1) (hr : x.r = (i : Int) + 1) : m = k ∧ PF xs (k + 1) i ((j + 1 : Nat) : Int) := by
  have hmk : ¬ m < k := fun hlt => by
    have := h.2.1 m x hlt hx
    unfold BF at this
    omega
  have hm : m = k := by
    rcases Nat.lt_or_ge k m with hlt | hge
    · obtain ⟨y, hy⟩ : ∃ y, xs[k]? = some y := ⟨_, List.getElem?_eq_getElem (by have := (List.getElem?_eq_some_iff.1 hx).1; omega)⟩
      have h1 := ps.lt_iff.1 (ps.srt_get hs hy hx hlt)
      have h2 := h.2.2 k y (Nat.le_refl _) hy
      unfold BF at h2
      omega
    · omega
  subst hm
  refine ⟨rfl, (List.getElem?_eq_some_iff.1 hx).1, fun n y hn hy => ?_, fun n y hn hy hb => ?_⟩
  · by_cases e : n = m
    · subst e
      obtain rfl := Option.some.inj (hx.symm.trans hy)
      unfold BF
      omega
    · have := h.2.1 n y (by omega) hy
      unfold BF at this ⊢
      omega
  · have h1 := ps.lt_iff.1 (ps.srt_get hs hx hy (by omega))
    unfold BF at hb
    omega
theorem PF.line {xs : List ps.Fl} {k : Nat} {i W : Nat} (h : PF xs k i (W : Int)) (hw : ∀ x ∈ xs, 1 ≤ x.c ∧ x.c ≤ (W : Int)) : PF xs k ((i + 1 : Nat) : Int) 0 := by
  refine ⟨h.1, fun m x hm hx => ?_, fun m x hm hx hb => ?_⟩
  · have h1 := h.2.1 m x hm hx
    have h2 := hw x (List.mem_of_getElem? hx)
    unfold BF at h1 ⊢
    omega
  · have h1 := h.2.2 m x hm hx
    have h2 := hw x (List.mem_of_getElem? hx)
    unfold BF at h1 hb
    omega
theorem PF.done {xs : List ps.Fl} {k H : Nat} (h : PF xs k (H : Int) 0) (hh : ∀ x ∈ xs, x.r ≤ (H : Int)) : k = xs.length := by
  rcases Nat.lt_or_ge k xs.length with hlt | hge
  · obtain ⟨x, hx⟩ : ∃ x, xs[k]? = some x := ⟨_, List.getElem?_eq_getElem hlt⟩
    have h1 := h.2.2 k x (Nat.le_refl _) hx
    have h2 := hh x (List.mem_of_getElem? hx)
    unfold BF at h1
    omega
  · have := h.1; omega
/-- The last column and row. -/
def mxC (xs : List ps.Fl) : Nat := xs.foldl (fun a x => max a x.c.toNat) 0
def mxR (xs : List ps.Fl) : Nat := xs.foldl (fun a x => max a x.r.toNat) 0
theorem mxC_snoc (xs : List ps.Fl) (x : ps.Fl) : mxC (xs ++ [x]) = max (mxC xs) x.c.toNat := by unfold mxC; rw [List.foldl_append]; rfl
theorem mxR_snoc (xs : List ps.Fl) (x : ps.Fl) : mxR (xs ++ [x]) = max (mxR xs) x.r.toNat := by unfold mxR; rw [List.foldl_append]; rfl
theorem mx_all (xs : List ps.Fl) (hc : ∀ x ∈ xs, adr.isC x.c x.r = true) : (∀ x ∈ xs, x.c ≤ (mxC xs : Int) ∧ x.r ≤ (mxR xs : Int)) ∧ mxC xs ≤ 26 ∧ mxR xs ≤ 99 := by
  have key : ∀ n, n ≤ xs.length → (∀ x ∈ xs.take n, x.c ≤ (mxC (xs.take n) : Int) ∧ x.r ≤ (mxR (xs.take n) : Int)) ∧ mxC (xs.take n) ≤ 26 ∧ mxR (xs.take n) ≤ 99 := by
    intro n
    induction n with
    | zero => intro _; exact ⟨fun x hx => by simp at hx, by simp [mxC], by simp [mxR]⟩
    | succ n ih =>
      intro hn
      obtain ⟨h1, h2, h3⟩ := ih (by omega)
      obtain ⟨x, hx⟩ : ∃ x, xs[n]? = some x := ⟨_, List.getElem?_eq_getElem (by omega)⟩
      have hxc := adr.isC_iff.1 (hc x (List.mem_of_getElem? hx))
      have e : xs.take (n + 1) = xs.take n ++ [x] := by rw [List.take_add_one, hx]; rfl
      rw [e, mxC_snoc, mxR_snoc]
      refine ⟨fun y hy => ?_, by omega, by omega⟩
      rcases List.mem_append.1 hy with hy | hy
      · have := h1 y hy
        omega
      · rw [List.mem_singleton] at hy
        subst hy
        omega
  have := key xs.length (Nat.le_refl _)
  rwa [List.take_length] at this
/-- The grid of a sheet. -/
def grid (xs : List ps.Fl) (H W : Nat) : List (List ByteArray) := (List.range H).map fun i => (List.range W).map fun j => gt xs i j
theorem grid_at {xs : List ps.Fl} {H W i : Nat} (hi : i < H) : (grid xs H W)[i]? = some ((List.range W).map fun j => gt xs i j) := by
  unfold grid
  rw [List.getElem?_map, List.getElem?_range hi]
  rfl
theorem grid_cell {xs : List ps.Fl} {W i j : Nat} (hj : j < W) : ((List.range W).map fun j => gt xs i j)[j]? = some (gt xs i j) := by
  rw [List.getElem?_map, List.getElem?_range hj]
  rfl
set_option maxRecDepth 1000000 in
set_option maxHeartbeats 4000000 in
/-- sccsame.Sheets at a list of cells that lies in memory twice. -/
theorem rsheets_fm (X : List ps.Fl) (p p' : Option Addr) (c c' : Nat) (w : World) (hv : ps.FM w p X) (hv' : ps.FM w p' X) (hl : X.length ≤ 100000) :
    Calls Tryz.prog 7 #[.slice p X.length c, .slice p' X.length c'] w fun e w' => e = .returned (.bool true) ∧ Bw w w' := by
  have HV : Hid (ps.FM w p X) := hv
  have HV' : Hid (ps.FM w p' X) := hv'
  have hl9 : (X.length : Int) ≤ 100000 := by omega
  clear hv hl hv'
  go_enter Tryz.func7, Tryz.ntmps7
  go_upto_block 0 with fail
  go_cut [] (fun wx => Hid (Bw w wx))
  case first =>
    go_wp2_with fail
    go_loopw [5] (fun s5 wr => ∃ i : Nat, s5 = .int .i64 (i : Int) ∧ i ≤ X.length ∧ Hid (Bw w wr)) (fun s5 _ => X.length - (intOf s5).toNat)
    case atStart => exact ⟨0, rfl, Nat.zero_le _, Below.refl _ _⟩
    case round =>
      obtain ⟨i, rfl, hi, HR⟩ := hrel
      by_cases hlt : i < X.length
      · have hlt' : (i : Int) < (X.length : Int) := by omega
        have hi0 : (0 : Int) ≤ (i : Int) := by omega
        have hx : X[i]? = some X[i] := List.getElem?_eq_getElem hlt
        obtain ⟨x, ex⟩ : ∃ x, X[i] = x := ⟨_, rfl⟩
        rw [ex] at hx
        obtain ⟨gX, oX, rfl, -, q0, q1, q2⟩ := fm_at (fm_next HV.out HR.out) hx
        obtain ⟨gY, oY, rfl, -, r0, r1, r2⟩ := fm_at (fm_next HV'.out HR.out) hx
        have e30 := fun W => neqF x.c x.r x.s W
        clear hx ex
        obtain ⟨xc, xr, xs⟩ := x
        dsimp only at q0 q1 q2 r0 r1 r2 e30
        go_wp2_with fail
        go_cut [25] (fun s25 wx => s25 = .bool false ∧ wx = wr.drew)
        case first =>
          go_region
          all_goals
            go_wp2_with fail
            go_meet
            case rel => exact ⟨rfl, rfl⟩
        case rest =>
        obtain ⟨rfl, rfl⟩ := hcut
        apply_assumption
        clear q0 q1 q2 r0 r1 r2 e30
        have HR2 : Hid (Bw w wr.drew) := HR.out.drew
        go_wp2_with fail
        exact ⟨⟨i + 1, rfl, hlt, HR2⟩, by simp [intOf]; omega⟩
      · have hlt' : ¬ (i : Int) < (X.length : Int) := by omega
        go_wp2_with fail
        go_meet
        case rel => exact HR
  case rest =>
  have HC := hcut
  clear hcut
  apply_assumption
  go_wp2_with fail
  go_ret
  exact ⟨rfl, HC.out⟩
end Go.Proofs.YtdinmgepdeigjaaGreatDoor.fw
