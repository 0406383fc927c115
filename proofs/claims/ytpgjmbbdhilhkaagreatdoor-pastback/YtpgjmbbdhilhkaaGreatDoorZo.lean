/- Package past: one text is set; package graph: what is told of a sheet, in plain words. Conditions: as each theorem says. -/
import Derived.Test.YtpgjmbbdhilhkaaGreatDoorZn
namespace Go.Proofs.YtpgjmbbdhilhkaaGreatDoor.ps
open Go.RowKit
open adr (C isC ckc)
/-- What a group of one text leaves behind. -/
def G1 (bp : Nat) (xs : List Fl) (st : List St) (vn vs : Value) (f : Fl) (V : Value → Prop) (w : World) (v : Value) (w' : World) : Prop :=
  KP bp w w' ∧ ((PS w' bp xs st st.length vn vs ∧ (V v ∨ 200 < (wt xs f).length ∨ (v = .nilIface ∧ txt xs f.c f.r = f.s))) ∨ (v = .nilIface ∧ (wt xs f).length ≤ 200 ∧ ∃ s vn' vs', s.a = ⟨f.c, f.r, txt xs f.c f.r⟩ ∧ s.b = f ∧ PS w' bp (wt xs f) (st ++ [s]) (st.length + 1) vn' vs'))
set_option maxHeartbeats 1600000 in
theorem set_any (bp : Nat) (xs : List Fl) (st : List St) (vn vs : Value) (f : Fl) (V : Value → Prop) (w : World) (h : PS w bp xs st st.length vn vs) (hn : st.length ≤ 1000) (hl : xs.length ≤ 200) (hs : Srt xs)
    (hc : ∀ wx, Below w.heap.size w wx → Calls Tryz.prog 17 #[C f.c f.r, .string f.s] wx fun e w' => (∃ v, e = .returned v ∧ (v = .nilIface ∨ (V v ∧ ∃ t x, v = .iface t x))) ∧ Below wx.heap.size wx w') :
    Calls Tryz.prog 6 #[.pointer (some ⟨bp, 0, none⟩), C f.c f.r, .string f.s] w fun e w' => ∃ v, e = .returned v ∧ G1 bp xs st vn vs f V w v w' := by
  have hb1 : Below w.heap.size w ((w.alloc (.cells #[.int .i64 f.c, .int .i64 f.r] 30)).alloc (.cells #[.int .i64 f.c, .int .i64 f.r, .string f.s] 33)) := ((Below.refl _ _).alloc (Nat.le_refl _) _).alloc (by simp) _
  have HG : Hid (Calls Tryz.prog 12 #[.pointer (some ⟨bp, 0, none⟩), .slice (some ⟨w.heap.size + 1, 0, none⟩) 1 1] ((w.alloc (.cells #[.int .i64 f.c, .int .i64 f.r] 30)).alloc (.cells #[.int .i64 f.c, .int .i64 f.r, .string f.s] 33)) fun e w' => ∃ v, e = .returned v ∧ G1 bp xs st vn vs f V w v w') :=
    (group1 bp xs st vn vs (w.heap.size + 1) 0 1 f V _ (h.next hb1) hn hl hs (by have := fm_new (w.alloc (.cells #[.int .i64 f.c, .int .i64 f.r] 30)) f; simpa using this) (fun wx hx => hc wx (bnext hb1 hx hb1.size))).mono (fun e w' ⟨v, e1, e2, e3⟩ => ⟨v, e1, (KP.of hb1 (Nat.le_of_lt h.lt)).trans e2, e3⟩)
  clear h hc hb1 hs hl hn
  go_enter Tryz.func6, Tryz.ntmps6
  go_wp2_with fail
  refine HG.out.mono ?_
  rintro e w1 ⟨v, rfl, hg⟩
  go_wp2_with fail
  go_ret
  exact ⟨v, rfl, hg⟩
/-- A sheet that is told no fault of, for sure: no formulas, short texts. -/
def OKs (xs : List Fl) : Prop := xs.length ≤ 200 ∧ Srt xs ∧ ∀ x ∈ xs, isC x.c x.r = true ∧ x.s.size ≠ 0 ∧ x.s.size ≤ 200 ∧ eqS x.s = false
theorem lt_trans {x y : Fl} {c r : Int} (h1 : lt x y.c y.r = true) (h2 : lt y c r = true) : lt x c r = true := by
  rw [lt_iff] at *
  omega
theorem srt_snoc {l : List Fl} {x : Fl} (hs : Srt l) (h : ∀ y, l.getLast? = some y → lt y x.c x.r = true) : Srt (l ++ [x]) := by
  refine List.pairwise_append.2 ⟨hs, by simp, fun a ha b hb => ?_⟩
  have e : b = x := by simpa using hb
  subst e
  obtain ⟨i, hi⟩ := List.getElem?_of_mem ha
  have hl : l.length ≠ 0 := fun e => by rw [List.length_eq_zero_iff.1 e] at ha; cases ha
  have hlast : l.getLast? = l[l.length - 1]? := by rw [List.getLast?_eq_getElem?]
  obtain ⟨y, hy⟩ : ∃ y, l[l.length - 1]? = some y := ⟨_, List.getElem?_eq_getElem (by omega)⟩
  have hy' := h y (by rw [hlast, hy])
  have hlt := (List.getElem?_eq_some_iff.1 hi).1
  by_cases e : i = l.length - 1
  · subst e
    rw [hi] at hy
    injection hy with hy
    subst hy
    exact hy'
  · exact lt_trans (srt_get hs hi hy (by omega)) hy'
theorem srt_take {xs : List Fl} {i : Nat} {x : Fl} (hs : Srt (xs.take i)) (hx : xs[i]? = some x) (h : ∀ y, 0 < i → xs[i - 1]? = some y → lt y x.c x.r = true) : Srt (xs.take (i + 1)) := by
  have hlt := (List.getElem?_eq_some_iff.1 hx).1
  rw [List.take_add_one, hx]
  refine srt_snoc hs (fun y hy => ?_)
  rw [List.getLast?_eq_getElem?, List.length_take, Nat.min_eq_left (by omega)] at hy
  by_cases e : i = 0
  · subst e; simp at hy
  · exact h y (by omega) (by rw [List.getElem?_take] at hy; rw [if_pos (by omega)] at hy; exact hy)
def zr12 (n : Nat) : Array Value := madeCells fm.NZ (n * 12)
theorem zr12_size (n : Nat) : (zr12 n).size = n * 12 := by
  unfold zr12
  simp [madeCells]
theorem info65 : (Tryz.prog.info? 65).map (fun i => (i.zero, i.size, i.bytes)) = some (some (.agg fm.NZ), 12, 104) := by kernel_rfl
theorem make65 (n : Nat) (hn : n ≤ 100000) (w : World) : (Instr.makeSlice 50 (.int .i64 (n : Int)) (.int .i64 (n : Int))).run Tryz.prog w = .ok (.slice (some ⟨w.heap.size, 0, none⟩) n n) (w.alloc (.cells (zr12 n) 65)) := by
  obtain ⟨i0, hi, hz0, hz1, hz2⟩ := info_parts info65
  have := run_make (P := Tryz.prog) w 50 65 i0 _ Tryz.underlying50 hi hz0 .i64 .i64 (n : Int) (n : Int) (by omega) (by omega) (by rw [hz2]; omega) (by omega)
  rw [this, hz1]
  simp [zr12, Value.cells]
/-- The nodes' block of the walk, whatever is in it. -/
def LW (w : World) (n : Nat) (wr : World) : Prop := Below w.heap.size w wr ∧ ∃ cs, wr.heap[w.heap.size]? = some (.cells cs 65 (0, 0)) ∧ cs.size = n * 12
theorem LW.next {w : World} {n : Nat} {wr wx : World} (h : LW w n wr) (hb : Below wr.heap.size wr wx) : LW w n wx := by
  obtain ⟨h1, cs, h2, h3⟩ := h
  exact ⟨bnext h1 hb h1.size, cs, (hb.block _ (fm.lt_blk h2)).trans h2, h3⟩
theorem LW.set {w : World} {n : Nat} {wr : World} (h : LW w n wr) (o : Nat) (u : Value) : LW w n (wr.setCell ⟨w.heap.size, o, none⟩ u) := by
  obtain ⟨h1, cs, h2, h3⟩ := h
  exact ⟨h1.setCell (Nat.le_refl _) _, _, fm.blk_set h2, by simp [h3]⟩
theorem LW.at {w : World} {n : Nat} {wr : World} (h : LW w n wr) {i j : Nat} (hi : i < n) (hj : j < 12) : (∃ u, wr.cell? ⟨w.heap.size, i * 12 + j, none⟩ = some u) ∧ wr.frozen? ⟨w.heap.size, i * 12 + j, none⟩ = false := by
  obtain ⟨h1, cs, h2, h3⟩ := h
  refine ⟨⟨cs[i * 12 + j]'(by omega), ?_⟩, froz h2 _⟩
  rw [fm.cell_blk h2]
  exact Array.getElem?_eq_getElem _
theorem LW.make (w : World) (n : Nat) : LW w n (w.alloc (.cells (zr12 n) 65)) := ⟨(Below.refl _ _).alloc (Nat.le_refl _) _, _, heap_alloc_new _ _, zr12_size n⟩
theorem LW.ahead {w : World} {n : Nat} {wr : World} (h : LW w n wr) : Below w.heap.size w wr := h.1
end Go.Proofs.YtpgjmbbdhilhkaaGreatDoor.ps
