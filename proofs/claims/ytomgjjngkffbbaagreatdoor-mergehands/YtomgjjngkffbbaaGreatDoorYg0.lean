
/- Package rows: Swap. Conditions: as each theorem says. -/
import Derived.Test.YtomgjjngkffbbaaGreatDoorZd
import Derived.Test.YtomgjjngkffbbaaGreatDoorYb
import Derived.Deep.CutBlock
namespace Go.Proofs.YtomgjjngkffbbaaGreatDoor.ps
open Go.RowKit
open adr (C isC ckc)
/-- What is at hand in a round: the new list, the box of the cell. -/
structure WS (w : World) (bf : Nat) (f : Fl) (v : Value) (ys : List Fl) (wx : World) : Prop where
  own : wx.ownsRow w.heap.size 45 3 v ys.length (flF ys)
  ne : v.ownBlock ≠ some bf
  box : wx.heap[bf]? = some (.cells #[.int .i64 f.c, .int .i64 f.r, .string f.s] 45 (0, 0))
  le : w.heap.size ≤ bf
  below : Below w.heap.size w wx
theorem own_next {wx wy : World} {B : Nat} {v : Value} {n : Nat} {xs : List Value} (h : wx.ownsRow B 45 3 v n xs) (hb : Below wx.heap.size wx wy) : wy.ownsRow B 45 3 v n xs := by
  refine ⟨h.1, ?_⟩
  rcases h.2 with h0 | ⟨g, cap, cur, h1, h2, hg, h4⟩
  · exact .inl h0
  · exact .inr ⟨g, cap, cur, h1, h2, (hb.block g (fm.lt_blk hg)).trans hg, h4⟩
theorem WS.next {w : World} {bf : Nat} {f : Fl} {v : Value} {ys : List Fl} {wx wy : World} (h : WS w bf f v ys wx) (hb : Below wx.heap.size wx wy) : WS w bf f v ys wy :=
  ⟨own_next h.own hb, h.ne, (hb.block _ (fm.lt_blk h.box)).trans h.box, h.le, bnext h.below hb h.below.size⟩
/-- A new list and what was there. -/
structure LV (w : World) (v : Value) (ys : List Fl) (wx : World) : Prop where
  own : wx.ownsRow w.heap.size 45 3 v ys.length (flF ys)
  below : Below w.heap.size w wx
theorem LV.nil (w : World) : LV w (.slice none 0 0) [] w := ⟨⟨rfl, .inl ⟨rfl, rfl⟩⟩, Below.refl _ _⟩
theorem LV.next {w : World} {v : Value} {ys : List Fl} {wx wy : World} (h : LV w v ys wx) (hb : Below wx.heap.size wx wy) : LV w v ys wy := ⟨own_next h.own hb, bnext h.below hb h.below.size⟩
theorem LV.box {w : World} {v : Value} {ys : List Fl} {wx : World} (h : LV w v ys wx) (f : Fl) : WS w wx.heap.size f v ys (wx.alloc (.cells #[.int .i64 f.c, .int .i64 f.r, .string f.s] 45)) := by
  have hb : Below wx.heap.size wx (wx.alloc (.cells #[.int .i64 f.c, .int .i64 f.r, .string f.s] 45)) := (Below.refl _ _).alloc (Nat.le_refl _) _
  exact ⟨own_next h.own hb, fun e => Nat.lt_irrefl _ (h.own.lt _ e).2, heap_alloc_new _ _, h.below.size, bnext h.below hb h.below.size⟩
/-- The cell's box has another cell now. -/
theorem WS.set2 {w : World} {bf : Nat} {f : Fl} {v : Value} {ys : List Fl} {wx : World} (h : WS w bf f v ys wx) (c r : Int) : WS w bf ⟨c, r, f.s⟩ v ys ((wx.setCell ⟨bf, 0, none⟩ (.int .i64 c)).setCell ⟨bf, 1, none⟩ (.int .i64 r)) := by
  have h1 := fm.blk_set (o := 0) (u := .int .i64 c) h.box
  have h2 := fm.blk_set (o := 1) (u := .int .i64 r) h1
  refine ⟨⟨h.own.1, ?_⟩, h.ne, by simpa using h2, h.le, (h.below.setCell h.le _).setCell h.le _⟩
  rcases h.own.2 with h0 | ⟨g, cap, cur, e1, e2, hg, h4⟩
  · exact .inl h0
  · have hne : g ≠ bf := fun e => h.ne (by rw [e1, e]; rfl)
    exact .inr ⟨g, cap, cur, e1, e2, ((Below.heap_setCell _ _ _ _ hne).trans (Below.heap_setCell _ _ _ _ hne)).trans hg, h4⟩
/-- One more behind it. -/
theorem WS.one {w : World} {bf : Nat} {f : Fl} {v : Value} {ys : List Fl} {wx : World} (h : WS w bf f v ys wx) (hy : ys.length ≤ 1000) (y : Fl) :
    ∃ p n c w', (Builtin.append_ #[22, 22] 22 #[v, .slice (some ⟨wx.heap.size, 0, none⟩) 1 1]).run Tryz.prog (wx.alloc (.cells #[.int .i64 y.c, .int .i64 y.r, .string y.s] 45)) = .ok (.slice p n c) w' ∧ LV w (.slice p n c) (ys ++ [y]) w' := by
  have h1 := h.next ((Below.refl _ _).alloc (Nat.le_refl _) (.cells #[.int .i64 y.c, .int .i64 y.r, .string y.s] 45))
  obtain ⟨v', w', r1, r2, r3, r4, r5, r6⟩ := app_many (wx.alloc (.cells #[.int .i64 y.c, .int .i64 y.r, .string y.s] 45)) w.heap.size h1.below.size v ys.length (flF ys) h1.own hy (some ⟨wx.heap.size, 0, none⟩) [y] 1 (fm_new wx y) (by simp)
  have ho : w'.ownsRow w.heap.size 45 3 v' (ys ++ [y]).length (flF (ys ++ [y])) := by rw [flF_app, List.length_append]; exact r2
  obtain ⟨p, c, rfl, -⟩ := FB.shape (own_base ho (Nat.zero_le _))
  exact ⟨p, _, c, w', r1, ho, h1.below.trans r3⟩
end Go.Proofs.YtomgjjngkffbbaaGreatDoor.ps
