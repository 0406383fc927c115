/- Package rows: Swap. Conditions: as each theorem says. -/
import Derived.Test.YtcekgefkimbfaaaGreatDoorJd
import Derived.Test.YtcekgefkimbfaaaGreatDoorJb
import Derived.Deep.CutBlock
import Derived.Test.YtcekgefkimbfaaaGreatDoorJf
import Derived.Shelf.SlicesQ.Reverse
import Derived.Test.YtcekgefkimbfaaaGreatDoorProg
import Derived.Lib.SliceRun
namespace Go.Proofs.YtcekgefkimbfaaaGreatDoor.ps
open Go.RowKit
open adr (C isC ckc)
/-- What is at hand in a round: the new list, the box of the cell. -/
structure WS (w : World) (bf : Nat) (f : Fl) (v : Value) (ys : List Fl) (wx : World) : Prop where
  own : wx.ownsRow w.heap.size 36 3 v ys.length (flF ys)
  ne : v.ownBlock ≠ some bf
  box : wx.heap[bf]? = some (.cells #[.int .i64 f.c, .int .i64 f.r, .string f.s] 36 (0, 0))
  le : w.heap.size ≤ bf
  below : Below w.heap.size w wx
theorem own_next {wx wy : World} {B : Nat} {v : Value} {n : Nat} {xs : List Value} (h : wx.ownsRow B 36 3 v n xs) (hb : Below wx.heap.size wx wy) : wy.ownsRow B 36 3 v n xs := by
  refine ⟨h.1, ?_⟩
  rcases h.2 with h0 | ⟨g, cap, cur, h1, h2, hg, h4⟩
  · exact .inl h0
  · exact .inr ⟨g, cap, cur, h1, h2, (hb.block g (fm.lt_blk hg)).trans hg, h4⟩
theorem WS.next {w : World} {bf : Nat} {f : Fl} {v : Value} {ys : List Fl} {wx wy : World} (h : WS w bf f v ys wx) (hb : Below wx.heap.size wx wy) : WS w bf f v ys wy :=
  ⟨own_next h.own hb, h.ne, (hb.block _ (fm.lt_blk h.box)).trans h.box, h.le, bnext h.below hb h.below.size⟩
/-- A new list and what was there. -/
structure LV (w : World) (v : Value) (ys : List Fl) (wx : World) : Prop where
  own : wx.ownsRow w.heap.size 36 3 v ys.length (flF ys)
  below : Below w.heap.size w wx
theorem LV.nil (w : World) : LV w (.slice none 0 0) [] w := ⟨⟨rfl, .inl ⟨rfl, rfl⟩⟩, Below.refl _ _⟩
theorem LV.next {w : World} {v : Value} {ys : List Fl} {wx wy : World} (h : LV w v ys wx) (hb : Below wx.heap.size wx wy) : LV w v ys wy := ⟨own_next h.own hb, bnext h.below hb h.below.size⟩
theorem LV.box {w : World} {v : Value} {ys : List Fl} {wx : World} (h : LV w v ys wx) (f : Fl) : WS w wx.heap.size f v ys (wx.alloc (.cells #[.int .i64 f.c, .int .i64 f.r, .string f.s] 36)) := by
  have hb : Below wx.heap.size wx (wx.alloc (.cells #[.int .i64 f.c, .int .i64 f.r, .string f.s] 36)) := (Below.refl _ _).alloc (Nat.le_refl _) _
  exact ⟨own_next h.own hb, fun e => Nat.lt_irrefl _ (h.own.lt _ e).2, heap_alloc_new _ _, h.below.size, bnext h.below hb h.below.size⟩
/-- The cell's box has another cell now. -/
theorem WS.set2 {w : World} {bf : Nat} {f : Fl} {v : Value} {ys : List Fl} {wx : World} (h : WS w bf f v ys wx) (c r : Int) : WS w bf ⟨c, r, f.s⟩ v ys ((wx.setCell ⟨bf, 0, none⟩ (.int .i64 c)).setCell ⟨bf, 1, none⟩ (.int .i64 r)) := by
  have h1 := fm.blk_set (o := 0) (u := .int .i64 c) h.box
  have h2 := fm.blk_set (o := 1) (u := .int .i64 r) h1
  refine ⟨⟨h.own.1, ?_⟩, h.ne, by simpa using h2, h.le, (h.below.setCell h.le _).setCell h.le _⟩
  rcases h.own.2 with h0 | ⟨g, cap, cur, e1, e2, hg, h4⟩
  · exact .inl h0
  · have hne : g ≠ bf := fun e => h.ne (by rw [e1, e]; rfl)
    exact .inr ⟨g, cap, cur, e1, e2, ((Below.heap_setCell _ _ _ _ hne).trans (Below.heap_setCell _ _ _ _ hne)).trans hg, h4⟩
/-- One more behind it. -/
theorem WS.one {w : World} {bf : Nat} {f : Fl} {v : Value} {ys : List Fl} {wx : World} (h : WS w bf f v ys wx) (hy : ys.length ≤ 1000) (y : Fl) :
    ∃ p n c w', (Builtin.append_ #[22, 22] 22 #[v, .slice (some ⟨wx.heap.size, 0, none⟩) 1 1]).run Tryz.prog (wx.alloc (.cells #[.int .i64 y.c, .int .i64 y.r, .string y.s] 36)) = .ok (.slice p n c) w' ∧ LV w (.slice p n c) (ys ++ [y]) w' := by
  have h1 := h.next ((Below.refl _ _).alloc (Nat.le_refl _) (.cells #[.int .i64 y.c, .int .i64 y.r, .string y.s] 36))
  obtain ⟨v', w', r1, r2, r3, r4, r5, r6⟩ := app_many (wx.alloc (.cells #[.int .i64 y.c, .int .i64 y.r, .string y.s] 36)) w.heap.size h1.below.size v ys.length (flF ys) h1.own hy (some ⟨wx.heap.size, 0, none⟩) [y] 1 (fm_new wx y) (by simp)
  have ho : w'.ownsRow w.heap.size 36 3 v' (ys ++ [y]).length (flF (ys ++ [y])) := by rw [flF_app, List.length_append]; exact r2
  obtain ⟨p, c, rfl, -⟩ := FB.shape (own_base ho (Nat.zero_le _))
  exact ⟨p, _, c, w', r1, ho, h1.below.trans r3⟩
end Go.Proofs.YtcekgefkimbfaaaGreatDoor.ps
/- slices.SortStableFunc at a list of cells with their texts, by cells. Conditions: as each theorem says. -/
namespace Go.Proofs.YtcekgefkimbfaaaGreatDoor.ps
open Go.RowKit Go.Sort
open adr (C)
theorem flF_map_len (D : List Ft) : (flF (D.map Prod.fst)).length = D.length * 3 := by rw [flF_len, List.length_map]
theorem own_sorted [Inhabited Ft] {w : World} {base g cap n : Nat} {xs : List Value} (hown : w.ownsRow base 36 3 (.slice (some ⟨g, 0, none⟩) n cap) n xs) (D : List Ft) (hn : D.length = n) (m : Nat) (os : Array Obj) :
    (sortWorldK e3 3 w g 0 m D.toArray os).ownsRow base 36 3 (.slice (some ⟨g, 0, none⟩) n cap) n (flF (D.map Prod.fst)) := by
  rcases hown.2 with ⟨e, _⟩ | ⟨g', cap', cur, e, hb, hg, hc, hm, hz, ht⟩
  · cases e
  · injection e with e1 _ e3'
    injection e1 with e1
    injection e1 with e1
    subst e1 e3'
    have hlt := fm.lt_blk hg
    refine ⟨by rw [flF_map_len, hn], .inr ⟨g, cap, putCells id 0 (flatK e3 3 D.toArray) cur, rfl, hb, ?_, hc, hm, ?_, ?_⟩⟩
    · unfold sortWorldK putRowK putRow mapBlock Go.Sort.ahead grow
      simp only
      rw [Array.getElem?_append_left (by simpa using hlt), Array.getElem?_modify, if_pos rfl, hg]
      rfl
    · unfold putCells
      rw [Array.size_mapIdx]; exact hz
    · apply List.ext_getElem?
      intro t
      rw [List.getElem?_take]
      by_cases h : t < n * 3
      · rw [if_pos h]
        have htc : t < cur.size := by rw [hz]; have := Nat.mul_le_mul_right 3 hc; omega
        have hi : t / 3 < D.length := by omega
        unfold putCells
        rw [Array.getElem?_toList, Array.getElem?_mapIdx, Array.getElem?_eq_getElem htc, Option.map_some]
        rw [if_pos ⟨Nat.zero_le _, by rw [size_flatK]; simp; omega⟩]
        rw [Nat.sub_zero, get_flatK e3 3 D.toArray t (by simp; omega)]
        have hx : D.toArray[t / 3]! = D[t / 3] := at_get (List.getElem?_eq_getElem hi)
        rw [hx]
        have hj3 : t % 3 < 3 := Nat.mod_lt _ (by decide)
        have hm' : (D.map Prod.fst)[t / 3]? = some D[t / 3].1 := by rw [List.getElem?_map, List.getElem?_eq_getElem hi]; rfl
        have := flF_at hm' (j := t % 3) (get_bang (show t % 3 < (fl3 D[t / 3].1).length from hj3))
        rw [show t / 3 * 3 + t % 3 = t by omega] at this
        rw [this]
        rfl
      · rw [if_neg h, List.getElem?_eq_none (by rw [flF_map_len, hn]; omega)]
/-- Who stood ahead. -/
def Jt (a b : Ft) : Prop := a.2 < b.2
/-- Which of two comes first: by cells, and of one cell who stood ahead. -/
def Tt (a b : Ft) : Prop := lt a.1 b.1.c b.1.r = true ∨ (a.1.c = b.1.c ∧ a.1.r = b.1.r ∧ a.2 < b.2)
def cft (a b : Ft) : Int := cmpC a.1.c a.1.r b.1.c b.1.r
theorem tt_trans (a b c : Ft) (h1 : Tt a b) (h2 : Tt b c) : Tt a c := by
  unfold Tt at *
  rw [lt_iff] at *
  omega
theorem jn_t : Jn (ltOf cft) Tt Jt := by
  intro a b h
  have e : ltOf cft b a = lt b.1 a.1.c a.1.r := rfl
  rw [e]
  unfold Tt
  unfold Jt at h
  refine ⟨fun h1 => ?_, fun h1 => ?_⟩
  · rw [lt_no] at h1
    rw [lt_iff]
    omega
  · exact .inl h1
theorem lays51 [Inhabited Ft] (hc : ∀ (x y : Fl) (w : World), Calls Tryz.prog 51 #[FV x, FV y] w fun e w' => e = .returned (.int .i64 (cmpC x.c x.r y.c y.r)) ∧ Gr w w') (blk off size : Nat) (w : World) : CmpLays Tryz.prog 51 #[] e3 3 cft blk off size w :=
  fun _ _ _ _ x y => hc x.1 y.1 _
set_option maxRecDepth 100000 in
set_option maxHeartbeats 1600000 in
theorem cmp51_any (x y : Fl) (w : World) : Calls Tryz.prog 51 #[FV x, FV y] w fun e w' => e = .returned (.int .i64 (cmpC x.c x.r y.c y.r)) ∧ Gr w w' := by
  obtain ⟨xc, xr, xs⟩ := x
  obtain ⟨c, r, ys⟩ := y
  dsimp only [FV]
  have HC : Hid (∀ wx, Calls Tryz.prog 40 #[C xc xr, C c r] wx fun e w' => e = .returned (.int .i64 (cmpC xc xr c r)) ∧ Gr wx w') := compare_gr xc xr c r
  obtain ⟨h1, h2⟩ := two_new' w (.cells #[.int .i64 xc, .int .i64 xr, .string xs] 36) (.cells #[.int .i64 c, .int .i64 r, .string ys] 36)
  obtain ⟨y0, y1, y4⟩ := cells3 h1
  obtain ⟨y2, y3, y5⟩ := cells3 h2
  have HB : Hid (Gr w ((w.alloc (.cells #[.int .i64 xc, .int .i64 xr, .string xs] 36)).alloc (.cells #[.int .i64 c, .int .i64 r, .string ys] 36))) := ((Gr.refl _).alloc _).alloc _
  generalize cmpC xc xr c r = q at *
  clear h1 h2
  go_enter Tryz.func51, Tryz.ntmps51
  go_wp2_with fail
  refine (HC.out _).mono ?_
  rintro e w1 ⟨rfl, hb1⟩
  have HK : Hid (Gr w w1) := HB.out.trans hb1
  clear y0 y1 y2 y3 y4 y5 hb1
  go_wp2_with fail
  go_ret
  exact ⟨rfl, HK.out⟩
theorem zip_jt (l : List Fl) : (l.zipIdx).Pairwise Jt := by
  refine List.pairwise_iff_getElem.2 (fun i j hi hj hij => ?_)
  unfold Jt
  simp
  exact hij
theorem zip_fst (l : List Fl) : (l.zipIdx).map Prod.fst = l := by simp
set_option maxHeartbeats 1000000 in
theorem insertion0 (fv : Value) (w : World) : Calls Tryz.prog 72 #[.slice none 0 0, .int .i64 0, .int .i64 0, fv] w fun e w' => e = .returned (.tuple #[]) ∧ w' = w := by
  go_enter Tryz.func72, Tryz.ntmps72
  go_wp2
  refine wp_loop_rounds 1 ?_
  rw [rounds_succ]
  go_wp2
  go_end0
  exact ⟨rfl, rfl⟩
set_option maxHeartbeats 1000000 in
theorem stable0 (fv : Value) (w : World) : Calls Tryz.prog 71 #[.slice none 0 0, .int .i64 0, fv] w fun e w' => e = .returned (.tuple #[]) ∧ w' = w := by
  have H : Hid (∀ wx, Calls Tryz.prog 72 #[.slice none 0 0, .int .i64 0, .int .i64 0, fv] wx fun e w' => e = .returned (.tuple #[]) ∧ w' = wx) := insertion0 fv
  go_enter Tryz.func71, Tryz.ntmps71
  go_wp2_with fail
  refine wp_loop_rounds 1 ?_
  rw [rounds_succ]
  go_wp2_with fail
  refine (H.out _).mono ?_
  rintro e w1 ⟨rfl, rfl⟩
  go_wp2_with fail
  refine wp_loop_rounds 1 ?_
  rw [rounds_succ]
  go_wp2_with fail
  go_end0
  exact ⟨rfl, rfl⟩
/-- What the stable sort leaves of a list. -/
def StO (l : List Fl) (Z : List Ft) : Prop := Z.Perm l.zipIdx ∧ Z.Pairwise Tt
set_option maxHeartbeats 1000000 in
theorem sortStable_any (v : Value) (l : List Fl) (base : Nat) (w : World) (hown : w.ownsRow base 36 3 v l.length (flF l)) (hbase : base ≤ w.heap.size) (hl : l.length ≤ 4398046511104) :
    Calls Tryz.prog 50 #[v, .func (.func 51) #[] #[]] w fun e w' => e = .returned (.tuple #[]) ∧ (∃ Z, StO l Z ∧ w'.ownsRow base 36 3 v l.length (flF (Z.map Prod.fst))) ∧ Below base w w' := by
  haveI : Inhabited Ft := ⟨⟨⟨0, 0, nul⟩, 0⟩⟩
  have H : Hid (∃ p n c, v = .slice p n c ∧ l.length = n ∧ Calls Tryz.prog 71 #[v, .int .i64 (n : Nat), .func (.func 51) #[] #[]] w fun e w' => e = .returned (.tuple #[]) ∧ (∃ Z, StO l Z ∧ w'.ownsRow base 36 3 v l.length (flF (Z.map Prod.fst))) ∧ Below base w w') := by
    have hsh := FB.shape (own_base hown (Nat.zero_le _))
    rcases hown.2 with ⟨rfl, h0⟩ | ⟨g, cap, cur, rfl, hbg, hg, hcap, hm, hz, ht⟩
    · have e0 : l = [] := List.length_eq_zero_iff.1 h0
      subst e0
      refine ⟨none, 0, 0, rfl, rfl, (stable0 _ w).mono ?_⟩
      rintro e w' ⟨rfl, rfl⟩
      exact ⟨rfl, ⟨[], ⟨List.Perm.refl _, by simp⟩, hown⟩, Below.refl _ _⟩
    · refine ⟨_, _, _, rfl, rfl, ?_⟩
      obtain ⟨p, c, e, hM⟩ := hsh
      injection e with e1 _ e3'
      subst e1 e3'
      have hlt := fm.lt_blk hg
      have hcell : ∀ (t : Nat) u, (flF l)[t]? = some u → w.cell? ⟨g, t, none⟩ = some u := by
        rcases hM with hM | ⟨g', o', e, -, h3⟩
        · intro t u hu; rw [hM] at hu; simp [flF] at hu
        · injection e with e; injection e with e1 e2; subst e1 e2
          intro t u hu
          have := h3 t u hu
          rwa [Nat.zero_add] at this
      have hzl : l.zipIdx.length = l.length := by simp
      have hH : HoldsK e3 3 w g 0 l.zipIdx.toArray := by
        intro j hj
        rw [size_flatK] at hj
        have hj' : j < l.length * 3 := by simpa using hj
        have hi : j / 3 < l.length := by omega
        refine ⟨?_, froz hg _⟩
        rw [get_flatK e3 3 l.zipIdx.toArray j hj, Nat.zero_add]
        refine hcell j _ ?_
        have hx : l[j / 3]? = some l[j / 3] := List.getElem?_eq_getElem hi
        have hj3 : j % 3 < 3 := Nat.mod_lt _ (by decide)
        have hv : (fl3 l[j / 3])[j % 3]? = some (fl3 l[j / 3])[j % 3]! := get_bang (show j % 3 < (fl3 l[j / 3]).length from hj3)
        have := flF_at hx hv
        rw [show j / 3 * 3 + j % 3 = j by omega] at this
        rw [this]
        have e5 : l.zipIdx.toArray[j / 3]! = (l[j / 3], j / 3) := at_get (by rw [List.getElem?_zipIdx, hx]; simp)
        rw [e5]
        rfl
      have hs0 : l.zipIdx.toArray.size = l.length := by simp
      have R : RowK e3 3 w g 0 l.zipIdx.toArray := ⟨fun _ => rfl, fun x v hv => flF_one [x.1] v (by simpa [flF, e3] using hv), hH, hlt⟩
      have h := stable_any e3 cft Tt Jt tt_trans jn_t 51 #[] g 0 cap l.zipIdx.toArray w (enters_of Tryz.func51 (by kernel_rfl) rfl) (fun wx => lays51 cmp51_any g 0 _ wx) R (by rw [hs0]; exact hl) l.zipIdx w (by simp) (zip_jt l) (SWK.start hH)
      rw [hs0] at h
      refine h.mono ?_
      rintro e w' ⟨rfl, Z, z1, z2, n, os, rfl⟩
      exact ⟨rfl, ⟨Z, ⟨z1, z2⟩, own_sorted hown Z (by rw [z1.length_eq]; exact hzl) n os⟩, below_sorted e3 3 w g 0 n Z.toArray os hbg hbase⟩
  obtain ⟨p, n, c, rfl, hn, hC⟩ := H.out
  have HC : Hid (Calls Tryz.prog 71 #[.slice p n c, .int .i64 (n : Nat), .func (.func 51) #[] #[]] w fun e w' => e = .returned (.tuple #[]) ∧ (∃ Z, StO l Z ∧ w'.ownsRow base 36 3 (.slice p n c) l.length (flF (Z.map Prod.fst))) ∧ Below base w w') := hC
  clear hC H hown hbase hl hn
  go_enter Tryz.func50, Tryz.ntmps50
  go_wp2_with fail
  refine HC.out.mono ?_
  rintro e w1 ⟨rfl, hZ, hb⟩
  have HZ : Hid ((∃ Z, StO l Z ∧ w1.ownsRow base 36 3 (.slice p n c) l.length (flF (Z.map Prod.fst))) ∧ Below base w w1) := ⟨hZ, hb⟩
  clear hZ hb
  go_wp2_with fail
  go_end0
  exact ⟨rfl, HZ.out.1, HZ.out.2⟩
end Go.Proofs.YtcekgefkimbfaaaGreatDoor.ps
/- The contract of slices.Reverse at this program's cells with texts, laid out of the shelf in plain words. Nothing is walked here. -/
namespace Go.Proofs
open Go.Shelf
def Tryz.revF_ren : Go.Shelf.Ren := ⟨fun | 35 => 49 | n => n, fun | 22 => 22 | 23 => 36 | 3 => 3 | 4 => 4 | 0 => 0 | n => n, fun | n => n⟩
theorem Tryz.revF : Go.Proofs.SlLaysE0.n35 Tryz.prog Tryz.revF_ren := {
  mixed := by kernel_rfl
  f35 := ⟨Tryz.f49.name, by decide, Tryz.func49.trans (congrArg some (by kernel_rfl))⟩
  t0 := Tryz.underlying0
  a0 := Tryz.isAgg0
  z0 := Tryz.sizeOf0
  v0 := Tryz.zeroValue0
  t3 := Tryz.underlying3
  a3 := Tryz.isAgg3
  z3 := Tryz.sizeOf3
  v3 := Tryz.zeroValue3
  t4 := Tryz.underlying4
  a4 := Tryz.isAgg4
  z4 := Tryz.sizeOf4
  v4 := Tryz.zeroValue4
  t22 := Tryz.underlying22
  a22 := Tryz.isAgg22
  z22 := Tryz.sizeOf22
  v22 := Tryz.zeroValue22 }
end Go.Proofs
/- slices.Reverse at a list of cells with their texts. Conditions: as each theorem says. -/
namespace Go.Proofs.YtcekgefkimbfaaaGreatDoor.ps
open Go.RowKit Go.Sort
set_option maxHeartbeats 1000000 in
theorem reverse_any (v : Value) (l : List Fl) (base : Nat) (w : World) (hown : w.ownsRow base 36 3 v l.length (flF l)) (hbase : base ≤ w.heap.size) (hl : l.length ≤ 4398046511104) :
    Calls Tryz.prog 49 #[v] w fun e w' => e = .returned (.tuple #[]) ∧ w'.ownsRow base 36 3 v l.length (flF l.reverse) ∧ Below base w w' := by
  haveI : Inhabited Ft := ⟨⟨⟨0, 0, nul⟩, 0⟩⟩
  have hsh := FB.shape (own_base hown (Nat.zero_le _))
  rcases hown.2 with ⟨rfl, h0⟩ | ⟨g, cap, cur, rfl, hbg, hg, hcap, hm, hz, ht⟩
  · have hcon := AnyQ.slices_Reverse_empty Tryz.revF none 0 w
    change Calls Tryz.prog 49 _ _ _ at hcon
    refine hcon.mono ?_
    rintro e w' ⟨rfl, rfl⟩
    have e0 : l = [] := List.length_eq_zero_iff.1 h0
    subst e0
    exact ⟨rfl, hown, Below.refl _ _⟩
  · obtain ⟨p, c, e, hM⟩ := hsh
    injection e with e1 _ e3'
    subst e1 e3'
    have hlt := fm.lt_blk hg
    have hcell : ∀ (t : Nat) u, (flF l)[t]? = some u → w.cell? ⟨g, t, none⟩ = some u := by
      rcases hM with hM | ⟨g', o', e, -, h3⟩
      · intro t u hu; rw [hM] at hu; simp [flF] at hu
      · injection e with e; injection e with e1 e2; subst e1 e2
        intro t u hu
        have := h3 t u hu
        rwa [Nat.zero_add] at this
    have hH : HoldsK e3 3 w g 0 l.zipIdx.toArray := by
      intro j hj
      rw [size_flatK] at hj
      have hj' : j < l.length * 3 := by simpa using hj
      have hi : j / 3 < l.length := by omega
      refine ⟨?_, froz hg _⟩
      rw [get_flatK e3 3 l.zipIdx.toArray j hj, Nat.zero_add]
      refine hcell j _ ?_
      have hx : l[j / 3]? = some l[j / 3] := List.getElem?_eq_getElem hi
      have hj3 : j % 3 < 3 := Nat.mod_lt _ (by decide)
      have hv : (fl3 l[j / 3])[j % 3]? = some (fl3 l[j / 3])[j % 3]! := get_bang (show j % 3 < (fl3 l[j / 3]).length from hj3)
      have := flF_at hx hv
      rw [show j / 3 * 3 + j % 3 = j by omega] at this
      rw [this]
      have e5 : l.zipIdx.toArray[j / 3]! = (l[j / 3], j / 3) := at_get (by rw [List.getElem?_zipIdx, hx]; simp)
      rw [e5]
      rfl
    have hs0 : l.zipIdx.toArray.size = l.length := by simp
    have hcon := AnyQ.slices_Reverse Tryz.revF 3 Tryz.isAgg36 Tryz.sizeOf36 e3 (fun _ => rfl) (fun x v hv => flF_one [x.1] v (by simpa [flF, e3] using hv)) g 0 cap l.zipIdx.toArray w hH (by rw [hs0]; omega)
    change Calls Tryz.prog 49 _ _ _ at hcon
    rw [hs0] at hcon
    refine hcon.mono ?_
    rintro e w' ⟨rfl, n, rfl⟩
    have ew : putRowK e3 3 (Go.Sort.ahead w n) g 0 l.zipIdx.toArray.reverse = sortWorldK e3 3 w g 0 n l.zipIdx.reverse.toArray #[] := by
      unfold sortWorldK
      rw [grow_empty, List.reverse_toArray]
    rw [ew]
    have ho := own_sorted hown l.zipIdx.reverse (by simp) n #[]
    rw [List.map_reverse, zip_fst] at ho
    exact ⟨rfl, ho, below_sorted e3 3 w g 0 n l.zipIdx.reverse.toArray #[] hbg hbase⟩
end Go.Proofs.YtcekgefkimbfaaaGreatDoor.ps
/- slices.CompactFunc at a list of cells with their texts: of those of one cell that stand side by side the first is left. Conditions: as each theorem says. -/
namespace Go.Proofs.YtcekgefkimbfaaaGreatDoor.ps
open Go.RowKit Go.Sort
open adr (C)
/-- Are they of one cell? -/
def sameC (x y : Fl) : Bool := decide (x.c = y.c) && decide (x.r = y.r)
set_option maxHeartbeats 1600000 in
theorem eq53_any (x y : Fl) (w : World) : Calls Tryz.prog 53 #[FV x, FV y] w fun e w' => e = .returned (.bool (sameC x y)) ∧ Below w.heap.size w w' := by
  obtain ⟨xc, xr, xs⟩ := x
  obtain ⟨c, r, ys⟩ := y
  dsimp only [FV, sameC]
  obtain ⟨h1, h2⟩ := two_new' w (.cells #[.int .i64 xc, .int .i64 xr, .string xs] 36) (.cells #[.int .i64 c, .int .i64 r, .string ys] 36)
  obtain ⟨y0, y1, y4⟩ := cells3 h1
  obtain ⟨y2, y3, y5⟩ := cells3 h2
  have HB : Hid (Below w.heap.size w ((w.alloc (.cells #[.int .i64 xc, .int .i64 xr, .string xs] 36)).alloc (.cells #[.int .i64 c, .int .i64 r, .string ys] 36))) := ((Below.refl _ _).alloc (Nat.le_refl _) _).alloc (by simp) _
  have e34 := fun W => eql30 xc xr c r W
  have hg34 : Tryz.prog.eqGuardType Tryz.prog.depth 34 = false := by kernel_rfl
  clear h1 h2
  go_enter Tryz.func53, Tryz.ntmps53
  go_wp2_with fail
  go_ret
  exact ⟨rfl, HB.out⟩
/-- Is it the first of its cell? -/
def keepB (l : List Fl) (j : Nat) : Bool := match j with
  | 0 => true
  | i + 1 => match l[i]?, l[i + 1]? with
    | some x, some y => !sameC y x
    | _, _ => false
/-- What is left of the first ones. -/
def cmN (l : List Fl) : Nat → List Fl
  | 0 => []
  | j + 1 => cmN l j ++ (if keepB l j = true then (l[j]?).toList else [])
theorem cmN_len (l : List Fl) (j : Nat) : (cmN l j).length ≤ j := by
  induction j with
  | zero => simp [cmN]
  | succ j ih =>
    unfold cmN
    rw [List.length_append]
    split
    · cases l[j]? <;> simp <;> omega
    · simp; omega
theorem cmN_yes {l : List Fl} {j : Nat} {x : Fl} (h : keepB l j = true) (hx : l[j]? = some x) : cmN l (j + 1) = cmN l j ++ [x] := by
  show _ ++ _ = _
  rw [if_pos h, hx]
  rfl
theorem cmN_no {l : List Fl} {j : Nat} (h : keepB l j = false) : cmN l (j + 1) = cmN l j := by
  show _ ++ _ = _
  rw [if_neg (by simp [h]), List.append_nil]
theorem cmN_all {l : List Fl} {j : Nat} (hj : j ≤ l.length) (h : ∀ i, i < j → keepB l i = true) : cmN l j = l.take j := by
  induction j with
  | zero => rfl
  | succ j ih =>
    rw [cmN_yes (h j (by omega)) (List.getElem?_eq_getElem (by omega)), ih (by omega) (fun i hi => h i (by omega)), List.take_add_one, List.getElem?_eq_getElem (by omega)]
    rfl
theorem keep_at {l : List Fl} {i : Nat} {x y : Fl} (hx : l[i]? = some x) (hy : l[i + 1]? = some y) : keepB l (i + 1) = !sameC y x := by
  unfold keepB
  simp only [hx, hy]
theorem flF_inv2 {xs : List Fl} {t : Nat} {u : Value} (h : (flF xs)[t]? = some u) : ∃ i j x, t = i * 3 + j ∧ j < 3 ∧ xs[i]? = some x ∧ (fl3 x)[j]? = some u := by
  have hl := (List.getElem?_eq_some_iff.1 h).1
  rw [flF_len] at hl
  have hi : t / 3 < xs.length := by omega
  have hx : xs[t / 3]? = some (xs[t / 3]) := List.getElem?_eq_getElem hi
  have hj : t % 3 < 3 := Nat.mod_lt _ (by decide)
  have e : t = t / 3 * 3 + t % 3 := by omega
  obtain ⟨v, hv⟩ : ∃ v, (fl3 (xs[t / 3]))[t % 3]? = some v := ⟨_, List.getElem?_eq_getElem (show t % 3 < (fl3 (xs[t / 3])).length from hj)⟩
  have := flF_at hx hv
  rw [← e, h] at this
  injection this with this
  subst this
  exact ⟨t / 3, t % 3, _, e, hj, hx, hv⟩
/-- A list at the head of a block of its own. -/
structure OB (base : Nat) (w : World) (g cap : Nat) (M : List Fl) : Prop where
  cells : ∀ (t : Nat) u, (flF M)[t]? = some u → w.cell? ⟨g, t, none⟩ = some u
  blk : ∃ cur : Array Value, w.heap[g]? = some (.cells cur 36 (0, 0)) ∧ cur.size = cap * 3
  le : M.length ≤ cap
  max : cap ≤ maxLen
  ge : base ≤ g
theorem OB.of {base : Nat} {w : World} {g n cap : Nat} {M : List Fl} (h : w.ownsRow base 36 3 (.slice (some ⟨g, 0, none⟩) n cap) n (flF M)) (hn : M.length = n) : OB base w g cap M := by
  rcases h.2 with ⟨e, _⟩ | ⟨g', cap', cur, e, hb, hg, hc, hm, hz, ht⟩
  · cases e
  · injection e with e1 _ e3'
    injection e1 with e1
    injection e1 with e1
    subst e1 e3'
    refine ⟨fun t u hu => ?_, ⟨cur, hg, hz⟩, by omega, hm, hb⟩
    rw [← ht, List.getElem?_take] at hu
    split at hu
    · simp [World.cell?, hg]; simpa using hu
    · cases hu
theorem OB.own {base : Nat} {w : World} {g cap : Nat} {M : List Fl} (h : OB base w g cap M) : w.ownsRow base 36 3 (.slice (some ⟨g, 0, none⟩) M.length cap) M.length (flF M) := by
  obtain ⟨cur, hg, hz⟩ := h.blk
  refine ⟨flF_len M, .inr ⟨g, cap, cur, rfl, h.ge, hg, h.le, h.max, hz, ?_⟩⟩
  apply List.ext_getElem?
  intro t
  rw [List.getElem?_take]
  by_cases ht : t < M.length * 3
  · rw [if_pos ht]
    obtain ⟨u, hu⟩ : ∃ u, (flF M)[t]? = some u := ⟨_, List.getElem?_eq_getElem (by rw [flF_len]; exact ht)⟩
    have := h.cells t u hu
    rw [fm.cell_blk hg] at this
    rw [hu, Array.getElem?_toList]
    exact this
  · rw [if_neg ht, List.getElem?_eq_none (by rw [flF_len]; omega)]
theorem OB.next {base : Nat} {w w' : World} {g cap : Nat} {M : List Fl} (h : OB base w g cap M) (hb : Below w.heap.size w w') : OB base w' g cap M := by
  obtain ⟨cur, hg, hz⟩ := h.blk
  exact ⟨fun t u hu => by rw [hb.cell (p := ⟨g, _, none⟩) (fm.lt_blk hg)]; exact h.cells t u hu, ⟨cur, (hb.block g (fm.lt_blk hg)).trans hg, hz⟩, h.le, h.max, h.ge⟩
theorem OB.fm {base : Nat} {w : World} {g cap : Nat} {M : List Fl} (h : OB base w g cap M) : FM w (some ⟨g, 0, none⟩) M := by
  obtain ⟨cur, hg, hz⟩ := h.blk
  exact .inr ⟨g, 0, rfl, fm.lt_blk hg, fun t u hu => by rw [Nat.zero_add]; exact h.cells t u hu⟩
theorem OB.cut {base : Nat} {w : World} {g cap : Nat} {M : List Fl} (h : OB base w g cap M) (i : Nat) : OB base w g cap (M.take i) := by
  refine ⟨fun t u hu => h.cells t u ?_, h.blk, by rw [List.length_take]; have := h.le; omega, h.max, h.ge⟩
  have e : flF M = flF (M.take i) ++ flF (M.drop i) := by rw [← flF_app, List.take_append_drop]
  rw [e, List.getElem?_append_left (List.getElem?_eq_some_iff.1 hu).1]
  exact hu
theorem OB.set {base : Nat} {w : World} {g cap : Nat} {M : List Fl} (h : OB base w g cap M) {i : Nat} (hi : i < M.length) (y : Fl) : OB base (((w.setCell ⟨g, i * 3, none⟩ (.int .i64 y.c)).setCell ⟨g, i * 3 + 1, none⟩ (.int .i64 y.r)).setCell ⟨g, i * 3 + 2, none⟩ (.string y.s)) g cap (M.set i y) := by
  obtain ⟨cur, hg, hz⟩ := h.blk
  have b1 := fm.blk_set (o := i * 3) (u := .int .i64 y.c) hg
  have b2 := fm.blk_set (o := i * 3 + 1) (u := .int .i64 y.r) b1
  have b3 := fm.blk_set (o := i * 3 + 2) (u := .string y.s) b2
  refine ⟨fun t u hu => ?_, ⟨_, b3, by simp [hz]⟩, by rw [List.length_set]; exact h.le, h.max, h.ge⟩
  have hic : i * 3 + 2 < cur.size := by rw [hz]; have := h.le; omega
  rw [fm.cell_blk b3]
  obtain ⟨q, j, x, rfl, hj, hx, hu'⟩ := flF_inv2 hu
  by_cases e : q = i
  · subst e
    have ex : x = y := by
      rw [List.getElem?_set_self hi] at hx
      injection hx with hx
      exact hx.symm
    subst ex
    match j, hj, hu' with
    | 0, _, hu' => simp at hu'; subst hu'; simp [Array.getElem?_setIfInBounds]; omega
    | 1, _, hu' => simp at hu'; subst hu'; simp [Array.getElem?_setIfInBounds]; omega
    | 2, _, hu' => simp at hu'; subst hu'; simp [Array.getElem?_setIfInBounds]; omega
  · rw [List.getElem?_set_ne (fun e' => e e'.symm)] at hx
    have h1 := h.cells _ u (flF_at hx hu')
    rw [fm.cell_blk hg] at h1
    rw [Array.getElem?_setIfInBounds_ne (by omega), Array.getElem?_setIfInBounds_ne (by omega), Array.getElem?_setIfInBounds_ne (by omega)]
    exact h1
end Go.Proofs.YtcekgefkimbfaaaGreatDoor.ps
/- slices.CompactFunc, walked. Conditions: as each theorem says. -/
namespace Go.Proofs.YtcekgefkimbfaaaGreatDoor.ps
open Go.RowKit Go.Sort
open adr (C)
def zs3 (n : Nat) : List Value := (Builtin.zeroCells #[.int .i64 0, .int .i64 0, .string nul] n).toList
theorem zs3_len (n : Nat) : (zs3 n).length = n * 3 := by unfold zs3; simp [size_zeroCells]
theorem zs3_one (n : Nat) : ∀ v ∈ zs3 n, v.oneCell' = true := by
  intro v hv
  unfold zs3 Builtin.zeroCells at hv
  simp at hv
  obtain ⟨i, -, rfl⟩ := hv
  have h3 : i % 3 < 3 := Nat.mod_lt _ (by decide)
  generalize i % 3 = j at h3 ⊢
  match j, h3 with
  | 0, _ => rfl
  | 1, _ => rfl
  | 2, _ => rfl
theorem run_clear3 (w : World) (ty : TypeId) (b o n c : Nat) (hn : 0 < n) (hc : ∀ j, j < n * 3 → (w.cell? ⟨b, o + j, none⟩).isSome = true) (hf : ∀ j, j < n * 3 → w.frozen? ⟨b, o + j, none⟩ = false) :
    (Builtin.clear_ #[22] ty #[.slice (some ⟨b, o, none⟩) n c]).run Tryz.prog w = .ok (.tuple #[]) (w.setCells b o (zs3 n)) := by
  have hst := run_storeCells_cells (P := Tryz.prog) b o (zs3 n) 0 w (by rw [zs3_len]; simpa using hc) (by rw [zs3_len]; simpa using hf) (zs3_one n)
  simp only [Nat.add_zero] at hst
  obtain ⟨m, rfl⟩ : ∃ m, n = m + 1 := ⟨n - 1, by omega⟩
  have hz : ∀ w, (zeroValue 36).run Tryz.prog w = .ok (.agg #[.int .i64 0, .int .i64 0, .string nul]) w := Tryz.zeroValue36
  have e : (Builtin.zeroCells (Value.agg #[.int .i64 0, .int .i64 0, .string nul]).cells (m + 1)).toList = zs3 (m + 1) := rfl
  simp [Builtin.clear_, run_underlying Tryz.underlying22, hz, e, hst]
theorem blk_setCells {g : Nat} {t : TypeId} {fr : Nat × Nat} : ∀ (Z : List Value) (o : Nat) (w : World) (cur : Array Value), w.heap[g]? = some (.cells cur t fr) → ∃ cur' : Array Value, (w.setCells g o Z).heap[g]? = some (.cells cur' t fr) ∧ cur'.size = cur.size
  | [], _, _, cur, h => ⟨cur, h, rfl⟩
  | v :: r, o, w, cur, h => by
    obtain ⟨cur', h1, h2⟩ := blk_setCells r (o + 1) (w.setCell ⟨g, o, none⟩ v) _ (fm.blk_set h)
    exact ⟨cur', h1, by rw [h2]; simp⟩
theorem below_setCells {base g : Nat} (hg : base ≤ g) : ∀ (Z : List Value) (o : Nat) (w0 w : World), Below base w0 w → Below base w0 (w.setCells g o Z)
  | [], _, _, _, h => h
  | v :: r, o, w0, _, h => below_setCells hg r (o + 1) w0 _ (h.setCell hg v)
theorem OB.clear {base : Nat} {w : World} {g cap : Nat} {M : List Fl} (h : OB base w g cap M) {i : Nat} (hi : i ≤ M.length) (Z : List Value) : OB base (w.setCells g (i * 3) Z) g cap (M.take i) := by
  obtain ⟨cur, hg, hz⟩ := h.blk
  obtain ⟨cur', hg', hz'⟩ := blk_setCells Z (i * 3) w cur hg
  have hcut := h.cut i
  refine ⟨fun t u hu => ?_, ⟨cur', hg', by rw [hz', hz]⟩, hcut.le, h.max, h.ge⟩
  have ht := (List.getElem?_eq_some_iff.1 hu).1
  rw [flF_len, List.length_take] at ht
  rw [World.cell?_setCells_out g _ _ _ _ (fun _ _ => .inl (by show t < i * 3; omega))]
  exact hcut.cells t u hu
/-- Two elements, opened. -/
abbrev CG (w1 : World) (g ox oy : Nat) (x y : Fl) (wx : World) : Prop := wx.cell? ⟨g, ox, none⟩ = some (.int .i64 x.c) ∧ wx.cell? ⟨g, ox + 1, none⟩ = some (.int .i64 x.r) ∧ wx.cell? ⟨g, ox + 2, none⟩ = some (.string x.s) ∧ wx.cell? ⟨g, oy, none⟩ = some (.int .i64 y.c) ∧ wx.cell? ⟨g, oy + 1, none⟩ = some (.int .i64 y.r) ∧ wx.cell? ⟨g, oy + 2, none⟩ = some (.string y.s) ∧ Below w1.heap.size w1 wx
theorem cgb {w1 : World} {g ox oy : Nat} {x y : Fl} {wx : World} (h : CG w1 g ox oy x y wx) : Below w1.heap.size w1 wx := h.2.2.2.2.2.2
/-- What CompactFunc answers. -/
def CmO (base : Nat) (w : World) (v : Value) (l : List Fl) (w' : World) : Prop := w'.ownsRow base 36 3 v (cmN l l.length).length (flF (cmN l l.length)) ∧ Below base w w'
set_option maxRecDepth 100000 in
set_option maxHeartbeats 4000000 in
theorem compact_any (v : Value) (l : List Fl) (base : Nat) (w : World) (hown : w.ownsRow base 36 3 v l.length (flF l)) (hbase : base ≤ w.heap.size) (hl : l.length ≤ 4398046511104) :
    Calls Tryz.prog 52 #[v, .func (.func 53) #[] #[]] w fun e w' => ∃ u, e = .returned u ∧ CmO base w u l w' := by
  by_cases h2 : l.length < 2
  · have e : cmN l l.length = l := by
      rw [cmN_all (Nat.le_refl _) (fun i hi => by rw [show i = 0 by omega]; rfl), List.take_length]
    have HC : Hid (CmO base w v l w) := ⟨by rw [e]; exact hown, Below.refl _ _⟩
    obtain ⟨p, c, rfl, -⟩ := FB.shape (own_base hown (Nat.zero_le _))
    have hi : (l.length : Int) < 2 := by omega
    generalize l.length = n at *
    clear hown e
    go_enter Tryz.func52, Tryz.ntmps52
    go_wp2_with fail
    go_ret
    exact ⟨_, rfl, HC.out⟩
  · obtain ⟨g, cap, rfl⟩ : ∃ g cap, v = .slice (some ⟨g, 0, none⟩) l.length cap := by
      rcases hown.2 with ⟨-, h0⟩ | ⟨g, cap, cur, rfl, -⟩
      · omega
      · exact ⟨g, cap, rfl⟩
    have O0 : Hid (OB base w g cap l) := OB.of hown rfl
    obtain ⟨n, hn⟩ : ∃ n, l.length = n := ⟨_, rfl⟩
    have HN : Hid (l.length = n) := hn
    have HE : Hid (∀ x y wx, Calls Tryz.prog 53 #[FV x, FV y] wx fun e w' => e = .returned (.bool (sameC x y)) ∧ Below wx.heap.size wx w') := eq53_any
    have hn2 : ¬ (n : Int) < 2 := by omega
    have hn3 : (n : Int) ≤ 4398046511104 := by omega
    have hn1 : 1 ≤ n := by omega
    have hnc : n ≤ cap := by have := O0.out.le; omega
    rw [hn]
    clear hown hl hn h2
    go_enter Tryz.func52, Tryz.ntmps52
    go_wp2_with fail
    go_loopw [5] (fun s5 wr => ∃ k : Nat, s5 = .int .i64 k ∧ 1 ≤ k ∧ k ≤ n ∧ Hid ((∀ i, i < k → keepB l i = true) ∧ OB base wr g cap l ∧ Below base w wr)) (fun s5 _ => n - (intOf s5).toNat)
    case atStart => exact ⟨1, rfl, Nat.le_refl _, hn1, ⟨fun i hi => by rw [show i = 0 by omega]; rfl, O0.out, Below.refl _ _⟩⟩
    case round =>
      clear O0
      generalize wr = wo at *
      obtain ⟨k, rfl, hk1, hkn, HK⟩ := hrel
      by_cases hin : k < n
      · obtain ⟨q, rfl⟩ : ∃ q, k = q + 1 := ⟨k - 1, by omega⟩
        obtain ⟨x, hx⟩ : ∃ x, l[q + 1]? = some x := ⟨_, List.getElem?_eq_getElem (by rw [HN.out]; exact hin)⟩
        obtain ⟨y, hy⟩ : ∃ y, l[q]? = some y := ⟨_, List.getElem?_eq_getElem (by rw [HN.out]; omega)⟩
        have HXY : Hid (keepB l (q + 1) = !sameC x y) := keep_at hy hx
        obtain ⟨x0, x1, x2⟩ := FM.cells HK.out.2.1.fm hx
        obtain ⟨y0, y1, y2⟩ := FM.cells HK.out.2.1.fm hy
        rw [Nat.zero_add] at x0 x1 x2 y0 y1 y2
        have hgl : g < wo.heap.size := fm.lt_blk HK.out.2.1.blk.choose_spec.1
        have SOF : Hid (∀ wx, Below wo.heap.size wo wx → CG wo g ((q + 1) * 3) (q * 3) x y wx) := fun wx hb => ⟨(hb.cell (p := ⟨g, _, none⟩) hgl).trans x0, (hb.cell (p := ⟨g, _, none⟩) hgl).trans x1, (hb.cell (p := ⟨g, _, none⟩) hgl).trans x2, (hb.cell (p := ⟨g, _, none⟩) hgl).trans y0, (hb.cell (p := ⟨g, _, none⟩) hgl).trans y1, (hb.cell (p := ⟨g, _, none⟩) hgl).trans y2, hb⟩
        have h0d : CG wo g ((q + 1) * 3) (q * 3) x y wo.drew := SOF.out _ (Below.refl _ _).drew
        have e1 : ((q + 1 : Nat) : Int) = (q : Int) + 1 := rfl
        have hq0 : (0 : Int) ≤ (q : Int) := by omega
        have hqN : (q : Int) < (n : Int) := by omega
        have hq1 : (q : Int) + 1 < (n : Int) := by omega
        have hq2 : (0 : Int) ≤ (q : Int) + 1 := by omega
        have hqt : ((q : Int) + 1).toNat = q + 1 := by omega
        have hw1 : IntKind.i64.wrap ((q : Int) + 1 - 1) = (q : Int) := by rw [Int.add_sub_cancel, IntKind.wrap_i64]; omega
        have hw2 : IntKind.i64.wrap (q : Int) = (q : Int) := by rw [IntKind.wrap_i64]; omega
        have hw3 : (q : Int) + 1 - 1 = (q : Int) := by omega
        rw [e1]
        clear hx hy e1
        go_upto_region 6 with fail
        go_cut [28] (fun s wx => s = .bool (sameC x y) ∧ Below wo.heap.size wo wx)
        case first =>
          go_region_held3 (fun wx => CG wo g ((q + 1) * 3) (q * 3) x y wx) (first | exact h0d | exact SOF.out _ (bnext (cgb (by assumption)) (by assumption) (cgb (by assumption)).size)) (first | (go_at_call 53; refine (HE.out x y _).mono ?_; rintro e w2 ⟨rfl, hb2⟩; have hw2' := bnext (cgb (by assumption)) hb2 (cgb (by assumption)).size))
          all_goals
            go_wp2_with fail
            go_meet
            case rel => exact ⟨rfl, hw2'⟩
        case rest =>
        obtain ⟨rfl, hb2⟩ := hcut
        have HK2 : Hid ((∀ i, i < q + 1 → keepB l i = true) ∧ OB base wc g cap l ∧ Below base w wc) := ⟨HK.out.1, HK.out.2.1.next hb2, HK.out.2.2.trans (hb2.mono (by have := HK.out.2.2.size; omega))⟩
        clear hb2 x0 x1 x2 y0 y1 y2 h0d SOF HK hgl
        cases hsm : sameC x y with
        | false =>
          have HS : Hid (keepB l (q + 1) = true) := by show _ = _; rw [HXY.out, hsm]; rfl
          clear hsm
          go_wp2_with fail
          refine ⟨⟨q + 1 + 1, rfl, by omega, by omega, ⟨fun i hi => ?_, HK2.out.2⟩⟩, by simp [intOf]; omega⟩
          by_cases e : i = q + 1
          · subst e; exact HS.out
          · exact HK2.out.1 i (by omega)
        | true =>
          have HS : Hid (keepB l (q + 1) = false) := by show _ = _; rw [HXY.out, hsm]; rfl
          clear hsm
          obtain ⟨k0, hk0⟩ : ∃ k0, q + 1 = k0 := ⟨_, rfl⟩
          obtain ⟨m2, hm2⟩ : ∃ m2, n - k0 = m2 := ⟨_, rfl⟩
          have hki : (q : Int) + 1 = (k0 : Int) := by omega
          have hki0 : (0 : Int) ≤ (k0 : Int) := by omega
          have hkin : (k0 : Int) ≤ (n : Int) := by omega
          have hkic : (k0 : Int) ≤ (cap : Int) := by omega
          have hkcap : ¬ cap = k0 := by omega
          have HK3 : Hid (k0 + m2 = n ∧ 1 ≤ m2 ∧ keepB l k0 = false ∧ (∀ i, i < k0 → keepB l i = true) ∧ OB base wc g cap l ∧ Below base w wc ∧ 1 ≤ k0) := by
            have h1 := HK2.out
            have h2 := HS.out
            rw [hk0] at h1 h2
            exact ⟨by omega, by omega, h2, h1.1, h1.2.1, h1.2.2, by omega⟩
          have hm2n : n - k0 = m2 := hm2
          have hm2' : (n : Int) - (k0 : Int) = (m2 : Int) := by have := HK3.out.1; omega
          have hm2b : m2 ≤ n := by omega
          clear HK2 HS hk0 HXY hw1 hw2 hw3 hqt hq0 hqN hq1 hq2
          rw [hki]
          clear hki
          go_wp2_with fail
          go_loopw [5, 7] (fun s5 s7 wr => ∃ (i j : Nat) (M : List Fl), s5 = .int .i64 i ∧ s7 = .int .i64 j ∧ 1 ≤ j ∧ j ≤ m2 ∧ i < n ∧ Hid (M.length = n ∧ M.take i = cmN l (k0 + j) ∧ i = (cmN l (k0 + j)).length ∧ i + 1 ≤ k0 + j ∧ (∀ t, k0 + j ≤ t + 1 → M[t]? = l[t]?) ∧ OB base wr g cap M ∧ Below base w wr)) (fun _ s7 _ => m2 - (intOf s7).toNat)
          case atStart =>
            obtain ⟨a1, a2, a3, a4, a5, a6, a7⟩ := HK3.out
            have ek : cmN l (k0 + 1) = l.take k0 := by rw [cmN_no a3, cmN_all (by rw [HN.out]; omega) a4]
            exact ⟨k0, 1, l, rfl, rfl, Nat.le_refl _, a2, by omega, ⟨HN.out, ek.symm, by rw [ek, List.length_take, HN.out]; omega, Nat.le_refl _, fun _ _ => rfl, a5, a6⟩⟩
          case round =>
            obtain ⟨i, j, M, rfl, rfl, hj1, hjm, hin2, HL⟩ := hrel
            have hkm := HK3.out.1
            by_cases hjl : j < m2
            · obtain ⟨p, rfl⟩ : ∃ p, j = p + 1 := ⟨j - 1, by omega⟩
              obtain ⟨c1, c2, c3, c4, c5, c6, c7⟩ := HL.out
              obtain ⟨x, hx⟩ : ∃ x, l[k0 + p + 1]? = some x := ⟨_, List.getElem?_eq_getElem (by rw [HN.out]; omega)⟩
              obtain ⟨y, hy⟩ : ∃ y, l[k0 + p]? = some y := ⟨_, List.getElem?_eq_getElem (by rw [HN.out]; omega)⟩
              have HXY : Hid (keepB l (k0 + p + 1) = !sameC x y ∧ l[k0 + p + 1]? = some x) := ⟨keep_at hy hx, hx⟩
              obtain ⟨x0, x1, x2⟩ := FM.cells c6.fm ((c5 (k0 + p + 1) (by omega)).trans hx)
              obtain ⟨y0, y1, y2⟩ := FM.cells c6.fm ((c5 (k0 + p) (by omega)).trans hy)
              rw [Nat.zero_add, show (k0 + p + 1) * 3 = k0 * 3 + (p + 1) * 3 by omega] at x0 x1 x2
              rw [Nat.zero_add, show (k0 + p) * 3 = k0 * 3 + p * 3 by omega] at y0 y1 y2
              have hgl : g < wr.heap.size := fm.lt_blk c6.blk.choose_spec.1
              have SOF : Hid (∀ wx, Below wr.heap.size wr wx → CG wr g (k0 * 3 + (p + 1) * 3) (k0 * 3 + p * 3) x y wx) := fun wx hb => ⟨(hb.cell (p := ⟨g, _, none⟩) hgl).trans x0, (hb.cell (p := ⟨g, _, none⟩) hgl).trans x1, (hb.cell (p := ⟨g, _, none⟩) hgl).trans x2, (hb.cell (p := ⟨g, _, none⟩) hgl).trans y0, (hb.cell (p := ⟨g, _, none⟩) hgl).trans y1, (hb.cell (p := ⟨g, _, none⟩) hgl).trans y2, hb⟩
              have h0d : CG wr g (k0 * 3 + (p + 1) * 3) (k0 * 3 + p * 3) x y wr.drew := SOF.out _ (Below.refl _ _).drew
              have e1 : ((p + 1 : Nat) : Int) = (p : Int) + 1 := rfl
              have hq0 : (0 : Int) ≤ (p : Int) := by omega
              have hqN : (p : Int) < (m2 : Int) := by omega
              have hq1 : (p : Int) + 1 < (m2 : Int) := by omega
              have hq2 : (0 : Int) ≤ (p : Int) + 1 := by omega
              have hqt : ((p : Int) + 1).toNat = p + 1 := by omega
              have hw1 : IntKind.i64.wrap ((p : Int) + 1 - 1) = (p : Int) := by rw [Int.add_sub_cancel, IntKind.wrap_i64]; omega
              have hw2 : IntKind.i64.wrap (p : Int) = (p : Int) := by rw [IntKind.wrap_i64]; omega
              have hw3 : (p : Int) + 1 - 1 = (p : Int) := by omega
              rw [e1]
              clear hx hy e1 c1 c2 c3 c4 c5 c6 c7 hkm
              go_upto_region 11 with fail
              go_cut [49] (fun s wx => s = .bool (!sameC x y) ∧ Below wr.heap.size wr wx)
              case first =>
                go_region_held3 (fun wx => CG wr g (k0 * 3 + (p + 1) * 3) (k0 * 3 + p * 3) x y wx) (first | exact h0d | exact SOF.out _ (bnext (cgb (by assumption)) (by assumption) (cgb (by assumption)).size)) (first | (go_at_call 53; refine (HE.out x y _).mono ?_; rintro e w2 ⟨rfl, hb2⟩; have hw2' := bnext (cgb (by assumption)) hb2 (cgb (by assumption)).size))
                all_goals
                  go_wp2_with fail
                  go_meet
                  case rel => refine ⟨?_, hw2'⟩; cases sameC x y <;> first | rfl | (trace_state; simp)
              case rest =>
              obtain ⟨rfl, hb2⟩ := hcut
              have HM : Hid (M.length = n ∧ M.take i = cmN l (k0 + p + 1) ∧ i = (cmN l (k0 + p + 1)).length ∧ i + 1 ≤ k0 + p + 1 ∧ (∀ t, k0 + p + 1 ≤ t + 1 → M[t]? = l[t]?) ∧ OB base wc g cap M ∧ Below base w wc) := by
                obtain ⟨c1, c2, c3, c4, c5, c6, c7⟩ := HL.out
                exact ⟨c1, c2, c3, c4, c5, c6.next hb2, c7.trans (hb2.mono (by have := c7.size; omega))⟩
              clear hb2 x0 x1 x2 y0 y1 y2 h0d SOF HL hgl
              cases hsm : sameC x y with
              | true =>
                have HC : Hid (cmN l (k0 + p + 1 + 1) = cmN l (k0 + p + 1)) := cmN_no (by rw [HXY.out.1, hsm]; rfl)
                clear hsm
                rw [show (!true) = false from rfl]
                go_wp2_with fail
                refine ⟨⟨i, p + 1 + 1, M, rfl, rfl, by omega, by omega, hin2, ?_⟩, by simp [intOf]; omega⟩
                obtain ⟨c1, c2, c3, c4, c5, c6, c7⟩ := HM.out
                rw [show k0 + (p + 1 + 1) = k0 + p + 1 + 1 by omega]
                exact ⟨c1, by rw [HC.out]; exact c2, by rw [HC.out]; exact c3, by omega, fun t ht => c5 t (by omega), c6, c7⟩
              | false =>
                have HC : Hid (cmN l (k0 + p + 1 + 1) = cmN l (k0 + p + 1) ++ [x]) := cmN_yes (by rw [HXY.out.1, hsm]; rfl) HXY.out.2
                clear hsm
                rw [show (!false) = true from rfl]
                have hii : (i : Int) < (n : Int) := by omega
                have hii0 : (0 : Int) ≤ (i : Int) := by omega
                obtain ⟨x0, x1, x2⟩ := FM.cells HM.out.2.2.2.2.2.1.fm ((HM.out.2.2.2.2.1 (k0 + p + 1) (by omega)).trans HXY.out.2)
                rw [Nat.zero_add, show (k0 + p + 1) * 3 = k0 * 3 + (p + 1) * 3 by omega] at x0 x1 x2
                obtain ⟨o, ho⟩ : ∃ o, M[i]? = some o := ⟨_, List.getElem?_eq_getElem (by rw [HM.out.1]; exact hin2)⟩
                obtain ⟨o0, o1, o2⟩ := FM.cells HM.out.2.2.2.2.2.1.fm ho
                rw [Nat.zero_add] at o0 o1 o2
                have hblk := HM.out.2.2.2.2.2.1.blk.choose_spec.1
                have f0 := froz hblk (i * 3)
                have f1 := froz hblk (i * 3 + 1)
                have f2 := froz hblk (i * 3 + 2)
                clear hblk ho
                go_wp2_with fail
                refine ⟨⟨i + 1, p + 1 + 1, M.set i x, rfl, rfl, by omega, by omega, ?_, ?_⟩, by simp [intOf]; omega⟩
                · have h4 := HM.out.2.2.2.1; have := HK3.out.1; omega
                · obtain ⟨c1, c2, c3, c4, c5, c6, c7⟩ := HM.out
                  rw [show k0 + (p + 1 + 1) = k0 + p + 1 + 1 by omega]
                  refine ⟨by rw [List.length_set]; exact c1, ?_, ?_, by omega, fun t ht => ?_, c6.set (by omega) x, ((c7.setCell c6.ge _).setCell c6.ge _).setCell c6.ge _⟩
                  · rw [HC.out, ← c2, List.take_add_one, List.getElem?_set_self (by omega)]
                    rw [List.take_set_of_le (Nat.le_refl _)]
                    rfl
                  · rw [HC.out, List.length_append, ← c3]; rfl
                  · rw [List.getElem?_set_ne (by omega)]; exact c5 t (by omega)
            · have hjl' : ¬ (j : Int) < (m2 : Int) := by omega
              have e : j = m2 := by omega
              subst e
              have hiin : (i : Int) ≤ (n : Int) := by omega
              have hii0 : (0 : Int) ≤ (i : Int) := by omega
              have hiic : (i : Int) ≤ (cap : Int) := by omega
              have hicap : ¬ cap = i := by omega
              have HCl : Hid ((Builtin.clear_ #[22] 0 #[.slice (some ⟨g, i * 3, none⟩) (n - i) (cap - i)]).run Tryz.prog wr = .ok (.tuple #[]) (wr.setCells g (i * 3) (zs3 (n - i)))) := by
                obtain ⟨c1, c2, c3, c4, c5, c6, c7⟩ := HL.out
                obtain ⟨cur, hg, hz⟩ := c6.blk
                refine run_clear3 wr 0 g (i * 3) (n - i) (cap - i) (by omega) (fun t ht => ?_) (fun t ht => froz hg _)
                have hc : (flF M)[i * 3 + t]? = some ((flF M)[i * 3 + t]'(by rw [flF_len, c1]; omega)) := List.getElem?_eq_getElem _
                have := c6.cells _ _ hc
                rw [this]; rfl
              have HF : Hid (CmO base w (.slice (some ⟨g, 0, none⟩) i cap) l (wr.setCells g (i * 3) (zs3 (n - i)))) := by
                obtain ⟨c1, c2, c3, c4, c5, c6, c7⟩ := HL.out
                have hkm := HK3.out.1
                have hO := (c6.clear (i := i) (by omega) (zs3 (n - i))).own
                rw [hkm] at c2 c3
                rw [c2, ← c3] at hO
                refine ⟨?_, below_setCells c6.ge _ _ _ _ c7⟩
                rw [HN.out, ← c3]
                exact hO
              have hcl := HCl.out
              generalize hwz : wr.setCells g (i * 3) (zs3 (n - i)) = wz at *
              clear HL HCl hwz
              go_wp2_with fail
              go_ret
              exact ⟨_, rfl, HF.out⟩
      · have hin' : ¬ (k : Int) < (n : Int) := by omega
        have e : k = n := by omega
        subst e
        have HC : Hid (CmO base w (.slice (some ⟨g, 0, none⟩) k cap) l wo) := by
          have e : cmN l l.length = l := by rw [cmN_all (Nat.le_refl _) (fun i hi => HK.out.1 i (by have := HN.out; omega)), List.take_length]
          exact ⟨by rw [e]; have := HK.out.2.1.own; rwa [HN.out] at this ⊢, HK.out.2.2⟩
        go_wp2_with fail
        go_ret
        exact ⟨_, rfl, HC.out⟩
end Go.Proofs.YtcekgefkimbfaaaGreatDoor.ps
/- lastOf: of each cell the last text, once. Conditions: as each theorem says. -/
namespace Go.Proofs.YtcekgefkimbfaaaGreatDoor.ps
open Go.RowKit Go.Sort
open adr (C)
/-- Each cell of a list once, with its last text, as cells stand. -/
def LastO (l o : List Fl) : Prop := Srt o ∧ ∀ f, f ∈ o ↔ l.reverse.find? (fun x => at' x f.c f.r) = some f
theorem cmN_in {M : List Fl} {n : Nat} {f : Fl} : f ∈ cmN M n ↔ ∃ j, j < n ∧ keepB M j = true ∧ M[j]? = some f := by
  induction n with
  | zero => simp [cmN]
  | succ n ih =>
    unfold cmN
    rw [List.mem_append, ih]
    constructor
    · rintro (⟨j, h1, h2⟩ | h)
      · exact ⟨j, by omega, h2⟩
      · split at h
        · exact ⟨n, by omega, by assumption, by simpa using h⟩
        · simp at h
    · rintro ⟨j, h1, h2, h3⟩
      by_cases e : j = n
      · subst e; right; rw [if_pos h2]; simpa using h3
      · exact .inl ⟨j, by omega, h2, h3⟩
theorem same_iff {x y : Fl} : sameC x y = true ↔ x.c = y.c ∧ x.r = y.r := by unfold sameC; simp
theorem same_no {x y : Fl} : sameC x y = false ↔ ¬ (x.c = y.c ∧ x.r = y.r) := by rw [← same_iff]; simp
theorem pw_at {Z : List Ft} (h : Z.Pairwise Tt) {i j : Nat} {a b : Ft} (hi : Z[i]? = some a) (hj : Z[j]? = some b) (hij : i < j) : Tt a b := by
  obtain ⟨h1, rfl⟩ := List.getElem?_eq_some_iff.1 hi
  obtain ⟨h2, rfl⟩ := List.getElem?_eq_some_iff.1 hj
  exact List.pairwise_iff_getElem.1 h i j h1 h2 hij
theorem Tt_iff {a b : Ft} : Tt a b ↔ (a.1.r < b.1.r ∨ (a.1.r = b.1.r ∧ a.1.c < b.1.c)) ∨ (a.1.c = b.1.c ∧ a.1.r = b.1.r ∧ a.2 < b.2) := by unfold Tt; rw [lt_iff]
theorem map_at {Z : List Ft} {j : Nat} {f : Fl} (h : (Z.map Prod.fst)[j]? = some f) : ∃ i, Z[j]? = some (f, i) := by
  rw [List.getElem?_map, Option.map_eq_some_iff] at h
  obtain ⟨⟨a, i⟩, h1, rfl⟩ := h
  exact ⟨i, h1⟩
theorem at_map {Z : List Ft} {j : Nat} {a : Ft} (h : Z[j]? = some a) : (Z.map Prod.fst)[j]? = some a.1 := by
  rw [List.getElem?_map, h]; rfl
theorem cmN_srt {Z : List Ft} (h : Z.Pairwise Tt) (n : Nat) : Srt (cmN (Z.map Prod.fst) n) := by
  induction n with
  | zero => exact List.Pairwise.nil
  | succ n ih =>
    unfold cmN
    refine List.pairwise_append.2 ⟨ih, ?_, fun x hx y hy => ?_⟩
    · split
      · cases (Z.map Prod.fst)[n]? <;> simp
      · simp
    · split at hy
      next hk =>
        have hy' : (Z.map Prod.fst)[n]? = some y := by simpa using hy
        obtain ⟨j, hj, -, hx'⟩ := cmN_in.1 hx
        obtain ⟨iy, hy2⟩ := map_at hy'
        obtain ⟨ix, hx2⟩ := map_at hx'
        obtain ⟨m, rfl⟩ : ∃ m, n = m + 1 := ⟨n - 1, by omega⟩
        obtain ⟨z, hz⟩ : ∃ z, Z[m]? = some z := ⟨_, List.getElem?_eq_getElem (by have := (List.getElem?_eq_some_iff.1 hy2).1; omega)⟩
        rw [keep_at (at_map hz) hy'] at hk
        have hk' : sameC y z.1 = false := by simpa using hk
        have h1 := Tt_iff.1 (pw_at h hz hy2 (by omega))
        rw [same_no] at hk'
        rw [lt_iff]
        by_cases e : j = m
        · subst e
          rw [hz] at hx2
          injection hx2 with hx2
          subst hx2
          dsimp only at *
          omega
        · have h2 := Tt_iff.1 (pw_at h hx2 hz (by omega))
          dsimp only at *
          omega
      next => simp at hy
theorem lastO_of {l : List Fl} {Z : List Ft} (h : StO l.reverse Z) {n : Nat} (hn : Z.length = n) : LastO l (cmN (Z.map Prod.fst) n) := by
  obtain ⟨hp, hw⟩ := h
  subst hn
  have hmem : ∀ f i, (f, i) ∈ Z ↔ l.reverse[i]? = some f := fun f i => by rw [hp.mem_iff, List.mem_zipIdx_iff_getElem?]
  have hat : ∀ {j f i}, Z[j]? = some (f, i) → l.reverse[i]? = some f := fun {j f i} hj => (hmem f i).1 (List.mem_of_getElem? hj)
  have hin : ∀ {f i}, l.reverse[i]? = some f → ∃ j, Z[j]? = some (f, i) := fun {f i} hi => List.mem_iff_getElem?.1 ((hmem f i).2 hi)
  refine ⟨cmN_srt hw _, fun f => ?_⟩
  rw [cmN_in, List.find?_eq_some_iff_getElem]
  generalize l.reverse = L at *
  constructor
  · rintro ⟨j, hj, hk, hf⟩
    obtain ⟨i, hz⟩ := map_at hf
    have hi := hat hz
    obtain ⟨hil, hie⟩ := List.getElem?_eq_some_iff.1 hi
    refine ⟨by rw [at_iff]; exact ⟨rfl, rfl⟩, i, hil, hie, fun i' hi' => ?_⟩
    rw [Bool.not_eq_true', at_no]
    intro hs
    obtain ⟨j', hz'⟩ := hin (List.getElem?_eq_getElem (show i' < L.length by omega))
    generalize L[i'] = g at hs hz'
    by_cases e1 : j < j'
    · have h1 := Tt_iff.1 (pw_at hw hz hz' e1)
      dsimp only at h1
      omega
    · by_cases e2 : j' = j
      · subst e2
        rw [hz] at hz'
        injection hz' with hz'
        injection hz' with _ hz'
        omega
      · obtain ⟨m, rfl⟩ : ∃ m, j = m + 1 := ⟨j - 1, by omega⟩
        obtain ⟨z, hzm⟩ : ∃ z, Z[m]? = some z := ⟨_, List.getElem?_eq_getElem (by omega)⟩
        rw [keep_at (at_map hzm) hf] at hk
        have hk' : sameC f z.1 = false := by simpa using hk
        rw [same_no] at hk'
        have h1 := Tt_iff.1 (pw_at hw hzm hz (by omega))
        by_cases e3 : j' = m
        · subst e3
          rw [hzm] at hz'
          injection hz' with hz'
          subst hz'
          dsimp only at *
          omega
        · have h2 := Tt_iff.1 (pw_at hw hz' hzm (by omega))
          dsimp only at *
          omega
  · rintro ⟨-, i, hil, hie, hno⟩
    obtain ⟨j, hz⟩ := hin (List.getElem?_eq_some_iff.2 ⟨hil, hie⟩)
    have hjl := (List.getElem?_eq_some_iff.1 hz).1
    refine ⟨j, hjl, ?_, at_map hz⟩
    cases j with
    | zero => rfl
    | succ m =>
      obtain ⟨⟨z, iz⟩, hzm⟩ : ∃ z, Z[m]? = some z := ⟨_, List.getElem?_eq_getElem (by omega)⟩
      rw [keep_at (at_map hzm) (at_map hz), Bool.not_eq_true', same_no]
      intro hs
      have h1 := Tt_iff.1 (pw_at hw hzm hz (by omega))
      dsimp only at h1 hs
      have hiz := hat hzm
      obtain ⟨hizl, hize⟩ := List.getElem?_eq_some_iff.1 hiz
      have := hno iz (by omega)
      rw [Bool.not_eq_true', at_no, hize] at this
      omega
set_option maxHeartbeats 1000000 in
theorem lastOf_any (p : Option Addr) (c : Nat) (l : List Fl) (w : World) (hf : FM w p l) (hl : l.length ≤ 4398046511104) (hc : p = none → c = 0) : Calls Tryz.prog 31 #[.slice p l.length c] w fun e w' => ∃ v o, e = .returned v ∧ LastO l o ∧ w'.ownsRow w.heap.size 36 3 v o.length (flF o) ∧ o.length ≤ l.length ∧ Below w.heap.size w w' := by
  have HC : Hid (Calls Tryz.prog 25 #[.slice p l.length c] w fun e w' => (∃ v, e = .returned v ∧ w'.ownsRow w.heap.size 36 3 v l.length (flF l)) ∧ Below w.heap.size w w') := clone_any p c l w hf hl hc
  clear hf
  go_enter Tryz.func31, Tryz.ntmps31
  go_wp2_with fail
  refine HC.out.mono ?_
  rintro e w1 ⟨⟨v, rfl, ho⟩, hb1⟩
  have H1 := reverse_any v l w.heap.size w1 ho hb1.size (by omega)
  go_wp2_with fail
  refine H1.mono ?_
  rintro e w2 ⟨rfl, ho2, hb2⟩
  have H2 := sortStable_any v l.reverse w.heap.size w2 (by rw [List.length_reverse]; exact ho2) (by have := hb1.size; have := hb2.size; omega) (by rw [List.length_reverse]; omega)
  clear H1
  go_wp2_with fail
  refine H2.mono ?_
  rintro e w3 ⟨rfl, ⟨Z, hZ, ho3⟩, hb3⟩
  have hzl : Z.length = l.length := by rw [hZ.1.length_eq]; simp
  have H3 := compact_any v (Z.map Prod.fst) w.heap.size w3 (by rw [List.length_map, hzl]; rw [List.length_reverse] at ho3; exact ho3) (by have := hb1.size; have := hb2.size; have := hb3.size; omega) (by rw [List.length_map]; omega)
  clear H2
  go_wp2_with fail
  refine H3.mono ?_
  rintro e w4 ⟨u, rfl, ho4, hb4⟩
  rw [List.length_map] at ho4
  have hlen := cmN_len (Z.map Prod.fst) Z.length
  clear H3
  go_wp2_with fail
  go_ret
  exact ⟨u, _, rfl, lastO_of hZ rfl, ho4, by omega, hb1.trans (hb2.trans (hb3.trans hb4))⟩
end Go.Proofs.YtcekgefkimbfaaaGreatDoor.ps
