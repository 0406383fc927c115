/- The contract of slices.SortFunc at this program's cells with texts, laid out of the shelf in plain words. Nothing is walked here. -/
import Derived.Shelf.SlSortCmp.WholeK
import Derived.Shelf.SlSortCmp.NoneTotal
import Derived.Test.YtcekgefkimbfaaaGreatDoorProg
import Derived.Test.YtcekgefkimbfaaaGreatDoorWa
import Derived.Deep.CutBlock
namespace Go.Proofs
open Go.Shelf
def Tryz.sortF_ren : Go.Shelf.Ren := ⟨fun | 6 => 38 | 15 => 55 | 14 => 54 | 28 => 80 | 29 => 81 | 20 => 72 | 21 => 73 | 22 => 74 | 23 => 75 | 24 => 76 | 25 => 77 | 26 => 78 | 27 => 79 | 46 => 96 | 47 => 97 | 48 => 98 | 49 => 99 | 50 => 100 | 57 => 113 | n => n, fun | 22 => 22 | 24 => 36 | 25 => 79 | 3 => 3 | 39 => 99 | 0 => 0 | 53 => 134 | 55 => 136 | 4 => 4 | 46 => 128 | 45 => 127 | 50 => 122 | 5 => 5 | 9 => 9 | 66 => 163 | 70 => 167 | 76 => 183 | 77 => 44 | n => n, fun | n => n⟩
theorem Tryz.sortF : Go.Proofs.SlLaysF0.n6 Tryz.prog Tryz.sortF_ren := {
  mixed := by kernel_rfl
  f6 := ⟨Tryz.f38.name, by decide, Tryz.func38.trans (congrArg some (by kernel_rfl))⟩
  f14 := ⟨Tryz.f54.name, by decide, Tryz.func54.trans (congrArg some (by kernel_rfl))⟩
  f15 := Tryz.func55.trans (congrArg some (by kernel_rfl))
  f20 := ⟨Tryz.f72.name, by decide, Tryz.func72.trans (congrArg some (by kernel_rfl))⟩
  f21 := ⟨Tryz.f73.name, by decide, Tryz.func73.trans (congrArg some (by kernel_rfl))⟩
  f22 := ⟨Tryz.f74.name, by decide, Tryz.func74.trans (congrArg some (by kernel_rfl))⟩
  f23 := ⟨Tryz.f75.name, by decide, Tryz.func75.trans (congrArg some (by kernel_rfl))⟩
  f24 := ⟨Tryz.f76.name, by decide, Tryz.func76.trans (congrArg some (by kernel_rfl))⟩
  f25 := ⟨Tryz.f77.name, by decide, Tryz.func77.trans (congrArg some (by kernel_rfl))⟩
  f26 := ⟨Tryz.f78.name, by decide, Tryz.func78.trans (congrArg some (by kernel_rfl))⟩
  f27 := ⟨Tryz.f79.name, by decide, Tryz.func79.trans (congrArg some (by kernel_rfl))⟩
  f28 := Tryz.func80.trans (congrArg some (by kernel_rfl))
  f29 := Tryz.func81.trans (congrArg some (by kernel_rfl))
  f46 := ⟨Tryz.f96.name, by decide, Tryz.func96.trans (congrArg some (by kernel_rfl))⟩
  f47 := Tryz.func97.trans (congrArg some (by kernel_rfl))
  f48 := Tryz.func98.trans (congrArg some (by kernel_rfl))
  f49 := ⟨Tryz.f99.name, by decide, Tryz.func99.trans (congrArg some (by kernel_rfl))⟩
  f50 := ⟨Tryz.f100.name, by decide, Tryz.func100.trans (congrArg some (by kernel_rfl))⟩
  f57 := ⟨Tryz.f113.name, by decide, Tryz.func113.trans (congrArg some (by kernel_rfl))⟩
  t0 := Tryz.underlying0
  a0 := Tryz.isAgg0
  z0 := Tryz.sizeOf0
  v0 := Tryz.zeroValue0
  t3 := Tryz.underlying3
  a3 := Tryz.isAgg3
  z3 := Tryz.sizeOf3
  v3 := Tryz.zeroValue3
  t4 := Tryz.underlying4
  a4 := Tryz.isAgg4
  z4 := Tryz.sizeOf4
  v4 := Tryz.zeroValue4
  t5 := Tryz.underlying5
  a5 := Tryz.isAgg5
  z5 := Tryz.sizeOf5
  v5 := Tryz.zeroValue5
  t9 := Tryz.underlying9
  a9 := Tryz.isAgg9
  z9 := Tryz.sizeOf9
  v9 := Tryz.zeroValue9
  t22 := Tryz.underlying22
  a22 := Tryz.isAgg22
  z22 := Tryz.sizeOf22
  v22 := Tryz.zeroValue22
  t25 := Tryz.underlying79
  a25 := Tryz.isAgg79
  z25 := Tryz.sizeOf79
  v25 := Tryz.zeroValue79
  t39 := Tryz.underlying99
  a39 := Tryz.isAgg99
  z39 := Tryz.sizeOf99
  v39 := Tryz.zeroValue99
  t45 := Tryz.underlying127
  a45 := Tryz.isAgg127
  z45 := Tryz.sizeOf127
  v45 := Tryz.zeroValue127
  t46 := Tryz.underlying128
  a46 := Tryz.isAgg128
  z46 := Tryz.sizeOf128
  v46 := Tryz.zeroValue128
  t50 := Tryz.underlying122
  a50 := Tryz.isAgg122
  z50 := Tryz.sizeOf122
  v50 := Tryz.zeroValue122
  t53 := Tryz.underlying134
  a53 := Tryz.isAgg134
  z53 := Tryz.sizeOf134
  v53 := Tryz.zeroValue134
  t55 := Tryz.underlying136
  a55 := Tryz.isAgg136
  z55 := Tryz.sizeOf136
  v55 := Tryz.zeroValue136
  t66 := Tryz.underlying163
  a66 := Tryz.isAgg163
  z66 := Tryz.sizeOf163
  v66 := Tryz.zeroValue163
  t70 := Tryz.underlying167
  a70 := Tryz.isAgg167
  z70 := Tryz.sizeOf167
  v70 := Tryz.zeroValue167
  t76 := Tryz.underlying183
  a76 := Tryz.isAgg183
  z76 := Tryz.sizeOf183
  v76 := Tryz.zeroValue183
  t77 := Tryz.underlying44
  a77 := Tryz.isAgg44
  z77 := Tryz.sizeOf44
  v77 := Tryz.zeroValue44 }
end Go.Proofs
/- Package addr: Compare, with the world that it leaves, exactly; slices.SortFunc at a list of cells with their texts. Conditions: as each theorem says. -/
namespace Go.Proofs.YtcekgefkimbfaaaGreatDoor.ps
open Go.RowKit Go.Sort
open adr (C)
/-- Draws and new blocks, nothing else. -/
def Gr (w w' : World) : Prop := ∃ (q : Nat) (os : Array Obj), w' = grow (w.drewN q) os
theorem Gr.refl (w : World) : Gr w w := ⟨0, #[], by rw [grow_empty]; rfl⟩
theorem Gr.trans {a b c : World} (h : Gr a b) (h2 : Gr b c) : Gr a c := by
  obtain ⟨q, os, rfl⟩ := h
  obtain ⟨q', os', rfl⟩ := h2
  refine ⟨q + q', os ++ os', ?_⟩
  unfold grow World.drewN
  simp [Array.append_assoc, Nat.add_assoc]
theorem Gr.alloc {a b : World} (h : Gr a b) (o : Obj) : Gr a (b.alloc o) := h.trans ⟨0, #[o], by rw [alloc_eq_grow]; rfl⟩
theorem Gr.drew {a b : World} (h : Gr a b) : Gr a b.drew := h.trans ⟨1, #[], by rw [grow_empty]; rfl⟩
theorem Gr.below {a b : World} (h : Gr a b) : Below a.heap.size a b := by
  obtain ⟨q, os, rfl⟩ := h
  refine ⟨rfl, rfl, rfl, by simp [grow, World.drewN], fun k hk => ?_⟩
  simp only [grow, World.drewN]
  rw [Array.getElem?_append_left hk]
structure PG (w : World) (a b c d : Int) (wx : World) : Prop where
  x : wx.heap[w.heap.size]? = some (.cells #[.int .i64 a, .int .i64 b] 34 (0, 0))
  y : wx.heap[w.heap.size + 1]? = some (.cells #[.int .i64 c, .int .i64 d] 34 (0, 0))
  gr : Gr w wx
theorem PG.start (w : World) (a b c d : Int) : PG w a b c d ((w.alloc (.cells #[.int .i64 a, .int .i64 b] 34)).alloc (.cells #[.int .i64 c, .int .i64 d] 34)) :=
  ⟨(PC.start w a b c d).x, (PC.start w a b c d).y, ((Gr.refl _).alloc _).alloc _⟩
theorem PG.next {w : World} {a b c d : Int} {wx wy : World} (h : PG w a b c d wx) (hb : Gr wx wy) : PG w a b c d wy := ⟨(hb.below.block _ (fm.lt_blk h.x)).trans h.x, (hb.below.block _ (fm.lt_blk h.y)).trans h.y, h.gr.trans hb⟩
abbrev PQ (w : World) (a b c d : Int) (wx : World) : Prop := wx.cell? ⟨w.heap.size, 0, none⟩ = some (.int .i64 a) ∧ wx.cell? ⟨w.heap.size, 1, none⟩ = some (.int .i64 b) ∧ wx.cell? ⟨w.heap.size + 1, 0, none⟩ = some (.int .i64 c) ∧ wx.cell? ⟨w.heap.size + 1, 1, none⟩ = some (.int .i64 d) ∧ PG w a b c d wx
theorem PG.opened {w : World} {a b c d : Int} {wx : World} (h : PG w a b c d wx) : PQ w a b c d wx :=
  ⟨by simp [World.cell?, h.x], by simp [World.cell?, h.x], by simp [World.cell?, h.y], by simp [World.cell?, h.y], h⟩
theorem pq {w : World} {a b c d : Int} {wx : World} (h : PQ w a b c d wx) : PG w a b c d wx := h.2.2.2.2
set_option maxRecDepth 100000 in
set_option maxHeartbeats 4000000 in
theorem compare_gr (a b c d : Int) (w : World) :
    Calls Tryz.prog 40 #[C a b, C c d] w fun e w' => e = .returned (.int .i64 (cmpC a b c d)) ∧ Gr w w' := by
  have hS := PG.start w a b c d
  rw [← cmpC_or]
  have HP : Hid (∀ x y wx, Calls Tryz.prog 57 #[.int .i64 x, .int .i64 y] wx fun e w' => e = .returned (.int .i64 (cmpI x y)) ∧ Gr wx w') := fun x y wx => (cmpInt_any x y wx).mono (fun e w' h => by obtain ⟨rfl, rfl⟩ := h; exact ⟨rfl, Gr.refl _⟩)
  have HO : Hid (∀ (p q : Int) (wx : World), Calls Tryz.prog 56 #[.slice (some ⟨wx.heap.size, 0, none⟩) 2 2] (wx.alloc (.cells #[.int .i64 p, .int .i64 q] 3)) fun e w' => e = .returned (.int .i64 (orI p q)) ∧ Gr (wx.alloc (.cells #[.int .i64 p, .int .i64 q] 3)) w') := fun p q wx => (or_any p q wx.heap.size _ (heap_alloc_new _ _)).mono (fun e w' h => by obtain ⟨rfl, rfl⟩ := h; exact ⟨rfl, Gr.refl _⟩)
  go_enter Tryz.func40, Tryz.ntmps40
  go_wp2_with fail
  generalize (w.alloc (.cells #[.int .i64 a, .int .i64 b] 34)).alloc (.cells #[.int .i64 c, .int .i64 d] 34) = W at *
  have h0d := (hS.next (Gr.refl _).drew).opened
  obtain ⟨y0, y1, y2, y3, -⟩ := hS.opened
  go_region_held3 (fun wx => PQ w a b c d wx) (first | exact h0d | exact ((pq (by assumption)).next (by assumption)).opened | exact ((pq (by assumption)).next ((Gr.refl _).alloc _)).opened) (first | (go_at_call 57; refine (HP.out _ _ _).mono ?_; rintro e w1 ⟨rfl, hb1⟩) | (go_at_call 56; refine (HO.out _ _ _).mono ?_; rintro e w3 ⟨rfl, hb3⟩; have hk3 := (pq (by assumption)).next hb3))
  all_goals
    go_wp2_with fail
    go_ret
    exact ⟨rfl, hk3.gr⟩
set_option maxRecDepth 100000 in
set_option maxHeartbeats 1600000 in
theorem cmp39_any (x y : Fl) (w : World) : Calls Tryz.prog 39 #[FV x, FV y] w fun e w' => e = .returned (.int .i64 (cmpC x.c x.r y.c y.r)) ∧ Gr w w' := by
  obtain ⟨xc, xr, xs⟩ := x
  obtain ⟨c, r, ys⟩ := y
  dsimp only [FV]
  have HC : Hid (∀ wx, Calls Tryz.prog 40 #[C xc xr, C c r] wx fun e w' => e = .returned (.int .i64 (cmpC xc xr c r)) ∧ Gr wx w') := compare_gr xc xr c r
  obtain ⟨h1, h2⟩ := two_new' w (.cells #[.int .i64 xc, .int .i64 xr, .string xs] 36) (.cells #[.int .i64 c, .int .i64 r, .string ys] 36)
  obtain ⟨y0, y1, y4⟩ := cells3 h1
  obtain ⟨y2, y3, y5⟩ := cells3 h2
  have HB : Hid (Gr w ((w.alloc (.cells #[.int .i64 xc, .int .i64 xr, .string xs] 36)).alloc (.cells #[.int .i64 c, .int .i64 r, .string ys] 36))) := ((Gr.refl _).alloc _).alloc _
  generalize cmpC xc xr c r = q at *
  clear h1 h2
  go_enter Tryz.func39, Tryz.ntmps39
  go_wp2_with fail
  refine (HC.out _).mono ?_
  rintro e w1 ⟨rfl, hb1⟩
  have HK : Hid (Gr w w1) := HB.out.trans hb1
  clear y0 y1 y2 y3 y4 y5 hb1
  go_wp2_with fail
  go_ret
  exact ⟨rfl, HK.out⟩
def cf39 (x y : Fl) : Int := cmpC x.c x.r y.c y.r
theorem lt39 (x y : Fl) : ltOf cf39 x y = lt x y.c y.r := rfl
theorem swo39 : SWO (ltOf cf39) where
  irrefl x := by rw [lt39, lt_no]; omega
  trans x y z h1 h2 := by rw [lt39, lt_iff] at *; omega
  ntrans x y z h1 h2 := by rw [lt39, lt_no] at *; omega
theorem lays39 [Inhabited Fl] (blk off size : Nat) (w : World) : CmpLays Tryz.prog 39 #[] fl3 3 cf39 blk off size w :=
  fun _ _ _ _ x y => cmp39_any x y _
theorem below_sorted {α : Type} [Inhabited α] (enc : α → List Value) (k : Nat) (w : World) (blk off m : Nat) (d : Array α) (os : Array Obj) {base : Nat} (h : base ≤ blk) (hw : base ≤ w.heap.size) : Below base w (sortWorldK enc k w blk off m d os) := by
  refine ⟨rfl, rfl, rfl, size_sortWorldK_c enc k w blk off m d os, fun i hi => ?_⟩
  unfold sortWorldK putRowK putRow mapBlock Go.Sort.ahead grow
  have hs : i < w.heap.size := Nat.lt_of_lt_of_le hi hw
  simp only
  rw [Array.getElem?_append_left (by simpa using hs), Array.getElem?_modify, if_neg (by omega)]
theorem PermIn_list {α : Type} [Inhabited α] {d d' : Array α} (h : PermIn 0 d.size d d') : d.toList.Perm d'.toList := by
  have h2 := h.2.2
  rw [Array.extract_size, show d.size = d'.size from h.1.symm, Array.extract_size] at h2
  exact h2.symm
theorem get_bang {α : Type} [Inhabited α] {l : List α} {i : Nat} (h : i < l.length) : l[i]? = some l[i]! := by
  rw [List.getElem?_eq_getElem h, getElem!_pos l i h]
set_option maxHeartbeats 1000000 in
theorem sortF_any (v : Value) (l : List Fl) (base : Nat) (w : World) (hown : w.ownsRow base 36 3 v l.length (flF l)) (hbase : base ≤ w.heap.size) (hd : Dst l) (hl : l.length ≤ 1000) :
    Calls Tryz.prog 38 #[v, .func (.func 39) #[] #[]] w fun e w' => e = .returned (.tuple #[]) ∧ (∃ p c, v = .slice p l.length c ∧ FM w' p (sortR l)) ∧ Below base w w' := by
  haveI : Inhabited Fl := ⟨⟨0, 0, nul⟩⟩
  have hsh := FB.shape (own_base hown (Nat.zero_le _))
  rcases hown.2 with ⟨rfl, h0⟩ | ⟨g, cap, cur, rfl, hbg, hg, hcap, hm, hz, ht⟩
  · have hcon := AnyF.slices_SortFunc_none Tryz.sortF none 0 (.func (.func 39) #[] #[]) w
    change Calls Tryz.prog 38 _ _ _ at hcon
    refine hcon.mono ?_
    rintro e w' ⟨rfl, rfl⟩
    have e0 : l = [] := List.length_eq_zero_iff.1 h0
    subst e0
    exact ⟨rfl, ⟨none, 0, rfl, .inl rfl⟩, Below.refl _ _⟩
  · obtain ⟨p, c, e, hM⟩ := hsh
    injection e with e1 _ e3
    subst e1 e3
    have hlt := fm.lt_blk hg
    have hcell : ∀ (t : Nat) u, (flF l)[t]? = some u → w.cell? ⟨g, t, none⟩ = some u := by
      rcases hM with hM | ⟨g', o', e, -, h3⟩
      · intro t u hu; rw [hM] at hu; simp [flF] at hu
      · injection e with e; injection e with e1 e2; subst e1 e2
        intro t u hu
        have := h3 t u hu
        rwa [Nat.zero_add] at this
    have hH : HoldsK fl3 3 w g 0 l.toArray := by
      intro j hj
      rw [size_flatK] at hj
      have hj' : j < l.length * 3 := by simpa using hj
      have hi : j / 3 < l.length := by omega
      refine ⟨?_, froz hg _⟩
      rw [get_flatK fl3 3 l.toArray j hj, Nat.zero_add]
      refine hcell j _ ?_
      have hx : l[j / 3]? = some l[j / 3] := List.getElem?_eq_getElem hi
      have hj3 : j % 3 < 3 := Nat.mod_lt _ (by decide)
      have hv : (fl3 l[j / 3])[j % 3]? = some (fl3 l[j / 3])[j % 3]! := get_bang (show j % 3 < (fl3 l[j / 3]).length from hj3)
      have := flF_at hx hv
      rw [show j / 3 * 3 + j % 3 = j by omega] at this
      rw [this]
      have e5 : l.toArray[j / 3]! = l[j / 3] := by rw [getElem!_pos _ _ (by simpa using hi)]; simp
      rw [e5]
      rfl
    have hcon := AnyQ.slices_SortFunc Tryz.sortF 3 Tryz.isAgg36 Tryz.sizeOf36 fl3 (fun _ => rfl) (fun x v hv => flF_one [x] v (by simpa [flF] using hv)) cf39 swo39 39 #[] g 0 cap l.toArray w (enters_of Tryz.func39 (by kernel_rfl) rfl) (lays39 g 0 _ w) hH hlt (by simp; omega)
    change Calls Tryz.prog 38 _ _ _ at hcon
    have e6 : l.toArray.size = l.length := by simp
    rw [e6] at hcon
    refine hcon.mono ?_
    rintro e w' ⟨rfl, d', n, os, hp, hs, rfl⟩
    rw [← e6] at hp hs
    have hsz : d'.size = l.length := by have := hp.1; simpa using this
    have hperm : l.Perm d'.toList := by have := PermIn_list hp; simpa using this
    have hL : d'.toList = sortR l := by
      refine sorted_is hd hperm (fun i j x y hij hx hy => ?_)
      have hj := (List.getElem?_eq_some_iff.1 hy).1
      have hj' : j < d'.size := by simpa using hj
      have h1 := hs i j (Nat.zero_le _) hij (by rw [hsz] at hj'; simpa using hj')
      have ex : d'[i]! = x := by
        rw [getElem!_pos _ i (by omega)]
        have := (List.getElem?_eq_some_iff.1 hx).2
        simpa using this
      have ey : d'[j]! = y := by
        rw [getElem!_pos _ j hj']
        have := (List.getElem?_eq_some_iff.1 hy).2
        simpa using this
      rw [ex, ey, lt39] at h1
      exact h1
    refine ⟨rfl, ⟨_, _, rfl, ?_⟩, below_sorted fl3 3 w g 0 n d' os hbg hbase⟩
    have hH' : HoldsK fl3 3 (sortWorldK fl3 3 w g 0 n d' os) g 0 d' := holdsK_sortWorldK fl3 3 w g 0 n l.toArray d' os hlt hH (by simpa using hsz)
    refine .inr ⟨g, 0, rfl, lt_sortWorldK fl3 3 w g 0 n d' os hlt, fun t u hu => ?_⟩
    rw [← hL] at hu
    have htl := (List.getElem?_eq_some_iff.1 hu).1
    rw [flF_len] at htl
    have hi : t / 3 < d'.size := by simp at htl; omega
    have hc := (HoldsK.cell hH' hi (c := t % 3) (Nat.mod_lt _ (by decide))).1
    rw [show 0 + t / 3 * 3 + t % 3 = 0 + t by omega] at hc
    rw [hc]
    have hx : d'.toList[t / 3]? = some d'[t / 3]! := by rw [getElem!_pos d' (t / 3) hi]; simp
    have hj3 : t % 3 < 3 := Nat.mod_lt _ (by decide)
    have hv : (fl3 d'[t / 3]!)[t % 3]? = some (fl3 d'[t / 3]!)[t % 3]! := get_bang (show t % 3 < (fl3 d'[t / 3]!).length from hj3)
    have := flF_at hx hv
    rw [show t / 3 * 3 + t % 3 = t by omega, hu] at this
    exact this.symm
end Go.Proofs.YtcekgefkimbfaaaGreatDoor.ps
/- Package rows: Swap. Conditions: as each theorem says. -/
namespace Go.Proofs.YtcekgefkimbfaaaGreatDoor.ps
open Go.RowKit
open adr (C isC ckc)
/-- What is at hand in a round: the new list, the box of the cell. -/
structure WS (w : World) (bf : Nat) (f : Fl) (v : Value) (ys : List Fl) (wx : World) : Prop where
  own : wx.ownsRow w.heap.size 36 3 v ys.length (flF ys)
  ne : v.ownBlock ≠ some bf
  box : wx.heap[bf]? = some (.cells #[.int .i64 f.c, .int .i64 f.r, .string f.s] 36 (0, 0))
  le : w.heap.size ≤ bf
  below : Below w.heap.size w wx
theorem own_next {wx wy : World} {B : Nat} {v : Value} {n : Nat} {xs : List Value} (h : wx.ownsRow B 36 3 v n xs) (hb : Below wx.heap.size wx wy) : wy.ownsRow B 36 3 v n xs := by
  refine ⟨h.1, ?_⟩
  rcases h.2 with h0 | ⟨g, cap, cur, h1, h2, hg, h4⟩
  · exact .inl h0
  · exact .inr ⟨g, cap, cur, h1, h2, (hb.block g (fm.lt_blk hg)).trans hg, h4⟩
theorem WS.next {w : World} {bf : Nat} {f : Fl} {v : Value} {ys : List Fl} {wx wy : World} (h : WS w bf f v ys wx) (hb : Below wx.heap.size wx wy) : WS w bf f v ys wy :=
  ⟨own_next h.own hb, h.ne, (hb.block _ (fm.lt_blk h.box)).trans h.box, h.le, bnext h.below hb h.below.size⟩
/-- A new list and what was there. -/
structure LV (w : World) (v : Value) (ys : List Fl) (wx : World) : Prop where
  own : wx.ownsRow w.heap.size 36 3 v ys.length (flF ys)
  below : Below w.heap.size w wx
theorem LV.nil (w : World) : LV w (.slice none 0 0) [] w := ⟨⟨rfl, .inl ⟨rfl, rfl⟩⟩, Below.refl _ _⟩
theorem LV.next {w : World} {v : Value} {ys : List Fl} {wx wy : World} (h : LV w v ys wx) (hb : Below wx.heap.size wx wy) : LV w v ys wy := ⟨own_next h.own hb, bnext h.below hb h.below.size⟩
theorem LV.box {w : World} {v : Value} {ys : List Fl} {wx : World} (h : LV w v ys wx) (f : Fl) : WS w wx.heap.size f v ys (wx.alloc (.cells #[.int .i64 f.c, .int .i64 f.r, .string f.s] 36)) := by
  have hb : Below wx.heap.size wx (wx.alloc (.cells #[.int .i64 f.c, .int .i64 f.r, .string f.s] 36)) := (Below.refl _ _).alloc (Nat.le_refl _) _
  exact ⟨own_next h.own hb, fun e => Nat.lt_irrefl _ (h.own.lt _ e).2, heap_alloc_new _ _, h.below.size, bnext h.below hb h.below.size⟩
/-- The cell's box has another cell now. -/
theorem WS.set2 {w : World} {bf : Nat} {f : Fl} {v : Value} {ys : List Fl} {wx : World} (h : WS w bf f v ys wx) (c r : Int) : WS w bf ⟨c, r, f.s⟩ v ys ((wx.setCell ⟨bf, 0, none⟩ (.int .i64 c)).setCell ⟨bf, 1, none⟩ (.int .i64 r)) := by
  have h1 := fm.blk_set (o := 0) (u := .int .i64 c) h.box
  have h2 := fm.blk_set (o := 1) (u := .int .i64 r) h1
  refine ⟨⟨h.own.1, ?_⟩, h.ne, by simpa using h2, h.le, (h.below.setCell h.le _).setCell h.le _⟩
  rcases h.own.2 with h0 | ⟨g, cap, cur, e1, e2, hg, h4⟩
  · exact .inl h0
  · have hne : g ≠ bf := fun e => h.ne (by rw [e1, e]; rfl)
    exact .inr ⟨g, cap, cur, e1, e2, ((Below.heap_setCell _ _ _ _ hne).trans (Below.heap_setCell _ _ _ _ hne)).trans hg, h4⟩
/-- One more behind it. -/
theorem WS.one {w : World} {bf : Nat} {f : Fl} {v : Value} {ys : List Fl} {wx : World} (h : WS w bf f v ys wx) (hy : ys.length ≤ 1000) (y : Fl) :
    ∃ p n c w', (Builtin.append_ #[22, 22] 22 #[v, .slice (some ⟨wx.heap.size, 0, none⟩) 1 1]).run Tryz.prog (wx.alloc (.cells #[.int .i64 y.c, .int .i64 y.r, .string y.s] 36)) = .ok (.slice p n c) w' ∧ LV w (.slice p n c) (ys ++ [y]) w' := by
  have h1 := h.next ((Below.refl _ _).alloc (Nat.le_refl _) (.cells #[.int .i64 y.c, .int .i64 y.r, .string y.s] 36))
  obtain ⟨v', w', r1, r2, r3, r4, r5, r6⟩ := app_many (wx.alloc (.cells #[.int .i64 y.c, .int .i64 y.r, .string y.s] 36)) w.heap.size h1.below.size v ys.length (flF ys) h1.own hy (some ⟨wx.heap.size, 0, none⟩) [y] 1 (fm_new wx y) (by simp)
  have ho : w'.ownsRow w.heap.size 36 3 v' (ys ++ [y]).length (flF (ys ++ [y])) := by rw [flF_app, List.length_append]; exact r2
  obtain ⟨p, c, rfl, -⟩ := FB.shape (own_base ho (Nat.zero_le _))
  exact ⟨p, _, c, w', r1, ho, h1.below.trans r3⟩
theorem sw1_a {row : Bool} {a b : Int} {x : Fl} (h : lnO row x.c x.r = a) : sw1 row a b x = ⟨inC row x.c b, inR row x.r b, x.s⟩ := by
  obtain ⟨c, r, s⟩ := x
  unfold sw1 inC inR
  unfold lnO at h
  cases row
  · simp at h ⊢; simp [h]
  · simp at h ⊢; simp [h]
theorem sw1_b {row : Bool} {a b : Int} {x : Fl} (h1 : ¬ lnO row x.c x.r = a) (h : lnO row x.c x.r = b) : sw1 row a b x = ⟨inC row x.c a, inR row x.r a, x.s⟩ := by
  obtain ⟨c, r, s⟩ := x
  unfold sw1 inC inR
  unfold lnO at h h1
  cases row
  · simp at h h1 ⊢; simp [h]
  · simp at h h1 ⊢; simp [h]
theorem sw1_no {row : Bool} {a b : Int} {x : Fl} (h1 : ¬ lnO row x.c x.r = a) (h : ¬ lnO row x.c x.r = b) : sw1 row a b x = x := by
  obtain ⟨c, r, s⟩ := x
  unfold sw1
  unfold lnO at h h1
  cases row
  · simp at h h1 ⊢; simp [h1, h]
  · simp at h h1 ⊢; simp [h1, h]
theorem map_take_snoc {α β : Type} (f : α → β) {xs : List α} {i : Nat} {x : α} (h : xs[i]? = some x) : (xs.take (i + 1)).map f = (xs.take i).map f ++ [f x] := by
  rw [List.take_add_one, h]; simp
/-- What Swap answers. -/
def SwO (xs : List Fl) (row : Bool) (a b : Int) (t : Int) (v : Value) (e : Int) (w' : World) : Prop :=
  (t ≠ 0 ∧ v = .slice none 0 0 ∧ e = t) ∨ (t = 0 ∧ (isLn row a && isLn row b) = false ∧ v = .slice none 0 0 ∧ e = 1) ∨ (t = 0 ∧ (isLn row a && isLn row b) = true ∧ e = 0 ∧ ∃ p c, v = .slice p xs.length c ∧ FM w' p (sortR (xs.map (sw1 row a b))))
set_option maxRecDepth 100000 in
set_option maxHeartbeats 8000000 in
theorem swap_any (p : Option Addr) (c : Nat) (xs : List Fl) (row : Bool) (a b : Int) (w : World) (hx : FM w p xs) (hE : EnvP w) :
    Calls Tryz.prog 21 #[.slice p xs.length c, .bool row, .int .i64 a, .int .i64 b] w fun e w' => (∃ t v q, e = .returned (.tuple #[v, errV q]) ∧ Told xs t ∧ SwO xs row a b t v q w') ∧ Below w.heap.size w w' := by
  have H : Hid (Calls Tryz.prog 24 #[.slice p xs.length c] w fun e w' => (∃ t, e = .returned (errV t) ∧ Told xs t) ∧ Below w.heap.size w w') := gcheck_any p c xs w hx hE
  obtain ⟨n, hn⟩ : ∃ n, xs.length = n := ⟨_, rfl⟩
  have HN : Hid (xs.length = n) := hn
  rw [hn] at H ⊢
  have HX : Hid (FM w p xs) := hx
  clear hx hE hn
  go_enter Tryz.func21, Tryz.ntmps21
  go_wp2_with fail
  refine H.out.mono ?_
  rintro e w1 ⟨⟨t, rfl, hT⟩, hb⟩
  have HT : Hid (Told xs t) := hT
  have HB : Hid (Below w.heap.size w w1) := hb
  clear hT hb H
  by_cases ht : t ≠ 0
  · rw [errV_some ht]
    go_wp2_with fail
    exact bodyPost_ret (v := .tuple #[.slice none 0 0, .iface 59 (.int .i64 t)]) (by simp [results, Tryz.results21, go_sem]) rfl ⟨⟨t, _, t, by rw [errV_some ht], HT.out, .inl ⟨ht, rfl, rfl⟩⟩, HB.out⟩
  have ht : t = 0 := Classical.byContradiction ht
  subst ht
  rw [errV_zero]
  have HI : Hid (∀ l wx, Calls Tryz.prog 35 #[.bool row, .int .i64 l] wx fun e w' => e = .returned (.bool (isLn row l)) ∧ Below wx.heap.size wx w') := fun l wx => isLine_any row l wx
  go_wp2_with fail
  refine (HI.out a _).mono ?_
  rintro e w2 ⟨rfl, hb⟩
  have HB2 : Hid (Below w.heap.size w w2) := bnext HB.out hb HB.out.size
  clear hb HB
  cases hA : isLn row a with
  | false =>
    have HA : Hid (isLn row a = false) := hA
    clear hA
    go_wp2_with fail
    exact bodyPost_ret (v := .tuple #[.slice none 0 0, .iface 59 (.int .i64 1)]) (by simp [results, Tryz.results21, go_sem]) rfl ⟨⟨0, _, 1, rfl, HT.out, .inr (.inl ⟨rfl, by rw [HA.out]; rfl, rfl, rfl⟩)⟩, HB2.out⟩
  | true =>
  have HA : Hid (isLn row a = true) := hA
  clear hA
  go_wp2_with fail
  refine (HI.out b _).mono ?_
  rintro e w3 ⟨rfl, hb⟩
  have HB3 : Hid (Below w.heap.size w w3) := bnext HB2.out hb HB2.out.size
  clear hb HB2 HI
  cases hA' : isLn row b with
  | false =>
    have HA' : Hid (isLn row b = false) := hA'
    clear hA'
    go_wp2_with fail
    exact bodyPost_ret (v := .tuple #[.slice none 0 0, .iface 59 (.int .i64 1)]) (by simp [results, Tryz.results21, go_sem]) rfl ⟨⟨0, _, 1, rfl, HT.out, .inr (.inl ⟨rfl, by rw [HA'.out]; simp, rfl, rfl⟩)⟩, HB3.out⟩
  | true =>
  have HA' : Hid (isLn row b = true) := hA'
  clear hA'
  have HF : Hid (Fine xs) := HT.out.fine
  have hn2 : n ≤ 200 := by rw [← HN.out]; exact HF.out.len
  go_wp2_with fail
  go_loopw [11, 32] (fun v i wr => ∃ k : Nat, i = .int .i64 k ∧ k ≤ n ∧ (∃ p m c, v = .slice p m c) ∧ LV w v ((xs.take k).map (sw1 row a b)) wr) (fun _ i _ => n - (intOf i).toNat)
  case atStart => exact ⟨0, rfl, Nat.zero_le _, ⟨none, 0, 0, rfl⟩, ⟨⟨rfl, .inl ⟨rfl, rfl⟩⟩, HB3.out⟩⟩
  case round =>
    obtain ⟨k, rfl, hk, ⟨pv, mv, cv, rfl⟩, hL⟩ := hrel
    have HL : Hid (LV w (.slice pv mv cv) ((xs.take k).map (sw1 row a b)) wr) := hL
    clear hL
    by_cases hin : k < n
    · have hiN : (k : Int) < (n : Int) := by omega
      have hi0 : (0 : Int) ≤ (k : Int) := by omega
      have hi200 : (k : Int) ≤ 200 := by omega
      obtain ⟨x, hx⟩ : ∃ x, xs[k]? = some x := ⟨_, List.getElem?_eq_getElem (by rw [HN.out]; exact hin)⟩
      have HXi : Hid (xs[k]? = some x) := hx
      obtain ⟨gx, ox, rfl, hgx⟩ := HX.out.at hx
      obtain ⟨q0, q1, q2⟩ := FM.cells (HX.out.below HL.out.below) hx
      have HS0 : Hid (WS w wr.heap.size x (.slice pv mv cv) ((xs.take k).map (sw1 row a b)) (wr.alloc (.cells #[.int .i64 x.c, .int .i64 x.r, .string x.s] 36))) := HL.out.box x
      clear hx
      go_wp2_with fail
      refine (lineOf_any row x.c x.r _).mono ?_
      rintro e w4 ⟨rfl, hb4⟩
      have HS : Hid (WS w wr.heap.size x (.slice pv mv cv) ((xs.take k).map (sw1 row a b)) w4) := HS0.out.next hb4
      clear hb4 HS0 q0 q1 q2
      obtain ⟨l, hl⟩ : ∃ l, lnO row x.c x.r = l := ⟨_, rfl⟩
      have HLn : Hid (lnO row x.c x.r = l) := hl
      rw [hl]
      clear hl
      go_upto_block 2 with fail
      go_cut [] (fun wx => WS w wr.heap.size (sw1 row a b x) (.slice pv mv cv) ((xs.take k).map (sw1 row a b)) wx)
      case first =>
        by_cases h1 : l = a
        · subst h1
          have HEQ : Hid (sw1 row l b x = ⟨inC row x.c b, inR row x.r b, x.s⟩) := sw1_a HLn.out
          have HI : Hid (Calls Tryz.prog 37 #[C x.c x.r, .bool row, .int .i64 b] w4 fun e w' => e = .returned (C (inC row x.c b) (inR row x.r b)) ∧ Below w4.heap.size w4 w') := inLine_any row x.c x.r b w4
          generalize inC row x.c b = c5 at *
          generalize inR row x.r b = r5 at *
          obtain ⟨b0, b1, b2⟩ := cells3 HS.out.box
          go_wp2_with fail
          refine HI.out.mono ?_
          rintro e w5 ⟨rfl, hb5⟩
          have HS5 : Hid (WS w wr.heap.size x (.slice pv mv cv) ((xs.take k).map (sw1 row l b)) w5) := HS.out.next hb5
          clear b0 b1 b2 hb5
          obtain ⟨b0, b1, b2⟩ := cells3 HS5.out.box
          have z0 := froz HS5.out.box 0
          have z1 := froz HS5.out.box 1
          go_wp2_with fail
          go_meet
          case rel => rw [HEQ.out]; exact HS5.out.set2 c5 r5
        · by_cases h2 : l = b
          · subst h2
            have HEQ : Hid (sw1 row a l x = ⟨inC row x.c a, inR row x.r a, x.s⟩) := sw1_b (by rw [HLn.out]; exact h1) HLn.out
            have HI : Hid (Calls Tryz.prog 37 #[C x.c x.r, .bool row, .int .i64 a] w4 fun e w' => e = .returned (C (inC row x.c a) (inR row x.r a)) ∧ Below w4.heap.size w4 w') := inLine_any row x.c x.r a w4
            generalize inC row x.c a = c5 at *
            generalize inR row x.r a = r5 at *
            obtain ⟨b0, b1, b2⟩ := cells3 HS.out.box
            go_wp2_with fail
            refine HI.out.mono ?_
            rintro e w5 ⟨rfl, hb5⟩
            have HS5 : Hid (WS w wr.heap.size x (.slice pv mv cv) ((xs.take k).map (sw1 row a l)) w5) := HS.out.next hb5
            clear b0 b1 b2 hb5
            obtain ⟨b0, b1, b2⟩ := cells3 HS5.out.box
            have z0 := froz HS5.out.box 0
            have z1 := froz HS5.out.box 1
            go_wp2_with fail
            go_meet
            case rel => rw [HEQ.out]; exact HS5.out.set2 c5 r5
          · have HEQ : Hid (sw1 row a b x = x) := sw1_no (by rw [HLn.out]; exact h1) (by rw [HLn.out]; exact h2)
            go_wp2_with fail
            go_meet
            case rel => rw [HEQ.out]; exact HS.out
      case rest =>
        have HS6 : Hid (WS w wr.heap.size (sw1 row a b x) (.slice pv mv cv) ((xs.take k).map (sw1 row a b)) wc) := hcut
        have HM1 : Hid ((xs.take (k + 1)).map (sw1 row a b) = (xs.take k).map (sw1 row a b) ++ [sw1 row a b x]) := map_take_snoc _ HXi.out
        clear hcut HS HLn
        generalize sw1 row a b x = y at *
        obtain ⟨p', n', c', w6, hr, hLV⟩ := HS6.out.one (by rw [List.length_map, List.length_take]; omega) y
        have HR : Hid ((Builtin.append_ #[22, 22] 22 #[.slice pv mv cv, .slice (some ⟨wc.heap.size, 0, none⟩) 1 1]).run Tryz.prog (wc.alloc (.cells #[.int .i64 y.c, .int .i64 y.r, .string y.s] 36)) = .ok (.slice p' n' c') w6) := hr
        have HLV : Hid (LV w (.slice p' n' c') ((xs.take (k + 1)).map (sw1 row a b)) w6) := by unfold Hid; rw [HM1.out]; exact hLV
        clear hr hLV
        obtain ⟨b0, b1, b2⟩ := cells3 HS6.out.box
        go_wp2_with (first | (at_builtin; refine fm.wpList_append_eq rfl _ _ 22 rfl _ _ _ _ rfl rfl HR.out ?_))
        exact ⟨⟨k + 1, rfl, hin, ⟨_, _, _, rfl⟩, HLV.out⟩, by simp [intOf]; omega⟩
    · have hin' : ¬ (k : Int) < (n : Int) := by omega
      have e : k = n := by omega
      subst e
      have HL' : Hid (LV w (.slice pv mv cv) (xs.map (sw1 row a b)) wr) := by have := HL.out; rwa [List.take_of_length_le (by rw [HN.out]; exact Nat.le_refl _)] at this
      have HC : Hid (Calls Tryz.prog 38 #[.slice pv mv cv, .func (.func 39) #[] #[]] wr fun e w' => e = .returned (.tuple #[]) ∧ (∃ p c, Value.slice pv mv cv = .slice p (xs.map (sw1 row a b)).length c ∧ FM w' p (sortR (xs.map (sw1 row a b)))) ∧ Below w.heap.size wr w') := sortF_any _ _ w.heap.size wr HL'.out.own HL'.out.below.size (dst_map HF.out.srt.dst row a b) (by rw [List.length_map, HN.out]; omega)
      go_wp2_with fail
      refine HC.out.mono ?_
      rintro e w5 ⟨rfl, ⟨p', c', he, hM⟩, hb5⟩
      injection he with he1 he2 he3
      subst he1 he2 he3
      have HM : Hid (FM w5 pv (sortR (xs.map (sw1 row a b)))) := hM
      have HB5 : Hid (Below w.heap.size w w5) := HL'.out.below.trans hb5
      clear hM hb5
      go_wp2_with fail
      exact bodyPost_ret (v := .tuple #[.slice pv (xs.map (sw1 row a b)).length cv, .nilIface]) (by simp [results, Tryz.results21, go_sem]) rfl ⟨⟨0, _, 0, rfl, HT.out, .inr (.inr ⟨rfl, by rw [HA.out, HA'.out]; rfl, rfl, pv, cv, by rw [List.length_map], HM.out⟩)⟩, HB5.out⟩
end Go.Proofs.YtcekgefkimbfaaaGreatDoor.ps
