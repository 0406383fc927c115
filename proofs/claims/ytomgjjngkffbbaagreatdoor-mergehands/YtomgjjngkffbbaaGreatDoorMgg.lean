
/- slices.SortFunc at a list of cells; slices.SortedFunc; package merge: table.cells. Conditions: as each theorem says. -/
import Derived.Test.YtomgjjngkffbbaaGreatDoorMgf
import Derived.Test.YtomgjjngkffbbaaGreatDoorSrt
import Derived.Test.YtomgjjngkffbbaaGreatDoorZd
namespace Go.Proofs.YtomgjjngkffbbaaGreatDoor.ps
open Go.RowKit Go.Sort
open adr (C)
/-- Draws and new blocks, nothing else. -/
def Gr (w w' : World) : Prop := ∃ (q : Nat) (os : Array Obj), w' = grow (w.drewN q) os
theorem Gr.refl (w : World) : Gr w w := ⟨0, #[], by rw [grow_empty]; rfl⟩
theorem Gr.trans {a b c : World} (h : Gr a b) (h2 : Gr b c) : Gr a c := by
  obtain ⟨q, os, rfl⟩ := h
  obtain ⟨q', os', rfl⟩ := h2
  refine ⟨q + q', os ++ os', ?_⟩
  unfold grow World.drewN
  simp [Array.append_assoc, Nat.add_assoc]
theorem Gr.alloc {a b : World} (h : Gr a b) (o : Obj) : Gr a (b.alloc o) := h.trans ⟨0, #[o], by rw [alloc_eq_grow]; rfl⟩
theorem Gr.drew {a b : World} (h : Gr a b) : Gr a b.drew := h.trans ⟨1, #[], by rw [grow_empty]; rfl⟩
theorem Gr.below {a b : World} (h : Gr a b) : Below a.heap.size a b := by
  obtain ⟨q, os, rfl⟩ := h
  refine ⟨rfl, rfl, rfl, by simp [grow, World.drewN], fun k hk => ?_⟩
  simp only [grow, World.drewN]
  rw [Array.getElem?_append_left hk]
structure PG (w : World) (a b c d : Int) (wx : World) : Prop where
  x : wx.heap[w.heap.size]? = some (.cells #[.int .i64 a, .int .i64 b] 43 (0, 0))
  y : wx.heap[w.heap.size + 1]? = some (.cells #[.int .i64 c, .int .i64 d] 43 (0, 0))
  gr : Gr w wx
theorem PG.start (w : World) (a b c d : Int) : PG w a b c d ((w.alloc (.cells #[.int .i64 a, .int .i64 b] 43)).alloc (.cells #[.int .i64 c, .int .i64 d] 43)) :=
  ⟨(PC.start w a b c d).x, (PC.start w a b c d).y, ((Gr.refl _).alloc _).alloc _⟩
theorem PG.next {w : World} {a b c d : Int} {wx wy : World} (h : PG w a b c d wx) (hb : Gr wx wy) : PG w a b c d wy := ⟨(hb.below.block _ (fm.lt_blk h.x)).trans h.x, (hb.below.block _ (fm.lt_blk h.y)).trans h.y, h.gr.trans hb⟩
abbrev PQ (w : World) (a b c d : Int) (wx : World) : Prop := wx.cell? ⟨w.heap.size, 0, none⟩ = some (.int .i64 a) ∧ wx.cell? ⟨w.heap.size, 1, none⟩ = some (.int .i64 b) ∧ wx.cell? ⟨w.heap.size + 1, 0, none⟩ = some (.int .i64 c) ∧ wx.cell? ⟨w.heap.size + 1, 1, none⟩ = some (.int .i64 d) ∧ PG w a b c d wx
theorem PG.opened {w : World} {a b c d : Int} {wx : World} (h : PG w a b c d wx) : PQ w a b c d wx :=
  ⟨by simp [World.cell?, h.x], by simp [World.cell?, h.x], by simp [World.cell?, h.y], by simp [World.cell?, h.y], h⟩
theorem pq {w : World} {a b c d : Int} {wx : World} (h : PQ w a b c d wx) : PG w a b c d wx := h.2.2.2.2
set_option maxRecDepth 100000 in
set_option maxHeartbeats 4000000 in
theorem compare_gr (a b c d : Int) (w : World) :
    Calls Tryz.prog 42 #[C a b, C c d] w fun e w' => e = .returned (.int .i64 (cmpC a b c d)) ∧ Gr w w' := by
  have hS := PG.start w a b c d
  rw [← cmpC_or]
  have HP : Hid (∀ x y wx, Calls Tryz.prog 60 #[.int .i64 x, .int .i64 y] wx fun e w' => e = .returned (.int .i64 (cmpI x y)) ∧ Gr wx w') := fun x y wx => (cmpInt_any x y wx).mono (fun e w' h => by obtain ⟨rfl, rfl⟩ := h; exact ⟨rfl, Gr.refl _⟩)
  have HO : Hid (∀ (p q : Int) (wx : World), Calls Tryz.prog 59 #[.slice (some ⟨wx.heap.size, 0, none⟩) 2 2] (wx.alloc (.cells #[.int .i64 p, .int .i64 q] 3)) fun e w' => e = .returned (.int .i64 (orI p q)) ∧ Gr (wx.alloc (.cells #[.int .i64 p, .int .i64 q] 3)) w') := fun p q wx => (or_any p q wx.heap.size _ (heap_alloc_new _ _)).mono (fun e w' h => by obtain ⟨rfl, rfl⟩ := h; exact ⟨rfl, Gr.refl _⟩)
  go_enter Tryz.func42, Tryz.ntmps42
  go_wp2_with fail
  generalize (w.alloc (.cells #[.int .i64 a, .int .i64 b] 43)).alloc (.cells #[.int .i64 c, .int .i64 d] 43) = W at *
  have h0d := (hS.next (Gr.refl _).drew).opened
  obtain ⟨y0, y1, y2, y3, -⟩ := hS.opened
  go_region_held3 (fun wx => PQ w a b c d wx) (first | exact h0d | exact ((pq (by assumption)).next (by assumption)).opened | exact ((pq (by assumption)).next ((Gr.refl _).alloc _)).opened) (first | (go_at_call 60; refine (HP.out _ _ _).mono ?_; rintro e w1 ⟨rfl, hb1⟩) | (go_at_call 59; refine (HO.out _ _ _).mono ?_; rintro e w3 ⟨rfl, hb3⟩; have hk3 := (pq (by assumption)).next hb3))
  all_goals
    go_wp2_with fail
    go_ret
    exact ⟨rfl, hk3.gr⟩
end Go.Proofs.YtomgjjngkffbbaaGreatDoor.ps
namespace Go.Proofs.YtomgjjngkffbbaaGreatDoor.fw
open Go Go.RowKit Go.Sort Go.Maps Go.Shelf
instance (x y : Tr) : Decidable (ltT x y) := by unfold ltT; infer_instance
def cf39 (x y : Tr) : Int := ps.cmpC x.c x.r y.c y.r
theorem lt39 (x y : Tr) : ltOf cf39 x y = decide (ltT x y) := by
  have := ps.lt_iff (x := ⟨x.c, x.r, nul⟩) (c := y.c) (r := y.r)
  show ps.lt ⟨x.c, x.r, nul⟩ y.c y.r = _
  rw [Bool.eq_iff_iff, this, decide_eq_true_eq]
  rfl
theorem swo39 : SWO (ltOf cf39) where
  irrefl x := by rw [lt39, decide_eq_false_iff_not]; unfold ltT; omega
  trans x y z h1 h2 := by rw [lt39, decide_eq_true_eq] at *; unfold ltT at *; omega
  ntrans x y z h1 h2 := by rw [lt39, decide_eq_false_iff_not] at *; unfold ltT at *; omega
theorem lays39 [Inhabited Tr] (blk off size : Nat) (w : World) : CmpLays Tryz.prog 42 #[] cr2 2 cf39 blk off size w :=
  fun _ _ _ _ x y => ps.compare_gr x.c x.r y.c y.r _
theorem below_sorted {α : Type} [Inhabited α] (enc : α → List Value) (k : Nat) (w : World) (blk off m : Nat) (d : Array α) (os : Array Obj) {base : Nat} (h : base ≤ blk) (hw : base ≤ w.heap.size) : Below base w (sortWorldK enc k w blk off m d os) := by
  refine ⟨rfl, rfl, rfl, size_sortWorldK_c enc k w blk off m d os, fun i hi => ?_⟩
  unfold sortWorldK putRowK putRow mapBlock Go.Sort.ahead grow
  have hs : i < w.heap.size := Nat.lt_of_lt_of_le hi hw
  simp only
  rw [Array.getElem?_append_left (by simpa using hs), Array.getElem?_modify, if_neg (by omega)]
theorem PermIn_list {α : Type} [Inhabited α] {d d' : Array α} (h : PermIn 0 d.size d d') : d.toList.Perm d'.toList := by
  have h2 := h.2.2
  rw [Array.extract_size, show d.size = d'.size from h.1.symm, Array.extract_size] at h2
  exact h2.symm
theorem get_bang {α : Type} [Inhabited α] {l : List α} {i : Nat} (h : i < l.length) : l[i]? = some l[i]! := by
  rw [List.getElem?_eq_getElem h, getElem!_pos l i h]
theorem crF_len (xs : List Tr) : (crF xs).length = xs.length * 2 := by
  induction xs with
  | nil => rfl
  | cons x l ih => unfold crF at ih ⊢; rw [List.flatMap_cons, List.length_append, ih, List.length_cons]; simp; omega
theorem crF_one (xs : List Tr) : ∀ u ∈ crF xs, u.oneCell' = true := by
  intro u hu
  unfold crF at hu
  rw [List.mem_flatMap] at hu
  obtain ⟨x, -, hx⟩ := hu
  simp at hx
  rcases hx with rfl | rfl <;> rfl
theorem crF_at {xs : List Tr} {i : Nat} {x : Tr} (h : xs[i]? = some x) {j : Nat} {v : Value} (hv : (cr2 x)[j]? = some v) : (crF xs)[i * 2 + j]? = some v := by
  have hj : j < 2 := (List.getElem?_eq_some_iff.1 hv).1
  induction xs generalizing i with
  | nil => simp at h
  | cons y l ih =>
    have hy : (cr2 y).length = 2 := rfl
    unfold crF
    rw [List.flatMap_cons]
    cases i with
    | zero =>
      simp at h
      subst h
      rw [Nat.zero_mul, Nat.zero_add, List.getElem?_append_left (by omega)]
      exact hv
    | succ i =>
      rw [List.getElem?_append_right (by omega), show (i + 1) * 2 + j - (cr2 y).length = i * 2 + j from by omega]
      exact ih (by simpa using h)
/-- A list of cells lies at an address. -/
def CM (w : World) (p : Option Addr) (xs : List Tr) : Prop := xs = [] ∨ ∃ g o, p = some ⟨g, o, none⟩ ∧ g < w.heap.size ∧ ∀ (t : Nat) u, (crF xs)[t]? = some u → w.cell? ⟨g, o + t, none⟩ = some u
theorem CM.below {w w' : World} {p : Option Addr} {xs : List Tr} (h : CM w p xs) (hb : Bw w w') : CM w' p xs := by
  rcases h with h | ⟨g, o, rfl, hg, hc⟩
  · exact .inl h
  · exact .inr ⟨g, o, rfl, Nat.lt_of_lt_of_le hg hb.size, fun t u hu => by rw [hb.cell (p := ⟨g, _, none⟩) hg]; exact hc t u hu⟩
theorem CM.at {w : World} {p : Option Addr} {xs : List Tr} (h : CM w p xs) {i : Nat} {x : Tr} (hx : xs[i]? = some x) : ∃ g o, p = some ⟨g, o, none⟩ ∧ g < w.heap.size ∧ w.cell? ⟨g, o + i * 2, none⟩ = some (.int .i64 x.c) ∧ w.cell? ⟨g, o + i * 2 + 1, none⟩ = some (.int .i64 x.r) := by
  rcases h with rfl | ⟨g, o, rfl, hg, hc⟩
  · simp at hx
  · have h0 := hc _ _ (crF_at hx (j := 0) rfl)
    have h1 := hc _ _ (crF_at hx (j := 1) rfl)
    rw [Nat.add_zero] at h0
    rw [← Nat.add_assoc] at h1
    exact ⟨g, o, rfl, hg, h0, h1⟩
/-- A list of one's own lies somewhere. -/
theorem crown_shape {w : World} {base : Nat} {v : Value} {xs : List Tr} (h : w.ownsRow base 43 2 v xs.length (crF xs)) : ∃ p c, v = .slice p xs.length c ∧ CM w p xs := by
  rcases h.2 with ⟨rfl, h0⟩ | ⟨g, cap, cur, rfl, -, hg, hc, -, hs, ht⟩
  · exact ⟨none, 0, by rw [h0], .inl (List.length_eq_zero_iff.1 h0)⟩
  · refine ⟨_, _, rfl, .inr ⟨g, 0, rfl, fm.lt_blk hg, fun t u hu => ?_⟩⟩
    rw [← ht, List.getElem?_take] at hu
    split at hu
    · simp [World.cell?, hg]; simpa using hu
    · cases hu
/-- Whoever sorted them so, it is the same list. -/
theorem sortedT_is {l l' : List Tr} (hs0 : l.Pairwise ltT) (hp : l.Perm l') (hs : ∀ (i j : Nat) (x y : Tr), i < j → l'[i]? = some x → l'[j]? = some y → ¬ ltT y x) : l' = l := by
  have hd' : l'.Pairwise fun x y => ¬ (x.c = y.c ∧ x.r = y.r) := (hp.pairwise_iff (R := fun x y : Tr => ¬ (x.c = y.c ∧ x.r = y.r)) (fun {_ _} h e => h ⟨e.1.symm, e.2.symm⟩)).1 (hs0.imp fun {x y} h => by unfold ltT at h; omega)
  refine List.Perm.eq_of_pairwise (le := ltT) (fun x y _ _ h1 h2 => ?_) ?_ hs0 hp.symm
  · unfold ltT at h1 h2
    omega
  · refine List.pairwise_iff_getElem.2 (fun i j hi hj hij => ?_)
    have h1 := hs i j l'[i] l'[j] hij (List.getElem?_eq_getElem hi) (List.getElem?_eq_getElem hj)
    have h2 := List.pairwise_iff_getElem.1 hd' i j hi hj hij
    unfold ltT at h1 ⊢
    omega
set_option maxHeartbeats 1000000 in
theorem sortF_any (v : Value) (l : List Tr) (base : Nat) (w : World) (hown : w.ownsRow base 43 2 v l.length (crF l)) (hbase : base ≤ w.heap.size) {xs : List Tr} (hd : xs.Pairwise ltT) (hpx : l.Perm xs) (hl : l.length ≤ 1000) :
    Calls Tryz.prog 57 #[v, .func (.func 42) #[] #[]] w fun e w' => e = .returned (.tuple #[]) ∧ (∃ p c, v = .slice p l.length c ∧ CM w' p xs) ∧ Below base w w' := by
  haveI : Inhabited Tr := ⟨⟨0, 0, nul, nul, nul⟩⟩
  have hsh := crown_shape hown
  rcases hown.2 with ⟨rfl, h0⟩ | ⟨g, cap, cur, rfl, hbg, hg, hcap, hm, hz, ht⟩
  · have hcon := AnyF.slices_SortFunc_none Tryz.sortV none 0 (.func (.func 42) #[] #[]) w
    change Calls Tryz.prog 57 _ _ _ at hcon
    refine hcon.mono ?_
    rintro e w' ⟨rfl, rfl⟩
    have e0 : l = [] := List.length_eq_zero_iff.1 h0
    subst e0
    have e1 : xs = [] := List.length_eq_zero_iff.1 (by rw [← hpx.length_eq]; rfl)
    exact ⟨rfl, ⟨none, 0, rfl, .inl e1⟩, Below.refl _ _⟩
  · obtain ⟨p, c, e, hM⟩ := hsh
    injection e with e1 _ e3
    subst e1 e3
    have hlt := fm.lt_blk hg
    have hcell : ∀ (t : Nat) u, (crF l)[t]? = some u → w.cell? ⟨g, t, none⟩ = some u := by
      rcases hM with hM | ⟨g', o', e, -, h3⟩
      · intro t u hu; rw [hM] at hu; simp [crF] at hu
      · injection e with e; injection e with e1 e2; subst e1 e2
        intro t u hu
        have := h3 t u hu
        rwa [Nat.zero_add] at this
    have hH : HoldsK cr2 2 w g 0 l.toArray := by
      intro j hj
      rw [size_flatK] at hj
      have hj' : j < l.length * 2 := by simpa using hj
      have hi : j / 2 < l.length := by omega
      refine ⟨?_, by simp [World.frozen?, hg]⟩
      rw [get_flatK cr2 2 l.toArray j hj, Nat.zero_add]
      refine hcell j _ ?_
      have hx : l[j / 2]? = some l[j / 2] := List.getElem?_eq_getElem hi
      have hj3 : j % 2 < 2 := Nat.mod_lt _ (by decide)
      have hv : (cr2 l[j / 2])[j % 2]? = some (cr2 l[j / 2])[j % 2]! := get_bang (show j % 2 < (cr2 l[j / 2]).length from hj3)
      have := crF_at hx hv
      rw [show j / 2 * 2 + j % 2 = j by omega] at this
      rw [this]
      have e5 : l.toArray[j / 2]! = l[j / 2] := by rw [getElem!_pos _ _ (by simpa using hi)]; simp
      rw [e5]
      rfl
    have hcon := AnyQ.slices_SortFunc Tryz.sortV 2 Tryz.isAgg43 Tryz.sizeOf43 cr2 (fun _ => rfl) (fun x v hv => crF_one [x] v (by simpa [crF] using hv)) cf39 swo39 42 #[] g 0 cap l.toArray w (enters_of Tryz.func42 (by kernel_rfl) rfl) (lays39 g 0 _ w) hH hlt (by simp; omega)
    change Calls Tryz.prog 57 _ _ _ at hcon
    have e6 : l.toArray.size = l.length := by simp
    rw [e6] at hcon
    refine hcon.mono ?_
    rintro e w' ⟨rfl, d', n, os, hp, hs, rfl⟩
    rw [← e6] at hp hs
    have hsz : d'.size = l.length := by have := hp.1; simpa using this
    have hperm : l.Perm d'.toList := by have := PermIn_list hp; simpa using this
    have hL : d'.toList = xs := by
      refine sortedT_is hd (hpx.symm.trans hperm) (fun i j x y hij hx hy => ?_)
      have hj := (List.getElem?_eq_some_iff.1 hy).1
      have hj' : j < d'.size := by simpa using hj
      have h1 := hs i j (Nat.zero_le _) hij (by rw [hsz] at hj'; simpa using hj')
      have ex : d'[i]! = x := by
        rw [getElem!_pos _ i (by omega)]
        have := (List.getElem?_eq_some_iff.1 hx).2
        simpa using this
      have ey : d'[j]! = y := by
        rw [getElem!_pos _ j hj']
        have := (List.getElem?_eq_some_iff.1 hy).2
        simpa using this
      rw [ex, ey, lt39, decide_eq_false_iff_not] at h1
      exact h1
    refine ⟨rfl, ⟨_, _, rfl, ?_⟩, below_sorted cr2 2 w g 0 n d' os hbg hbase⟩
    have hH' : HoldsK cr2 2 (sortWorldK cr2 2 w g 0 n d' os) g 0 d' := holdsK_sortWorldK cr2 2 w g 0 n l.toArray d' os hlt hH (by simpa using hsz)
    refine .inr ⟨g, 0, rfl, lt_sortWorldK cr2 2 w g 0 n d' os hlt, fun t u hu => ?_⟩
    rw [← hL] at hu
    have htl := (List.getElem?_eq_some_iff.1 hu).1
    rw [crF_len] at htl
    have hi : t / 2 < d'.size := by simp at htl; omega
    have hc := (HoldsK.cell hH' hi (c := t % 2) (Nat.mod_lt _ (by decide))).1
    rw [show 0 + t / 2 * 2 + t % 2 = 0 + t by omega] at hc
    rw [hc]
    have hx : d'.toList[t / 2]? = some d'[t / 2]! := by rw [getElem!_pos d' (t / 2) hi]; simp
    have hj3 : t % 2 < 2 := Nat.mod_lt _ (by decide)
    have hv : (cr2 d'[t / 2]!)[t % 2]? = some (cr2 d'[t / 2]!)[t % 2]! := get_bang (show t % 2 < (cr2 d'[t / 2]!).length from hj3)
    have := crF_at hx hv
    rw [show t / 2 * 2 + t % 2 = t by omega, hu] at this
    exact this.symm
set_option maxHeartbeats 2000000 in
/-- slices.SortedFunc(maps.Values(m), ..): the map's cells with their texts, as they stand. -/
theorem sortedFunc_any (b : Nat) (xs : List Tr) (hl : xs.length ≤ 1000) (hs : xs.Pairwise ltT) (Bm : Nat) (w : World) (hBm : Bm < w.heap.size) (hm : w.cell? ⟨Bm, 0, none⟩ = some (.map (some b))) (hM : MT w b xs) :
    Calls Tryz.prog 40 #[.func (.func 58) #[] #[.pointer (some ⟨Bm, 0, none⟩)], .func (.func 42) #[] #[]] w fun e w' => (∃ p c, e = .returned (.slice p xs.length c) ∧ CM w' p xs) ∧ Bw w w' := by
  have HC : Hid (Calls Tryz.prog 56 #[.func (.func 58) #[] #[.pointer (some ⟨Bm, 0, none⟩)]] w fun e w' => ∃ (v : Value) (ss : List Tr), e = .returned v ∧ ss.Perm xs ∧ w'.ownsRow w.heap.size 43 2 v ss.length (crF ss) ∧ Below w.heap.size w w') := collect_any b xs hl Bm w hBm hm hM
  have HS : Hid (xs.Pairwise ltT) := hs
  clear hm hM hs
  go_enter Tryz.func40, Tryz.ntmps40
  go_upto_region 2 with (first | (go_at_call 56; refine HC.out.mono ?_; rintro e w1 ⟨v, ss, rfl, hp, ho, hb⟩))
  have HSo : Hid (Calls Tryz.prog 57 #[v, .func (.func 42) #[] #[]] w1 fun e w' => e = .returned (.tuple #[]) ∧ (∃ p c, v = .slice p ss.length c ∧ CM w' p xs) ∧ Below w.heap.size w1 w') := sortF_any v ss w.heap.size w1 ho hb.size HS.out hp (by rw [hp.length_eq]; exact hl)
  have HB1 : Hid (Bw w w1) := hb
  have HLn : Hid (ss.length = xs.length) := hp.length_eq
  clear hp ho hb HC
  go_wp2_with (first | (go_at_call 57; refine HSo.out.mono ?_; rintro e w2 ⟨rfl, ⟨p, c, rfl, hfm⟩, hb2⟩))
  go_ret
  exact ⟨⟨p, c, by rw [← HLn.out]; rfl, hfm⟩, HB1.out.trans hb2⟩
set_option maxHeartbeats 2000000 in
theorem cells_any (b : Nat) (xs : List Tr) (hl : xs.length ≤ 1000) (hs : xs.Pairwise ltT) (w : World) (hM : MT w b xs) :
    Calls Tryz.prog 28 #[.map (some b)] w fun e w' => (∃ p c, e = .returned (.slice p xs.length c) ∧ CM w' p xs) ∧ Bw w w' := by
  have HV : Hid (Calls Tryz.prog 41 #[.map (some b)] w fun e w' => e = .returned (.func (.func 58) #[] #[.pointer (some ⟨w.heap.size, 0, none⟩)]) ∧ w' = w.alloc (.cells #[.map (some b)] 57)) := (callsIn_wide (n := 3)).1 (keys_in Fence.wide 3 trivial rfl (some b) w)
  have HSo := sortedFunc_any b xs hl hs w.heap.size (w.alloc (.cells #[.map (some b)] 57)) (by simp) (cell_of_box_a (heap_alloc_new w _)).1 (hM.kept (World.grownBy_alloc _ _ none) (by simp))
  have HS2 : Hid (Calls Tryz.prog 40 #[.func (.func 58) #[] #[.pointer (some ⟨w.heap.size, 0, none⟩)], .func (.func 42) #[] #[]] (w.alloc (.cells #[.map (some b)] 57)) fun e w' => (∃ p c, e = .returned (.slice p xs.length c) ∧ CM w' p xs) ∧ Bw (w.alloc (.cells #[.map (some b)] 57)) w') := HSo
  clear HSo hM hs
  go_enter Tryz.func28, Tryz.ntmps28
  go_wp2_with (first | (go_at_call 41; refine HV.out.mono ?_; rintro e w1 ⟨rfl, rfl⟩) | (go_at_call 40; refine HS2.out.mono ?_; rintro e w2 ⟨⟨p, c, rfl, hfm⟩, hb2⟩))
  go_ret
  exact ⟨⟨p, c, rfl, hfm⟩, (Bw.al w _).tr hb2⟩
end Go.Proofs.YtomgjjngkffbbaaGreatDoor.fw
