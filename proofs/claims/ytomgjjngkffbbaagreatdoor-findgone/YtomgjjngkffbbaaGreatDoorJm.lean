
/- A list of cells with their texts, and a list of cells beside it, that grow. Conditions: as each theorem says. -/
import Derived.Test.YtomgjjngkffbbaaGreatDoorZa
import Derived.Test.YtomgjjngkffbbaaGreatDoorFwa
import Derived.BigQuiet
import Derived.Laws.StructEq
import Derived.Deep.WholeRow
import Derived.Deep.MidRow
import Derived.Test.YtomgjjngkffbbaaGreatDoorYb
import Derived.Maps.OwnIn
import Derived.Sort.MapsRangeIn
import Derived.DeepKeys4
import Derived.Shelf.SlIter.Collect
import Derived.RangeFuncMany
import Derived.RangeFuncLeaves
import Derived.WalkKit
import Derived.OwnWalkIn
import Derived.TacticsInMore
import Derived.RegionIn
import Derived.LoopNIn
import Derived.LoopIn
import Derived.Shelf.Abstract
import Derived.Shelf.AbstractIn
import Derived.Test.YtomgjjngkffbbaaGreatDoorSrt
import Derived.Test.YtomgjjngkffbbaaGreatDoorZd
import Derived.Deep.CutBlock

/- Merge, the plain side: a sheet is what its texts are; what is another one in a second sheet; a sheet with changes; two hands. Names no program beside Za. -/
namespace Go.Proofs.YtomgjjngkffbbaaGreatDoor.ps
theorem txt_nil (c r : Int) : txt [] c r = nul := rfl
theorem txt_cons (x : Fl) (l : List Fl) (c r : Int) : txt (x :: l) c r = if at' x c r = true then x.s else txt l c r := rfl
theorem txt_put (f : Fl) (c r : Int) : txt (put f) c r = if at' f c r = true then f.s else nul := by
  unfold put
  split
  · rename_i h
    rw [txt_nil, size_nul h]
    split <;> rfl
  · rfl
theorem txt_app_put (f : Fl) (l : List Fl) (c r : Int) (h : at' f c r = true → txt l c r = nul) : txt (put f ++ l) c r = if at' f c r = true then f.s else txt l c r := by
  unfold put
  split
  · rename_i h0
    rw [List.nil_append]
    split
    · rename_i h1
      rw [h h1, size_nul h0]
    · rfl
  · rfl
/-- The text of a cell, where another one was changed or this one. -/
theorem txt_wt {l : List Fl} (hs : Srt l) (f : Fl) (c r : Int) : txt (wt l f) c r = if f.c = c ∧ f.r = r then f.s else txt l c r := by
  have e : (at' f c r = true) ↔ (f.c = c ∧ f.r = r) := at_iff
  simp only [← e]
  induction l with
  | nil => exact txt_put f c r
  | cons x l ih =>
    have hs' := List.pairwise_cons.1 hs
    by_cases h1 : lt x f.c f.r = true
    · rw [show wt (x :: l) f = x :: wt l f by show (if _ then _ else _) = _; rw [if_pos h1], txt_cons, txt_cons, ih hs'.2]
      by_cases h2 : at' x c r = true
      · rw [if_pos h2, if_pos h2, if_neg]
        rw [at_iff] at h2 ⊢
        rw [lt_iff] at h1
        omega
      · rw [if_neg h2, if_neg h2]
    · by_cases h2 : at' x f.c f.r = true
      · rw [show wt (x :: l) f = put f ++ l by show (if _ then _ else _) = _; rw [if_neg h1, if_pos h2]]
        have h3 : at' f c r = true → txt l c r = nul := fun h => txt_none fun y hy => by
          have := hs'.1 y hy
          rw [at_no]
          rw [lt_iff] at this
          rw [at_iff] at h h2
          omega
        rw [txt_app_put f l c r h3, txt_cons]
        by_cases h4 : at' f c r = true
        · rw [if_pos h4, if_pos h4]
        · rw [if_neg h4, if_neg h4, if_neg]
          rw [at_iff] at h4 h2 ⊢
          omega
      · rw [show wt (x :: l) f = put f ++ x :: l by show (if _ then _ else _) = _; rw [if_neg h1, if_neg h2]]
        refine txt_app_put f (x :: l) c r fun h => txt_none fun y hy => ?_
        rw [at_no]
        rw [lt_iff] at h1
        rw [at_iff] at h h2
        rcases List.mem_cons.1 hy with rfl | hy
        · omega
        · have := hs'.1 y hy
          rw [lt_iff] at this
          omega
theorem size_of_ne {s : ByteArray} (h : s.size ≠ 0) : s ≠ nul := fun e => h (by rw [e]; rfl)
/-- A sheet is what its texts are. -/
theorem srt_ext {a b : List Fl} (ha : Srt a) (ga : Ful a) (hb : Srt b) (gb : Ful b) (h : ∀ c r, txt a c r = txt b c r) : a = b := by
  induction a generalizing b with
  | nil =>
    cases b with
    | nil => rfl
    | cons y b =>
      have h1 := txt_at hb (i := 0) (x := y) rfl
      rw [← h, txt_nil] at h1
      exact absurd h1.symm (size_of_ne (gb y (by simp)))
  | cons x a ih =>
    cases b with
    | nil =>
      have h1 := txt_at ha (i := 0) (x := x) rfl
      rw [h, txt_nil] at h1
      exact absurd h1.symm (size_of_ne (ga x (by simp)))
    | cons y b =>
      have ha' := List.pairwise_cons.1 ha
      have hb' := List.pairwise_cons.1 hb
      have h1 := txt_at ha (i := 0) (x := x) rfl
      have h2 := txt_at hb (i := 0) (x := y) rfl
      have hxy : x.c = y.c ∧ x.r = y.r := by
        refine Classical.byContradiction fun hn => ?_
        by_cases hl : lt x y.c y.r = true
        · refine absurd (h1.symm.trans ((h _ _).trans (txt_none fun z hz => ?_))) (size_of_ne (ga x (by simp)))
          rw [at_no]
          rw [lt_iff] at hl
          rcases List.mem_cons.1 hz with rfl | hz
          · omega
          · have := hb'.1 z hz
            rw [lt_iff] at this
            omega
        · refine absurd (h2.symm.trans ((h _ _).symm.trans (txt_none fun z hz => ?_))) (size_of_ne (gb y (by simp)))
          rw [at_no]
          rw [lt_iff] at hl
          rcases List.mem_cons.1 hz with rfl | hz
          · omega
          · have := ha'.1 z hz
            rw [lt_iff] at this
            omega
      have hs : x.s = y.s := by rw [← h1, ← h2, h, hxy.1, hxy.2]
      have e : x = y := by
        obtain ⟨c, r, s⟩ := x
        obtain ⟨c', r', s'⟩ := y
        simp only at hxy hs
        rw [hxy.1, hxy.2, hs]
      subst e
      rw [ih ha'.2 (fun z hz => ga z (by simp [hz])) hb'.2 (fun z hz => gb z (by simp [hz])) fun c r => ?_]
      by_cases h3 : at' x c r = true
      · have hh : ∀ l : List Fl, (∀ z ∈ l, lt x z.c z.r = true) → txt l c r = nul := fun l hl => txt_none fun z hz => by
          have := hl z hz
          rw [at_no]
          rw [lt_iff] at this
          rw [at_iff] at h3
          omega
        rw [hh a ha'.1, hh b hb'.1]
      · have := h c r
        rwa [txt_cons, txt_cons, if_neg h3, if_neg h3] at this
/-- The cells as they stand, by number. -/
def kc (t : Nat) : Int := ((t % 26 : Nat) : Int) + 1
def kr (t : Nat) : Int := ((t / 26 : Nat) : Int) + 1
def ne2 (a b : List Fl) (t : Nat) : Bool := decide (txt a (kc t) (kr t) ≠ txt b (kc t) (kr t))
/-- What is another one in b than in a, of the first n cells. -/
def df (a b : List Fl) (n : Nat) : List Fl := ((List.range n).filter (ne2 a b)).map fun t => ⟨kc t, kr t, txt b (kc t) (kr t)⟩
theorem df_succ (a b : List Fl) (n : Nat) : df a b (n + 1) = df a b n ++ if txt a (kc n) (kr n) ≠ txt b (kc n) (kr n) then [⟨kc n, kr n, txt b (kc n) (kr n)⟩] else [] := by
  unfold df
  rw [List.range_succ, List.filter_append, List.map_append]
  congr 1
  by_cases h : txt a (kc n) (kr n) = txt b (kc n) (kr n) <;> simp [ne2, h]
theorem kk_lt {t u : Nat} (h : t < u) : kr t < kr u ∨ (kr t = kr u ∧ kc t < kc u) := by unfold kr kc; omega
theorem df_srt (a b : List Fl) (n : Nat) : Srt (df a b n) := by
  unfold df Srt
  rw [List.pairwise_map]
  refine List.Pairwise.filter _ ?_
  refine List.pairwise_lt_range.imp fun {t u} h => ?_
  rw [lt_iff]
  exact kk_lt h
theorem df_mem {a b : List Fl} {n : Nat} {x : Fl} (h : x ∈ df a b n) : ∃ t, t < n ∧ x = ⟨kc t, kr t, txt b (kc t) (kr t)⟩ ∧ txt a x.c x.r ≠ txt b x.c x.r := by
  obtain ⟨t, ht, rfl⟩ := List.mem_map.1 h
  obtain ⟨h1, h2⟩ := List.mem_filter.1 ht
  exact ⟨t, List.mem_range.1 h1, rfl, of_decide_eq_true h2⟩
theorem df_in {a b : List Fl} {n t : Nat} (ht : t < n) (h : txt a (kc t) (kr t) ≠ txt b (kc t) (kr t)) : (⟨kc t, kr t, txt b (kc t) (kr t)⟩ : Fl) ∈ df a b n :=
  List.mem_map.2 ⟨t, List.mem_filter.2 ⟨List.mem_range.2 ht, decide_eq_true h⟩, rfl⟩
theorem df_self (a : List Fl) (n : Nat) : df a a n = [] := by
  unfold df
  rw [List.map_eq_nil_iff, List.filter_eq_nil_iff]
  intro t _
  simp [ne2]
theorem df_turned (a b : List Fl) (n : Nat) : (df a b n).length = (df b a n).length := by
  unfold df
  rw [List.length_map, List.length_map]
  congr 1
  refine List.filter_congr fun t _ => ?_
  unfold ne2
  exact decide_eq_decide.2 ne_comm
/-- A sheet with changes. -/
def ap (l d : List Fl) : List Fl := d.foldl wt l
theorem ap_srt {l : List Fl} (d : List Fl) (h : Srt l) : Srt (ap l d) := by
  induction d generalizing l with
  | nil => exact h
  | cons x d ih => exact ih (wt_srt h x)
theorem ap_ful {l : List Fl} (d : List Fl) (h : Ful l) : Ful (ap l d) := by
  induction d generalizing l with
  | nil => exact h
  | cons x d ih => exact ih (wt_ful h x)
theorem ap_no {l d : List Fl} (hs : Srt l) {c r : Int} (h : ∀ x ∈ d, ¬ (x.c = c ∧ x.r = r)) : txt (ap l d) c r = txt l c r := by
  induction d generalizing l with
  | nil => rfl
  | cons x d ih =>
    show txt (ap (wt l x) d) c r = _
    rw [ih (wt_srt hs x) fun y hy => h y (by simp [hy]), txt_wt hs, if_neg (h x (by simp))]
theorem ap_yes {l d : List Fl} (hs : Srt l) (hd : Srt d) {x : Fl} (hx : x ∈ d) : txt (ap l d) x.c x.r = x.s := by
  induction d generalizing l with
  | nil => simp at hx
  | cons y d ih =>
    have hd' := List.pairwise_cons.1 hd
    show txt (ap (wt l y) d) x.c x.r = _
    rcases List.mem_cons.1 hx with rfl | hx
    · rw [ap_no (wt_srt hs x), txt_wt hs, if_pos ⟨rfl, rfl⟩]
      intro z hz
      have := hd'.1 z hz
      rw [lt_iff] at this
      omega
    · exact ih (wt_srt hs y) hd'.2 hx
/-- Every cell of it is one of the sheet's 26 columns and 99 rows. -/
def InG (l : List Fl) : Prop := ∀ x ∈ l, (1 ≤ x.c ∧ x.c ≤ 26) ∧ 1 ≤ x.r ∧ x.r ≤ 99
theorem ing_none {l : List Fl} (h : InG l) {c r : Int} (hn : ¬ ∃ t, t < 2574 ∧ kc t = c ∧ kr t = r) : txt l c r = nul := txt_none fun x hx => by
  rw [at_no]
  rintro ⟨rfl, rfl⟩
  have := h x hx
  refine hn ⟨(x.r.toNat - 1) * 26 + (x.c.toNat - 1), ?_, ?_, ?_⟩
  · omega
  · unfold kc; omega
  · unfold kr; omega
/-- The text of a cell, where the changes from b to c were done to l. -/
theorem txt_ap_dn {n : Nat} (hn9 : n = 2574) {l b c : List Fl} (hl : Srt l) (hb : InG b) (hc : InG c) (i j : Int) : txt (ap l (df b c n)) i j = if txt b i j ≠ txt c i j then txt c i j else txt l i j := by
  by_cases h : txt b i j = txt c i j
  · rw [if_neg (by simp [h])]
    refine ap_no hl ?_
    rintro x hx ⟨rfl, rfl⟩
    obtain ⟨t, -, -, h2⟩ := df_mem hx
    exact h2 h
  · rw [if_pos h]
    by_cases hn : ∃ t, t < 2574 ∧ kc t = i ∧ kr t = j
    · obtain ⟨t, ht, rfl, rfl⟩ := hn
      exact ap_yes hl (df_srt b c n) (df_in (hn9 ▸ ht) h)
    · exact absurd ((ing_none hb hn).trans (ing_none hc hn).symm) h
theorem txt_ap_df {l b c : List Fl} (hl : Srt l) (hb : InG b) (hc : InG c) (i j : Int) : txt (ap l (df b c 2574)) i j = if txt b i j ≠ txt c i j then txt c i j else txt l i j := txt_ap_dn rfl hl hb hc i j
/-- What differs makes one of the other; done again, it changes nothing. -/
theorem ap_df {l b c : List Fl} (hl : Srt l) (gl : Ful l) (hb : InG b) (hc : Srt c) (gc : Ful c) (ic : InG c) (h : ∀ i j, txt b i j = txt c i j → txt l i j = txt c i j) : ap l (df b c 2574) = c := by
  refine srt_ext (ap_srt _ hl) (ap_ful _ gl) hc gc fun i j => ?_
  rw [txt_ap_df hl hb ic]
  by_cases e : txt b i j = txt c i j
  · rw [if_neg (by simp [e]), h i j e]
  · rw [if_pos e]
theorem ap_diff {a b : List Fl} (ha : Srt a) (ga : Ful a) (ia : InG a) (hb : Srt b) (gb : Ful b) (ib : InG b) : ap a (df a b 2574) = b := ap_df ha ga ia hb gb ib fun _ _ h => h
theorem ap_again {b c : List Fl} (ib : InG b) (hc : Srt c) (gc : Ful c) (ic : InG c) : ap c (df b c 2574) = c := ap_df hc gc ib hc gc ic fun _ _ _ => rfl
/-- Two hands: what both made of a base. -/
def th (s a b : List Fl) : List Fl := ap b (df s a 2574)
def bo (s a b : List Fl) (t : Nat) : Bool := ne2 s a t && ne2 s b t && ne2 a b t
theorem th_first (s b : List Fl) : th s s b = b := by unfold th; rw [df_self]; rfl
theorem th_alike {s a : List Fl} (is : InG s) (ha : Srt a) (ga : Ful a) (ia : InG a) : th s a a = a := ap_again is ha ga ia
theorem bo_turned (s a b : List Fl) (t : Nat) : bo s a b t = bo s b a t := by
  unfold bo ne2
  by_cases h1 : txt s (kc t) (kr t) = txt a (kc t) (kr t) <;> by_cases h2 : txt s (kc t) (kr t) = txt b (kc t) (kr t) <;> simp [h1, h2, eq_comm]
/-- Whoever is first: the cells that are told are those in which the two differ. -/
theorem th_turned {s a b : List Fl} (is : InG s) (ha : Srt a) (ia : InG a) (hb : Srt b) (ib : InG b) (t : Nat) : ne2 (th s a b) (th s b a) t = bo s a b t := by
  unfold ne2 th bo ne2
  rw [txt_ap_df hb is ia, txt_ap_df ha is ib]
  by_cases h1 : txt s (kc t) (kr t) = txt a (kc t) (kr t) <;> by_cases h2 : txt s (kc t) (kr t) = txt b (kc t) (kr t) <;> simp_all
end Go.Proofs.YtomgjjngkffbbaaGreatDoor.ps

/- The document's Text and Diff. Conditions: as each theorem says. -/
namespace Go.Proofs.YtomgjjngkffbbaaGreatDoor.fw
open Go Go.RowKit Go.Sort
theorem eqInC (a b c d : Int) (m : Nat) (W : World) : (Op.equalIn (m + 2) 43 (.agg #[.int .i64 a, .int .i64 b]) (.agg #[.int .i64 c, .int .i64 d])).run Tryz.prog W = .ok (decide (a = c) && decide (b = d)) W := by
  have hS : Tryz.prog.underlying 43 = some (.struct (Tryz.prog.fieldsOf 43)) := by kernel_rfl
  have hp : Tryz.prog.stoodInHeld 43 = false := by kernel_rfl
  rw [run_equalIn_struct W (m + 1) 43 _ _ hS hp]
  simp only [Program.fieldsOf, Tryz.underlying43]
  by_cases h1 : a = c
  · by_cases h2 : b = d
    · subst h1 h2; simp [Op.eqFields, go_sem]
    · subst h1; simp [Op.eqFields, go_sem, h2]
  · simp [Op.eqFields, go_sem, h1]
theorem eqlC (a b c d : Int) (W : World) : (binOp BinOp.eql 43 (.agg #[.int .i64 a, .int .i64 b]) (.agg #[.int .i64 c, .int .i64 d])).run Tryz.prog W = .ok (.bool (decide (a = c) && decide (b = d))) W := by
  rw [run_eql_struct, show (10000 : Nat) = 9998 + 2 from rfl, eqInC]; rfl
/-- A list of cells with their texts that was handed in: what lies there, whatever comes. -/
def LV (w : World) (p : Option Addr) (xs : List ps.Fl) : Prop := ∀ wx, Bw w wx → ∀ (i : Nat) (x : ps.Fl), xs[i]? = some x → ∃ g o, p = some ⟨g, o, none⟩ ∧ g < wx.heap.size ∧ wx.cell? ⟨g, o + i * 3, none⟩ = some (.int .i64 x.c) ∧ wx.cell? ⟨g, o + i * 3 + 1, none⟩ = some (.int .i64 x.r) ∧ wx.cell? ⟨g, o + i * 3 + 2, none⟩ = some (.string x.s)
theorem LV.next {w wx : World} {p : Option Addr} {xs : List ps.Fl} (h : LV w p xs) (hb : Bw w wx) : LV wx p xs := fun _ h2 => h _ (hb.tr h2)
theorem dr_bw (w : World) (m : Nat) : Bw w (w.drewN m) := ⟨rfl, rfl, rfl, Nat.le_refl _, fun _ _ => rfl⟩
theorem cells2w {w : World} {b : Nat} {a0 a1 : Value} {t : TypeId} (h : w.heap[b]? = some (.cells #[a0, a1] t (0, 0))) : w.cell? ⟨b, 0, none⟩ = some a0 ∧ w.cell? ⟨b, 1, none⟩ = some a1 := by simp [World.cell?, h]
set_option maxRecDepth 1000000 in
set_option maxHeartbeats 4000000 in
theorem rtxt_any (p : Option Addr) (cp : Nat) (xs : List ps.Fl) (c r : Int) (w : World) (hx : LV w p xs) (hl : xs.length ≤ 3000) :
    Calls Tryz.prog 26 #[.slice p xs.length cp, .agg #[.int .i64 c, .int .i64 r]] w fun e w' => e = .returned (.string (ps.txt xs c r)) ∧ Bw w w' := by
  have HX : Hid (LV w p xs) := hx
  have HB0 : Hid (Bw w (w.alloc (.cells #[.int .i64 c, .int .i64 r] 43)) ∧ ∀ wx, Bw (w.alloc (.cells #[.int .i64 c, .int .i64 r] 43)) wx → wx.cell? ⟨w.heap.size, 0, none⟩ = some (.int .i64 c) ∧ wx.cell? ⟨w.heap.size, 1, none⟩ = some (.int .i64 r)) := by
    have hb : (w.alloc (.cells #[.int .i64 c, .int .i64 r] 43)).heap[w.heap.size]? = some (.cells #[.int .i64 c, .int .i64 r] 43) := heap_alloc_new w _
    exact ⟨Bw.al w _, fun wx h => cells2w ((h.block _ (Array.getElem?_eq_some_iff.1 hb).1).trans hb)⟩
  obtain ⟨n, hn⟩ : ∃ n, xs.length = n := ⟨_, rfl⟩
  have HN : Hid (xs.length = n) := hn
  rw [hn] at hl ⊢
  have hn9 : (n : Int) ≤ 3000 := by omega
  obtain ⟨R, hR⟩ : ∃ R, ps.txt xs c r = R := ⟨_, rfl⟩
  have HR : Hid (ps.txt xs c r = R) := hR
  rw [hR]
  clear hx hn hR
  go_enter Tryz.func26, Tryz.ntmps26
  go_wp2_with fail
  generalize w.alloc (.cells #[.int .i64 c, .int .i64 r] 43) = W0 at *
  go_loopw [5] (fun s5 wr => ∃ i : Nat, s5 = .int .i64 (i : Int) ∧ i ≤ n ∧ Hid (Bw W0 wr ∧ ps.txt (xs.drop i) c r = R)) (fun s5 _ => n - (intOf s5).toNat)
  case atStart => exact ⟨0, rfl, Nat.zero_le _, ⟨Below.refl _ _, by rw [List.drop_zero]; exact HR.out⟩⟩
  case round =>
    obtain ⟨i, rfl, hi, HI⟩ := hrel
    have hi0 : (0 : Int) ≤ (i : Int) := by omega
    by_cases hlt : i < n
    · have hlt' : (i : Int) < (n : Int) := by omega
      obtain ⟨x, hx⟩ : ∃ x, xs[i]? = some x := ⟨_, List.getElem?_eq_getElem (by rw [HN.out]; exact hlt)⟩
      have HXi : Hid (xs[i]? = some x) := hx
      have HD : Hid ((if ps.at' x c r = true then x.s else ps.txt (xs.drop (i + 1)) c r) = R) := by
        obtain ⟨h1, h2⟩ := List.getElem?_eq_some_iff.1 hx
        have := HI.out.2
        rw [List.drop_eq_getElem_cons h1, h2] at this
        exact this
      obtain ⟨g, o, rfl, -⟩ := HX.out _ (HB0.out.1.tr HI.out.1) i x hx
      have HC : Hid (∀ wx, Bw wr wx → (wx.cell? ⟨g, o + i * 3, none⟩ = some (.int .i64 x.c) ∧ wx.cell? ⟨g, o + i * 3 + 1, none⟩ = some (.int .i64 x.r) ∧ wx.cell? ⟨g, o + i * 3 + 2, none⟩ = some (.string x.s)) ∧ wx.cell? ⟨w.heap.size, 0, none⟩ = some (.int .i64 c) ∧ wx.cell? ⟨w.heap.size, 1, none⟩ = some (.int .i64 r)) := fun wx hb => by
        obtain ⟨g2, o2, e, -, h2⟩ := HX.out wx (HB0.out.1.tr (HI.out.1.tr hb)) i x HXi.out
        cases e
        exact ⟨h2, HB0.out.2 wx (HI.out.1.tr hb)⟩
      clear hx
      have z0 : ∀ j, (wr.drewN j).cell? ⟨g, o + i * 3, none⟩ = some (.int .i64 x.c) := fun j => (HC.out _ (dr_bw wr j)).1.1
      have z1 : ∀ j, (wr.drewN j).cell? ⟨g, o + i * 3 + 1, none⟩ = some (.int .i64 x.r) := fun j => (HC.out _ (dr_bw wr j)).1.2.1
      have z2 : ∀ j, (wr.drewN j).cell? ⟨g, o + i * 3 + 2, none⟩ = some (.string x.s) := fun j => (HC.out _ (dr_bw wr j)).1.2.2
      have y0 : ∀ j, (wr.drewN j).cell? ⟨w.heap.size, 0, none⟩ = some (.int .i64 c) := fun j => (HC.out _ (dr_bw wr j)).2.1
      have y1 : ∀ j, (wr.drewN j).cell? ⟨w.heap.size, 1, none⟩ = some (.int .i64 r) := fun j => (HC.out _ (dr_bw wr j)).2.2
      have e30 := fun W => eqlC x.c x.r c r W
      by_cases hat : ps.at' x c r = true
      · have hq : (decide (x.c = c) && decide (x.r = r)) = true := by
          have := ps.at_iff.1 hat
          simp [this.1, this.2]
        have HF : Hid (x.s = R) := by
          have := HD.out
          rw [if_pos hat] at this
          exact this
        rw [hq] at e30
        clear hat hq
        go_wp2_with fail
        go_quiet (fail)
        go_wp2_with fail
        exact bodyPost_ret (v := .string x.s) (by simp [results, Tryz.results26, go_sem]) rfl ⟨by rw [HF.out], HB0.out.1.tr (HI.out.1.tr (dr_bw _ _))⟩
      · have hq : (decide (x.c = c) && decide (x.r = r)) = false := by
          rw [ps.at_iff] at hat
          rcases Decidable.em (x.c = c) with h | h
          · rw [decide_eq_false fun h2 : x.r = r => hat ⟨h, h2⟩, Bool.and_false]
          · rw [decide_eq_false h, Bool.false_and]
        have HF : Hid (ps.txt (xs.drop (i + 1)) c r = R) := by
          have := HD.out
          rw [if_neg hat] at this
          exact this
        rw [hq] at e30
        clear hat hq
        go_wp2_with fail
        go_quiet (fail)
        go_wp2_with fail
        exact ⟨⟨i + 1, by simp, hlt, ⟨HI.out.1.tr (dr_bw _ _), HF.out⟩⟩, by simp [intOf]; omega⟩
    · have hlt' : ¬ (i : Int) < (n : Int) := by omega
      obtain rfl : i = n := by omega
      have HF : Hid (R = nul) := by
        have := HI.out.2
        rw [List.drop_of_length_le (by rw [HN.out]; exact Nat.le_refl _)] at this
        exact this.symm
      go_wp2_with fail
      exact bodyPost_ret (v := .string nul) (by simp [results, Tryz.results26, go_sem]) rfl ⟨by rw [HF.out], HB0.out.1.tr HI.out.1⟩
end Go.Proofs.YtomgjjngkffbbaaGreatDoor.fw

/- Lists of cells with their texts that grow. Nothing is walked here. Conditions: as each theorem says. -/
namespace Go.Proofs.YtomgjjngkffbbaaGreatDoor.fw
open Go.RowKit Go.Sort
def fl3w (x : ps.Fl) : List Value := [.int .i64 x.c, .int .i64 x.r, .string x.s]
/-- How an element of a list lies in cells. -/
structure EL (α : Type) where
  ty : TypeId
  k : Nat
  enc : α → List Value
  len : ∀ x, (enc x).length = k
  one : ∀ x, ∀ u ∈ enc x, u.oneCell' = true
def EL.cs {α : Type} (L : EL α) (l : List α) : List Value := l.flatMap L.enc
theorem EL.cs_len {α : Type} (L : EL α) (l : List α) : (L.cs l).length = l.length * L.k := by
  induction l with
  | nil => simp [EL.cs]
  | cons x l ih => unfold EL.cs at *; rw [List.flatMap_cons, List.length_append, ih, L.len, List.length_cons, Nat.succ_mul, Nat.add_comm]
theorem EL.cs_app {α : Type} (L : EL α) (l m : List α) : L.cs (l ++ m) = L.cs l ++ L.cs m := by unfold EL.cs; rw [List.flatMap_append]
theorem EL.cs_one {α : Type} (L : EL α) (x : α) : L.cs [x] = L.enc x := by simp [EL.cs]
theorem EL.cs_at {α : Type} (L : EL α) {l : List α} {i : Nat} {x : α} (h : l[i]? = some x) (j : Nat) (hj : j < L.k) : (L.cs l)[i * L.k + j]? = (L.enc x)[j]? := by
  induction l generalizing i with
  | nil => simp at h
  | cons y l ih =>
    have e : L.cs (y :: l) = L.enc y ++ L.cs l := by unfold EL.cs; rw [List.flatMap_cons]
    rw [e]
    cases i with
    | zero =>
      have e2 : y = x := by simpa using h
      subst e2
      rw [Nat.zero_mul, Nat.zero_add, List.getElem?_append_left (by rw [L.len]; exact hj)]
    | succ i =>
      have h' : l[i]? = some x := by simpa using h
      have e3 : (i + 1) * L.k + j = i * L.k + j + L.k := by rw [Nat.succ_mul]; omega
      rw [e3, List.getElem?_append_right (by rw [L.len]; omega), L.len, Nat.add_sub_cancel]
      exact ih h'
/-- A list of one's own, and all that stood stands. -/
structure RV {α : Type} (L : EL α) (w : World) (v : Value) (xs : List α) (wx : World) : Prop where
  own : wx.ownsRow w.heap.size L.ty L.k v xs.length (L.cs xs)
  below : Bw w wx
theorem RV.nil {α : Type} (L : EL α) (w : World) : RV L w (.slice none 0 0) [] w := ⟨⟨by simp [EL.cs], .inl ⟨rfl, rfl⟩⟩, Below.refl _ _⟩
theorem RV.next {α : Type} {L : EL α} {w : World} {v : Value} {xs : List α} {wx wy : World} (h : RV L w v xs wx) (hb : Bw wx wy) : RV L w v xs wy := ⟨own_next h.own hb, h.below.tr hb⟩
theorem RV.form {α : Type} {L : EL α} {w : World} {v : Value} {xs : List α} {wx : World} (h : RV L w v xs wx) : ∃ p c, v = .slice p xs.length c ∧ ((xs.length = 0 ∧ p = none ∧ c = 0) ∨ ∃ g, p = some ⟨g, 0, none⟩ ∧ xs.length ≤ c) := by
  rcases h.own.2 with ⟨rfl, h0⟩ | ⟨g, cap, cur, rfl, -, -, hc, -⟩
  · exact ⟨none, 0, by rw [h0], .inl ⟨h0, rfl, rfl⟩⟩
  · exact ⟨_, _, rfl, .inr ⟨g, rfl, hc⟩⟩
theorem RV.one {α : Type} {L : EL α} {w : World} {v : Value} {xs : List α} {wx : World} (h : RV L w v xs wx) (S : TypeId) {z : Value} {b : Nat} (hu : Tryz.prog.underlying S = some (.slice L.ty)) (hin : (Tryz.prog.info? L.ty).map (fun i => (i.zero, i.size, i.bytes)) = some (some z, L.k, b)) (hz : z.cells.size = L.k) (hk : 0 < L.k) (hl : (xs.length + 1) * b ≤ 140737488355328) (hm : xs.length + 1 ≤ 9223372036854775807) (y : α) (ys : Array Value) (hy : ys.toList = L.enc y) :
    ∃ g c w', (Builtin.append_ #[S, S] S #[v, .slice (some ⟨wx.heap.size, 0, none⟩) 1 1]).run Tryz.prog (wx.alloc (.cells ys L.ty)) = .ok (.slice (some ⟨g, 0, none⟩) (xs.length + 1) c) w' ∧ RV L w (.slice (some ⟨g, 0, none⟩) (xs.length + 1) c) (xs ++ [y]) w' := by
  obtain ⟨i0, hi, hz0, hz1, hz2⟩ := info_parts hin
  have hmax : maxLen = 9223372036854775807 := rfl
  have h1 := h.next (Bw.al wx (.cells ys L.ty))
  obtain ⟨g, c, w', r1, r2, r3, -, -⟩ := run_append_lies (P := Tryz.prog) (w := wx.alloc (.cells ys L.ty)) S S w.heap.size L.ty i0 z L.k b hu hi hz0 hz1 hz2 hz hk v xs.length (L.cs xs) h1.own ⟨wx.heap.size, 0, none⟩ 1 1 (L.enc y) (by rw [L.len, Nat.one_mul]) (by rw [← hy]; exact World.news_of_block (heap_alloc_new wx _)) (L.one y) (by decide) (by omega) hl h1.below.size _ rfl
  refine ⟨g, c, w', r1, ⟨?_, h1.below.grown r3 h1.below.size (fun q hq => (h1.own.lt q hq).1)⟩⟩
  rw [L.cs_app, L.cs_one, List.length_append]
  exact r2
/-- An element's cells. -/
theorem RV.at {α : Type} {L : EL α} {w : World} {v : Value} {xs : List α} {wx : World} (h : RV L w v xs wx) {i : Nat} {x : α} (hx : xs[i]? = some x) : ∃ g c, v = .slice (some ⟨g, 0, none⟩) xs.length c ∧ xs.length ≤ c ∧ g < wx.heap.size ∧ ∀ j u, (L.enc x)[j]? = some u → wx.cell? ⟨g, i * L.k + j, none⟩ = some u := by
  have hi : i < xs.length := (List.getElem?_eq_some_iff.1 hx).1
  rcases h.own.2 with ⟨rfl, h0⟩ | ⟨g, cap, cur, rfl, hb, hg, hc, hm, hz, ht⟩
  · omega
  · refine ⟨_, _, rfl, hc, (Array.getElem?_eq_some_iff.1 hg).1, fun j u hu => ?_⟩
    have hj : j < L.k := by
      have := (List.getElem?_eq_some_iff.1 hu).1
      rw [L.len] at this
      exact this
    have hlt : i * L.k + j < xs.length * L.k := by
      have : (i + 1) * L.k ≤ xs.length * L.k := Nat.mul_le_mul_right _ hi
      rw [Nat.succ_mul] at this
      omega
    have e : (cur.toList.take (xs.length * L.k))[i * L.k + j]? = (L.cs xs)[i * L.k + j]? := by rw [ht]
    rw [List.getElem?_take, if_pos hlt, Array.getElem?_toList, L.cs_at hx j hj, hu] at e
    simp only [World.cell?, hg]
    exact e
/-- How a cell with its text lies. -/
def fL : EL ps.Fl := ⟨45, 3, fl3w, fun _ => rfl, fun x u hu => by simp [fl3w] at hu; rcases hu with rfl | rfl | rfl <;> rfl⟩
theorem infoF : (Tryz.prog.info? 45).map (fun i => (i.zero, i.size, i.bytes)) = some (some (.agg #[.int .i64 0, .int .i64 0, .string nul]), 3, 32) := by kernel_rfl
theorem RV.fill {w : World} {v : Value} {xs : List ps.Fl} {wx : World} (h : RV fL w v xs wx) (hl : xs.length ≤ 10000) (c r : Int) (s : ByteArray) :
    ∃ g k w', (Builtin.append_ #[22, 22] 22 #[v, .slice (some ⟨wx.heap.size, 0, none⟩) 1 1]).run Tryz.prog (wx.alloc (.cells #[.int .i64 c, .int .i64 r, .string s] 45)) = .ok (.slice (some ⟨g, 0, none⟩) (xs.length + 1) k) w' ∧ RV fL w (.slice (some ⟨g, 0, none⟩) (xs.length + 1) k) (xs ++ [⟨c, r, s⟩]) w' :=
  h.one 22 (b := 32) Tryz.underlying22 infoF rfl (by decide) (by omega) (by omega) ⟨c, r, s⟩ _ rfl
end Go.Proofs.YtomgjjngkffbbaaGreatDoor.fw

/- The document's Diff. Conditions: as each theorem says. -/
namespace Go.Proofs.YtomgjjngkffbbaaGreatDoor.fw
open Go Go.RowKit Go.Sort
theorem kk_at {R C t : Nat} (hR : 1 ≤ R) (hC : 1 ≤ C) (hC2 : C ≤ 26) (ht : 26 * (R - 1) + (C - 1) = t) : ps.kc t = (C : Int) ∧ ps.kr t = (R : Int) := by
  unfold ps.kc ps.kr; omega
set_option maxRecDepth 1000000 in
set_option maxHeartbeats 8000000 in
theorem rdiff_any (p q : Option Addr) (cp cq : Nat) (a b : List ps.Fl) (w : World) (ha : LV w p a) (hb : LV w q b) (la : a.length ≤ 3000) (lb : b.length ≤ 3000) :
    Calls Tryz.prog 10 #[.slice p a.length cp, .slice q b.length cq] w fun e w' => ∃ v, e = .returned v ∧ RV fL w v (ps.df a b 2574) w' := by
  have HTa : Hid (∀ c r wx, Bw w wx → Calls Tryz.prog 26 #[.slice p a.length cp, .agg #[.int .i64 c, .int .i64 r]] wx fun e w' => e = .returned (.string (ps.txt a c r)) ∧ Bw wx w') := fun c r wx h => rtxt_any p cp a c r wx (ha.next h) la
  have HTb : Hid (∀ c r wx, Bw w wx → Calls Tryz.prog 26 #[.slice q b.length cq, .agg #[.int .i64 c, .int .i64 r]] wx fun e w' => e = .returned (.string (ps.txt b c r)) ∧ Bw wx w') := fun c r wx h => rtxt_any q cq b c r wx (hb.next h) lb
  clear ha hb la lb
  obtain ⟨na, hna⟩ : ∃ n, a.length = n := ⟨_, rfl⟩
  obtain ⟨nb, hnb⟩ : ∃ n, b.length = n := ⟨_, rfl⟩
  rw [hna] at HTa ⊢
  rw [hnb] at HTb ⊢
  clear hna hnb
  go_enter Tryz.func10, Tryz.ntmps10
  go_wp2_with fail
  go_loopw [5, 6] (fun s5 s6 wr => ∃ R : Nat, s6 = .int .i64 (R : Int) ∧ 1 ≤ R ∧ R ≤ 100 ∧ Hid (RV fL w s5 (ps.df a b (26 * (R - 1))) wr)) (fun _ s6 _ => 100 - (intOf s6).toNat)
  case atStart => exact ⟨1, rfl, by decide, by decide, RV.nil fL w⟩
  case round =>
    obtain ⟨R, rfl, hR1, hR2, HV⟩ := hrel
    have hR0 : (1 : Int) ≤ (R : Int) := by omega
    have hR9 : (R : Int) ≤ 100 := by omega
    by_cases hlt : R ≤ 99
    · have hlt' : (R : Int) ≤ 99 := by omega
      go_upto_block 1 with fail
      go_cut [5] (fun s5 wx => RV fL w s5 (ps.df a b (26 * R)) wx)
      case first =>
        go_wp2_with fail
        obtain ⟨w9, h9⟩ : ∃ x, x = wr := ⟨_, rfl⟩
        subst h9
        go_loopw [5, 7] (fun s5 s7 wr => ∃ C : Nat, s7 = .int .i64 (C : Int) ∧ 1 ≤ C ∧ C ≤ 27 ∧ Hid (RV fL w s5 (ps.df a b (26 * (R - 1) + (C - 1))) wr)) (fun _ s7 _ => 27 - (intOf s7).toNat)
        case atStart => exact ⟨1, rfl, by decide, by decide, HV.out⟩
        case round =>
          obtain ⟨C, rfl, hC1, hC2, HW⟩ := hrel
          have hC0 : (1 : Int) ≤ (C : Int) := by omega
          have hC9 : (C : Int) ≤ 27 := by omega
          by_cases hct : C ≤ 26
          · have hct' : (C : Int) ≤ 26 := by omega
            go_upto_region 9 with fail
            have HK : Hid (Bw wr (wr.alloc (.cells #[.int .i64 (C : Int), .int .i64 (R : Int)] 43)) ∧ ∀ wx, Bw (wr.alloc (.cells #[.int .i64 (C : Int), .int .i64 (R : Int)] 43)) wx → wx.cell? ⟨wr.heap.size, 0, none⟩ = some (.int .i64 (C : Int)) ∧ wx.cell? ⟨wr.heap.size, 1, none⟩ = some (.int .i64 (R : Int))) := by
              have hb : (wr.alloc (.cells #[.int .i64 (C : Int), .int .i64 (R : Int)] 43)).heap[wr.heap.size]? = some (.cells #[.int .i64 (C : Int), .int .i64 (R : Int)] 43) := heap_alloc_new wr _
              exact ⟨Bw.al wr _, fun wx h => cells2w ((h.block _ (Array.getElem?_eq_some_iff.1 hb).1).trans hb)⟩
            generalize wr.alloc (.cells #[.int .i64 (C : Int), .int .i64 (R : Int)] 43) = W1 at *
            obtain ⟨y0, y1⟩ := HK.out.2 W1 (Below.refl _ _)
            obtain ⟨X, hX⟩ : ∃ X, ps.txt a (C : Int) (R : Int) = X := ⟨_, rfl⟩
            obtain ⟨Y, hY⟩ : ∃ Y, ps.txt b (C : Int) (R : Int) = Y := ⟨_, rfl⟩
            have HX : Hid (ps.txt a (C : Int) (R : Int) = X ∧ ps.txt b (C : Int) (R : Int) = Y) := ⟨hX, hY⟩
            have HB1 : Hid (Bw w W1) := HW.out.below.tr HK.out.1
            have HTa1 : Hid (Calls Tryz.prog 26 #[.slice p na cp, .agg #[.int .i64 (C : Int), .int .i64 (R : Int)]] W1 fun e w' => e = .returned (.string X) ∧ Bw W1 w') := by
              have := HTa.out C R W1 HB1.out
              rw [hX] at this
              exact this
            have HTb1 : Hid (∀ wx, Bw w wx → Calls Tryz.prog 26 #[.slice q nb cq, .agg #[.int .i64 (C : Int), .int .i64 (R : Int)]] wx fun e w' => e = .returned (.string Y) ∧ Bw wx w') := fun wx h => by
              have := HTb.out C R wx h
              rw [hY] at this
              exact this
            clear hX hY HTa HTb
            go_upto_region 10 with (first | (go_at_call 26; refine HTa1.out.mono ?_; rintro e w2 ⟨rfl, hb2⟩))
            have HB2 : Hid (Bw W1 w2) := hb2
            clear y0 y1 hb2 HTa1
            obtain ⟨y0, y1⟩ := HK.out.2 w2 HB2.out
            go_upto_region 11 with (first | (go_at_call 26; refine (HTb1.out w2 (HB1.out.tr HB2.out)).mono ?_; rintro e w3 ⟨rfl, hb3⟩))
            have HB3 : Hid (Bw W1 w3) := HB2.out.tr hb3
            clear y0 y1 hb3 HTb1 HB2
            obtain ⟨y0, y1⟩ := HK.out.2 w3 HB3.out
            have HV3 : Hid (RV fL w u5 (ps.df a b (26 * (R - 1) + (C - 1))) w3) := HW.out.next (HK.out.1.tr HB3.out)
            have HD : Hid (ps.df a b (26 * (R - 1) + (C + 1 - 1)) = ps.df a b (26 * (R - 1) + (C - 1)) ++ if X ≠ Y then [⟨(C : Int), (R : Int), Y⟩] else []) := by
              show _ = _
              obtain ⟨t, ht⟩ : ∃ t, 26 * (R - 1) + (C - 1) = t := ⟨_, rfl⟩
              obtain ⟨k1, k2⟩ := kk_at hR1 hC1 hct ht
              rw [show 26 * (R - 1) + (C + 1 - 1) = t + 1 by omega, ht, ps.df_succ, k1, k2, HX.out.1, HX.out.2]
            by_cases hxy : X = Y
            · have HE : Hid (RV fL w u5 (ps.df a b (26 * (R - 1) + (C + 1 - 1))) w3) := by
                show RV _ _ _ _ _
                rw [HD.out, if_neg (by simp [hxy]), List.append_nil]
                exact HV3.out
              subst hxy
              go_wp2_with fail
              exact ⟨⟨C + 1, by simp, by omega, by omega, HE.out⟩, by simp [intOf]; omega⟩
            · have hq : (X.toList == Y.toList) = false := by
                rw [beq_eq_false_iff_ne]
                intro e
                rw [ByteArray.toList_eq, ByteArray.toList_eq] at e
                exact hxy (ByteArray.ext (Array.toList_inj.1 e))
              have hlen : (ps.df a b (26 * (R - 1) + (C - 1))).length ≤ 10000 := by
                have h1 : (ps.df a b (26 * (R - 1) + (C - 1))).length ≤ 26 * (R - 1) + (C - 1) := by
                  unfold ps.df
                  rw [List.length_map]
                  refine Nat.le_trans (List.length_filter_le _ _) ?_
                  rw [List.length_range]
                  exact Nat.le_refl _
                omega
              obtain ⟨g, k, w4, hr, hv⟩ := HV3.out.fill hlen (C : Int) (R : Int) Y
              have HR4 : Hid ((Builtin.append_ #[22, 22] 22 #[u5, .slice (some ⟨w3.heap.size, 0, none⟩) 1 1]).run Tryz.prog (w3.alloc (.cells #[.int .i64 (C : Int), .int .i64 (R : Int), .string Y] 45)) = .ok (.slice (some ⟨g, 0, none⟩) ((ps.df a b (26 * (R - 1) + (C - 1))).length + 1) k) w4) := hr
              have HE : Hid (RV fL w (.slice (some ⟨g, 0, none⟩) ((ps.df a b (26 * (R - 1) + (C - 1))).length + 1) k) (ps.df a b (26 * (R - 1) + (C + 1 - 1))) w4) := by
                show RV _ _ _ _ _
                rw [HD.out, if_pos hxy]
                exact hv
              generalize (ps.df a b (26 * (R - 1) + (C - 1))).length + 1 = m at HR4 HE
              clear hr hv hlen hxy HD
              go_wp2_with (first | (at_builtin; refine wpList_append_eq rfl _ _ 22 22 rfl _ _ _ _ rfl rfl HR4.out ?_))
              exact ⟨⟨C + 1, by simp, by omega, by omega, HE.out⟩, by simp [intOf]; omega⟩
          · have hct' : ¬ (C : Int) ≤ 26 := by omega
            have HE : Hid (RV fL w u5 (ps.df a b (26 * R)) wr) := by
              have := HW.out
              rw [show 26 * (R - 1) + (C - 1) = 26 * R by omega] at this
              exact this
            go_wp2_with fail
            go_meet
            case rel => exact HE.out
      case rest =>
      have HE : Hid (RV fL w _ (ps.df a b (26 * R)) wc) := hcut
      clear hcut
      apply_assumption
      go_wp2_with fail
      exact ⟨⟨R + 1, by simp, by omega, by omega, HE.out⟩, by simp [intOf]; omega⟩
    · have hlt' : ¬ (R : Int) ≤ 99 := by omega
      have HE : Hid (RV fL w u5 (ps.df a b 2574) wr) := by
        have := HV.out
        rw [show 26 * (R - 1) = 2574 by omega] at this
        exact this
      go_wp2_with fail
      exact bodyPost_ret (by simp [results, Tryz.results10, go_sem]) rfl ⟨_, rfl, HE.out⟩
end Go.Proofs.YtomgjjngkffbbaaGreatDoor.fw

/- What sheet.Check says of a cell with its text. Conditions: as each theorem says. -/
namespace Go.Proofs.YtomgjjngkffbbaaGreatDoor.ps
open Go.RowKit
open adr (C isC)
/-- What Check says of a cell with its text: a number that there is one of. -/
def SCk (f : Fl) (n : Int) : Prop := (f.s.size = 0 ∧ n = if isC f.c f.r = true then 0 else 1) ∨ (f.s.size ≠ 0 ∧ Told [f] n)
theorem SCk.one {f : Fl} {n m : Int} (h : SCk f n) (h' : SCk f m) : n = m := by
  rcases h with ⟨h1, h2⟩ | ⟨h1, h2⟩
  · rcases h' with ⟨g1, g2⟩ | ⟨g1, g2⟩
    · rw [h2, g2]
    · exact absurd h1 g1
  · rcases h' with ⟨g1, g2⟩ | ⟨g1, g2⟩
    · exact absurd g1 h1
    · exact h2.one g2
set_option maxHeartbeats 1600000 in
theorem scheck_any (f : Fl) (w : World) (hE : EnvP w) :
    Calls Tryz.prog 37 #[C f.c f.r, .string f.s] w fun e w' => (∃ t, e = .returned (errV t) ∧ SCk f t) ∧ Below w.heap.size w w' := by
  have hb0 : Below w.heap.size w (w.alloc (.cells #[.int .i64 f.c, .int .i64 f.r] 43)) := (Below.refl _ _).alloc (Nat.le_refl _) _
  have hb1 : Below w.heap.size w ((w.alloc (.cells #[.int .i64 f.c, .int .i64 f.r] 43)).alloc (.cells #[.int .i64 f.c, .int .i64 f.r, .string f.s] 45)) := hb0.alloc (by simp) _
  cases h0 : f.s.toList.isEmpty with
  | true =>
    have HE0 : Hid (f.s.size = 0) := emp_yes h0
    have HC : Hid (Calls Tryz.prog 45 #[C f.c f.r] (w.alloc (.cells #[.int .i64 f.c, .int .i64 f.r] 43)) fun e w' => (∃ v, e = .returned v ∧ ∃ t, v = errV t ∧ SCk f t) ∧ Below w.heap.size w w') := (adr.check_any f.c f.r _).mono (fun e w' ⟨e1, e2⟩ => ⟨⟨_, e1, if isC f.c f.r = true then 0 else 1, by cases isC f.c f.r <;> rfl, .inl ⟨HE0.out, rfl⟩⟩, bnext hb0 e2 hb0.size⟩)
    clear hE hb0 hb1
    go_enter Tryz.func37, Tryz.ntmps37
    go_wp2_with fail
    refine HC.out.mono ?_
    rintro e w1 ⟨⟨v, rfl, hv⟩, hb⟩
    go_wp2_with fail
    go_ret
    obtain ⟨t, rfl, ht⟩ := hv
    exact ⟨⟨t, rfl, ht⟩, hb⟩
  | false =>
    have HE0 : Hid (f.s.size ≠ 0) := emp_no h0
    have HC : Hid (Calls Tryz.prog 31 #[.slice (some ⟨w.heap.size + 1, 0, none⟩) 1 1] ((w.alloc (.cells #[.int .i64 f.c, .int .i64 f.r] 43)).alloc (.cells #[.int .i64 f.c, .int .i64 f.r, .string f.s] 45)) fun e w' => (∃ v, e = .returned v ∧ ∃ t, v = errV t ∧ SCk f t) ∧ Below w.heap.size w w') := (gcheck_any (some ⟨w.heap.size + 1, 0, none⟩) 1 [f] _ (by have := fm_new (w.alloc (.cells #[.int .i64 f.c, .int .i64 f.r] 43)) f; simpa using this) (hE.below hb1 hE.size)).mono (fun e w' ⟨⟨t, e1, e2⟩, e3⟩ => ⟨⟨_, e1, t, rfl, .inr ⟨HE0.out, e2⟩⟩, bnext hb1 e3 hb1.size⟩)
    clear hE hb0 hb1
    go_enter Tryz.func37, Tryz.ntmps37
    go_wp2_with fail
    refine HC.out.mono ?_
    rintro e w1 ⟨⟨v, rfl, hv⟩, hb⟩
    go_wp2_with fail
    go_ret
    obtain ⟨t, rfl, ht⟩ := hv
    exact ⟨⟨t, rfl, ht⟩, hb⟩
theorem ckT_le {s : ByteArray} (h : ckT s = 0) : s.size ≤ 200 := by
  by_cases h2 : 200 < s.size
  · rw [ckT_long h2] at h; cases h
  · omega
theorem told_one {f : Fl} {t : Int} (h : Told [f] t) : t = cd [f] 0 := by
  rcases h with ⟨h1, -⟩ | ⟨-, ⟨rfl, h⟩ | ⟨-, i, hi, rfl, -⟩⟩
  · simp at h1
  · exact (h 0 (by simp)).symm
  · obtain rfl : i = 0 := by simpa using hi
    rfl
end Go.Proofs.YtomgjjngkffbbaaGreatDoor.ps
namespace Go.Proofs.YtomgjjngkffbbaaGreatDoor.fw
open Go.RowKit Go.Sort
/-- What a text comes to that a cell is to have: a fault's number. -/
def ftx (s : ByteArray) : Int := if s.size = 0 then 0 else ps.ckT s
theorem sck_is {f : ps.Fl} {t : Int} (h : ps.SCk f t) : t = if adr.isC f.c f.r = true then ftx f.s else 1 := by
  unfold ftx
  rcases h with ⟨h1, rfl⟩ | ⟨h1, h2⟩
  · rw [if_pos h1]
  · rw [if_neg h1, ps.told_one h2]
    cases hc : adr.isC f.c f.r with
    | false => rw [ps.cd_range rfl hc, if_neg (by simp)]
    | true => rw [ps.cd_text rfl hc rfl, if_pos rfl]
theorem sck_zero {f : ps.Fl} {t : Int} (h : ps.SCk f t) : t = 0 ↔ adr.isC f.c f.r = true ∧ ftx f.s = 0 := by
  rw [sck_is h]
  cases adr.isC f.c f.r <;> simp
theorem ftx_le {s : ByteArray} (h : ftx s = 0) : s.size ≤ 200 := by
  unfold ftx at h
  split at h
  · omega
  · exact ps.ckT_le h
theorem fm_next {w w' : World} {p : Option Addr} {xs : List ps.Fl} (h : ps.FM w p xs) (hb : Bw w w') : ps.FM w' p xs := by
  rcases h with h | ⟨g, o, h1, h2, h3⟩
  · exact .inl h
  · exact .inr ⟨g, o, h1, Nat.lt_of_lt_of_le h2 hb.size, fun t u hu => by rw [hb.cell (p := ⟨g, _, none⟩) h2]; exact h3 t u hu⟩
theorem fm_at {w : World} {p : Option Addr} {xs : List ps.Fl} (h : ps.FM w p xs) {i : Nat} {x : ps.Fl} (hx : xs[i]? = some x) : ∃ g o, p = some ⟨g, o, none⟩ ∧ g < w.heap.size ∧ w.cell? ⟨g, o + i * 3, none⟩ = some (.int .i64 x.c) ∧ w.cell? ⟨g, o + i * 3 + 1, none⟩ = some (.int .i64 x.r) ∧ w.cell? ⟨g, o + i * 3 + 2, none⟩ = some (.string x.s) := by
  obtain ⟨g, o, rfl, hl⟩ := h.at hx
  exact ⟨g, o, rfl, hl, h.cells hx⟩
end Go.Proofs.YtomgjjngkffbbaaGreatDoor.fw

/- Package merge: checkTexts. Conditions: what the package variables hold. -/
namespace Go.Proofs.YtomgjjngkffbbaaGreatDoor.fw
open Go Go.RowKit Go.Sort
open ps (ordB)
/-- What is wrong with one of some texts: a number. -/
def cdd (d : List ps.Fl) (i : Nat) : Int := match d[i]? with
  | none => 0
  | some f => if adr.isC f.c f.r = false then 1 else if ordB d i f = true then 5 else ftx f.s
/-- The first fault of some texts. -/
def CdT (d : List ps.Fl) (t : Int) : Prop := (t = 0 ∧ ∀ i, i < d.length → cdd d i = 0) ∨ (t ≠ 0 ∧ ∃ i, i < d.length ∧ cdd d i = t ∧ ∀ j, j < i → cdd d j = 0)
theorem CdT.one {d : List ps.Fl} {e e' : Int} (h : CdT d e) (h' : CdT d e') : e = e' := by
  rcases h with ⟨rfl, h3⟩ | ⟨h3, i, h4, h5, h6⟩
  · rcases h' with ⟨rfl, -⟩ | ⟨g3, k, g4, g5, -⟩
    · rfl
    · exact absurd (g5.symm.trans (h3 k g4)) g3
  · rcases h' with ⟨rfl, g3⟩ | ⟨g3, k, g4, g5, g6⟩
    · exact absurd (h5.symm.trans (g3 i h4)) h3
    · rcases Nat.lt_trichotomy i k with hk | hk | hk
      · exact absurd (h5.symm.trans (g6 i hk)) h3
      · subst hk; exact h5.symm.trans g5
      · exact absurd (g5.symm.trans (h6 k hk)) g3
theorem cdd_zero {d : List ps.Fl} {i : Nat} {x : ps.Fl} (hx : d[i]? = some x) (h : cdd d i = 0) : adr.isC x.c x.r = true ∧ ordB d i x = false ∧ ftx x.s = 0 := by
  unfold cdd at h
  rw [hx] at h
  dsimp only at h
  split at h
  · cases h
  · split at h
    · cases h
    · rename_i h1 h2
      exact ⟨by simpa using h1, by simpa using h2, h⟩
/-- Texts without a fault. -/
structure FineD (d : List ps.Fl) : Prop where
  srt : ps.Srt d
  cell : ∀ x ∈ d, adr.isC x.c x.r = true ∧ x.s.size ≤ 200
theorem CdT.fine {d : List ps.Fl} (h : CdT d 0) : FineD d := by
  rcases h with ⟨-, h3⟩ | ⟨h3, -⟩
  · have key : ∀ i, i ≤ d.length → ps.Srt (d.take i) := by
      intro i
      induction i with
      | zero => intro _; simp [ps.Srt]
      | succ i ih =>
        intro hi
        obtain ⟨x, hx⟩ : ∃ x, d[i]? = some x := ⟨_, List.getElem?_eq_getElem (by omega)⟩
        refine ps.srt_take (ih (by omega)) hx (fun y hy hy' => ?_)
        have := (cdd_zero hx (h3 i (by omega))).2.1
        obtain ⟨k, rfl⟩ : ∃ k, i = k + 1 := ⟨i - 1, by omega⟩
        unfold ordB at this
        rw [show k + 1 - 1 = k from rfl] at hy'
        simp only [hy'] at this
        simpa using this
    refine ⟨by have := key d.length (Nat.le_refl _); rwa [List.take_length] at this, fun x hx => ?_⟩
    obtain ⟨i, hi⟩ := List.getElem?_of_mem hx
    have := cdd_zero hi (h3 i (List.getElem?_eq_some_iff.1 hi).1)
    exact ⟨this.1, ftx_le this.2.2⟩
  · exact absurd rfl h3
/-- So far nothing was found. -/
def FD (d : List ps.Fl) (i : Nat) : Prop := ∀ j, j < i → cdd d j = 0
theorem FD.snoc {d : List ps.Fl} {i : Nat} (h : FD d i) (h1 : cdd d i = 0) : FD d (i + 1) := fun j hj => by
  by_cases e : j = i
  · subst e; exact h1
  · exact h j (by omega)
theorem FD.found {d : List ps.Fl} {i : Nat} {x : ps.Fl} (h : FD d i) (hx : d[i]? = some x) {e : Int} (h1 : cdd d i = e) (h2 : e ≠ 0) : CdT d e :=
  .inr ⟨h2, i, (List.getElem?_eq_some_iff.1 hx).1, h1, h⟩
theorem FD.none {d : List ps.Fl} (h : FD d d.length) : CdT d 0 := .inl ⟨rfl, h⟩
theorem cdd_range {d : List ps.Fl} {i : Nat} {x : ps.Fl} (h : d[i]? = some x) (h1 : adr.isC x.c x.r = false) : cdd d i = 1 := by unfold cdd; rw [h]; exact if_pos h1
theorem cdd_order {d : List ps.Fl} {i : Nat} {x : ps.Fl} (h : d[i]? = some x) (h1 : adr.isC x.c x.r = true) (h2 : ordB d i x = true) : cdd d i = 5 := by unfold cdd; rw [h]; show (if _ then _ else _) = _; rw [if_neg (by simp [h1]), if_pos h2]
theorem cdd_text {d : List ps.Fl} {i : Nat} {x : ps.Fl} (h : d[i]? = some x) (h1 : adr.isC x.c x.r = true) (h2 : ordB d i x = false) : cdd d i = ftx x.s := by unfold cdd; rw [h]; show (if _ then _ else _) = _; rw [if_neg (by simp [h1]), if_neg (by simp [h2])]
abbrev RH (w1 : World) (gx o bf : Nat) (y x : ps.Fl) (wx : World) : Prop := wx.cell? ⟨gx, o, none⟩ = some (.int .i64 y.c) ∧ wx.cell? ⟨gx, o + 1, none⟩ = some (.int .i64 y.r) ∧ wx.cell? ⟨bf, 0, none⟩ = some (.int .i64 x.c) ∧ wx.cell? ⟨bf, 1, none⟩ = some (.int .i64 x.r) ∧ Bw w1 wx
theorem rh_b {w1 : World} {gx o bf : Nat} {y x : ps.Fl} {wx : World} (h : RH w1 gx o bf y x wx) : Bw w1 wx := h.2.2.2.2
theorem cells3y {w : World} {b : Nat} {a0 a1 a2 : Value} {t : TypeId} (h : w.heap[b]? = some (.cells #[a0, a1, a2] t (0, 0))) : w.cell? ⟨b, 0, none⟩ = some a0 ∧ w.cell? ⟨b, 1, none⟩ = some a1 ∧ w.cell? ⟨b, 2, none⟩ = some a2 := by simp [World.cell?, h]
set_option maxRecDepth 1000000 in
set_option maxHeartbeats 8000000 in
theorem checkTexts_any (p : Option Addr) (c : Nat) (d : List ps.Fl) (w : World) (hx : ps.FM w p d) (hl : d.length ≤ 4398046511104) (hE : ps.EnvP w) :
    Calls Tryz.prog 32 #[.slice p d.length c] w fun e w' => (∃ t, e = .returned (ps.errV t) ∧ CdT d t) ∧ Bw w w' := by
  obtain ⟨n, hn⟩ : ∃ n, d.length = n := ⟨_, rfl⟩
  have HN : Hid (d.length = n) := hn
  rw [hn] at hl ⊢
  have HX : Hid (ps.FM w p d ∧ ps.EnvP w) := ⟨hx, hE⟩
  have hl2 : (n : Int) ≤ 4398046511104 := by omega
  clear hx hn hE
  go_enter Tryz.func32, Tryz.ntmps32
  go_wp2_with fail
  go_loopw [9] (fun a wr => ∃ i : Nat, a = .int .i64 i ∧ i ≤ n ∧ Hid (FD d i ∧ Bw w wr)) (fun a _ => n - (intOf a).toNat)
  case atStart => exact ⟨0, rfl, Nat.zero_le _, fun j hj => absurd hj (Nat.not_lt_zero _), Below.refl _ _⟩
  case round =>
    obtain ⟨i, rfl, hi, HK⟩ := hrel
    have hi0 : (0 : Int) ≤ (i : Int) := by omega
    by_cases hin : i < n
    · have hiN : (i : Int) < (n : Int) := by omega
      obtain ⟨x, hx⟩ : ∃ x, d[i]? = some x := ⟨_, List.getElem?_eq_getElem (by rw [HN.out]; exact hin)⟩
      have HXi : Hid (d[i]? = some x) := hx
      obtain ⟨gx, ox, hpx, hgx⟩ := HX.out.1.at hx
      subst hpx
      obtain ⟨q0, q1, q2⟩ := ps.FM.cells (HX.out.1.below HK.out.2) hx
      clear hx
      go_upto_region 4 with fail
      have HW0 : Hid (Bw w (wr.alloc (.cells #[.int .i64 x.c, .int .i64 x.r, .string x.s] 45)) ∧ (wr.alloc (.cells #[.int .i64 x.c, .int .i64 x.r, .string x.s] 45)).heap[wr.heap.size]? = some (.cells #[.int .i64 x.c, .int .i64 x.r, .string x.s] 45 (0, 0))) := ⟨HK.out.2.tr (Bw.al wr _), heap_alloc_new wr _⟩
      generalize wr.alloc (.cells #[.int .i64 x.c, .int .i64 x.r, .string x.s] 45) = W0 at *
      generalize wr.heap.size = bf at *
      clear q0 q1 q2
      obtain ⟨b0, b1, b2⟩ := cells3y HW0.out.2
      have HCK : Hid (Calls Tryz.prog 45 #[.agg #[.int .i64 x.c, .int .i64 x.r]] W0 fun e w' => e = .returned (adr.ckc (adr.isC x.c x.r)) ∧ Bw W0 w') := adr.check_any x.c x.r W0
      cases hC : adr.isC x.c x.r with
      | false =>
        have HC : Hid (adr.isC x.c x.r = false) := hC
        rw [hC] at HCK
        have HCK2 : Hid (Calls Tryz.prog 45 #[.agg #[.int .i64 x.c, .int .i64 x.r]] W0 fun e w' => e = .returned (.iface 67 (.int .i64 1)) ∧ Bw W0 w') := HCK
        clear hC HCK
        go_wp2_with (first | (go_at_call 45; refine HCK2.out.mono ?_; rintro e w1 ⟨rfl, hb1⟩))
        exact bodyPost_ret (v := .iface 67 (.int .i64 1)) (by simp [results, Tryz.results32, go_sem]) rfl ⟨⟨1, rfl, HK.out.1.found HXi.out (cdd_range HXi.out HC.out) (by decide)⟩, HW0.out.1.tr hb1⟩
      | true =>
        have HC : Hid (adr.isC x.c x.r = true) := hC
        rw [hC] at HCK
        have HCK2 : Hid (Calls Tryz.prog 45 #[.agg #[.int .i64 x.c, .int .i64 x.r]] W0 fun e w' => e = .returned .nilIface ∧ Bw W0 w') := HCK
        clear hC HCK
        go_upto_region 7 with (first | (go_at_call 45; refine HCK2.out.mono ?_; rintro e w1 ⟨rfl, hb1⟩))
        have HW1 : Hid (Bw w w1 ∧ w1.heap[bf]? = some (.cells #[.int .i64 x.c, .int .i64 x.r, .string x.s] 45 (0, 0))) := ⟨HW0.out.1.tr hb1, (hb1.block _ (fm.lt_blk HW0.out.2)).trans HW0.out.2⟩
        clear b0 b1 b2 hb1 HCK2
        obtain ⟨b0, b1, b2⟩ := cells3y HW1.out.2
        go_cut [33] (fun s33 wx => ∃ b : Bool, s33 = .bool b ∧ b = ordB d i x ∧ Bw w1 wx)
        case first =>
          by_cases hz : i = 0
          · subst hz
            go_quiet (fail)
            go_wp2_with fail
            go_meet
            case rel => exact ⟨false, rfl, rfl, ps.drewN_below _ _⟩
          · obtain ⟨k, rfl⟩ : ∃ k, i = k + 1 := ⟨i - 1, by omega⟩
            obtain ⟨y, hy⟩ : ∃ y, d[k]? = some y := ⟨_, List.getElem?_eq_getElem (by rw [HN.out]; omega)⟩
            have HY : Hid (d[k]? = some y) := hy
            obtain ⟨y0, y1, -⟩ := ps.FM.cells (HX.out.1.below HW1.out.1) hy
            have SOF : Hid (∀ wx, Bw w1 wx → RH w1 gx (ox + k * 3) bf y x wx) := fun wx hb => ⟨(hb.cell (p := ⟨gx, _, none⟩) (Nat.lt_of_lt_of_le hgx HW1.out.1.size)).trans y0, (hb.cell (p := ⟨gx, _, none⟩) (Nat.lt_of_lt_of_le hgx HW1.out.1.size)).trans y1, (hb.cell (p := ⟨bf, _, none⟩) (fm.lt_blk HW1.out.2)).trans b0, (hb.cell (p := ⟨bf, _, none⟩) (fm.lt_blk HW1.out.2)).trans b1, hb⟩
            have h0d : RH w1 gx (ox + k * 3) bf y x w1.drew := SOF.out _ (Below.refl _ _).drew
            have e1 : ((k + 1 : Nat) : Int) = (k : Int) + 1 := rfl
            have hk0 : (0 : Int) < (k : Int) + 1 := by omega
            have hk00 : (0 : Int) ≤ (k : Int) := by omega
            have hkN : (k : Int) < (n : Int) := by omega
            have hk1N : (k : Int) + 1 < (n : Int) := by omega
            have hk10 : (0 : Int) ≤ (k : Int) + 1 := by omega
            have hk1t : ((k : Int) + 1).toNat = k + 1 := by omega
            have hw1' : IntKind.i64.wrap ((k : Int) + 1 - 1) = (k : Int) := by rw [Int.add_sub_cancel]; exact Go.IntWalk.i64_in _ (by omega)
            have hw2' : IntKind.i64.wrap (k : Int) = (k : Int) := Go.IntWalk.i64_in _ (by omega)
            have hw3' : (k : Int) + 1 - 1 = (k : Int) := by omega
            have HLs : Hid (∀ wx, Calls Tryz.prog 46 #[.agg #[.int .i64 y.c, .int .i64 y.r], .agg #[.int .i64 x.c, .int .i64 x.r]] wx fun e w' => e = .returned (.bool (decide (ps.cmpC y.c y.r x.c x.r < 0))) ∧ Bw wx w') := fun wx => ps.less_any y.c y.r x.c x.r wx
            rw [e1]
            clear hy e1 b0 b1 b2
            go_region_held3 (fun wx => RH w1 gx (ox + k * 3) bf y x wx) (first | exact h0d | exact SOF.out _ ((rh_b (by assumption)).tr (by assumption))) (first | (go_at_call 46; refine (HLs.out _).mono ?_; rintro e w2 ⟨rfl, hb2⟩; have hw2 := (rh_b (by assumption)).tr hb2))
            all_goals
              go_wp2_with fail
              go_meet
              case rel =>
                refine ⟨_, rfl, ?_, hw2⟩
                unfold ordB
                simp only [HY.out]
                first | rfl | (simp [ps.lt]; done)
        case rest =>
        obtain ⟨b, rfl, hA, hbc⟩ := hcut
        have HWc : Hid (Bw w wc ∧ wc.heap[bf]? = some (.cells #[.int .i64 x.c, .int .i64 x.r, .string x.s] 45 (0, 0))) := ⟨HW1.out.1.tr hbc, (hbc.block _ (fm.lt_blk HW1.out.2)).trans HW1.out.2⟩
        have HA : Hid (b = ordB d i x) := hA
        clear hA hbc b0 b1 b2 HW1
        obtain ⟨b0, b1, b2⟩ := cells3y HWc.out.2
        cases b with
        | true =>
          go_wp2_with fail
          exact bodyPost_ret (v := .iface 67 (.int .i64 5)) (by simp [results, Tryz.results32, go_sem]) rfl ⟨⟨5, rfl, HK.out.1.found HXi.out (cdd_order HXi.out HC.out HA.out.symm) (by decide)⟩, HWc.out.1⟩
        | false =>
          have HT : Hid (cdd d i = ftx x.s) := cdd_text HXi.out HC.out HA.out.symm
          have HSC : Hid (Calls Tryz.prog 37 #[.agg #[.int .i64 x.c, .int .i64 x.r], .string x.s] wc fun e w' => e = .returned (ps.errV (ftx x.s)) ∧ Bw wc w') := (ps.scheck_any x wc (HX.out.2.below HWc.out.1 HX.out.2.size)).mono fun e w' ⟨⟨t, h1, h2⟩, h3⟩ => ⟨by rw [h1, sck_is h2, HC.out]; rfl, h3⟩
          obtain ⟨t, ht⟩ : ∃ t, ftx x.s = t := ⟨_, rfl⟩
          rw [ht] at HT HSC
          clear ht
          go_upto_region 10 with (first | (go_at_call 37; refine HSC.out.mono ?_; rintro e w2 ⟨rfl, hb2⟩))
          have HW2 : Hid (Bw w w2) := HWc.out.1.tr hb2
          clear hb2 HSC b0 b1 b2
          by_cases h0 : t = 0
          · subst h0
            rw [ps.errV_zero]
            have HF : Hid (FD d (i + 1)) := HK.out.1.snoc HT.out
            go_wp2_with fail
            exact ⟨⟨i + 1, by simp, hin, HF.out, HW2.out⟩, by simp [intOf]; omega⟩
          · have HN2 : Hid (t ≠ 0) := h0
            rw [ps.errV_some h0]
            clear h0
            go_wp2_with fail
            exact bodyPost_ret (v := .iface 67 (.int .i64 t)) (by simp [results, Tryz.results32, go_sem]) rfl ⟨⟨t, by rw [ps.errV_some HN2.out], HK.out.1.found HXi.out HT.out HN2.out⟩, HW2.out⟩
    · have hiN : ¬ (i : Int) < (n : Int) := by omega
      obtain rfl : i = n := by omega
      go_wp2_with fail
      exact bodyPost_ret (v := .nilIface) (by simp [results, Tryz.results32, go_sem]) rfl ⟨⟨0, rfl, FD.none (by rw [HN.out]; exact HK.out.1)⟩, HK.out.2⟩
end Go.Proofs.YtomgjjngkffbbaaGreatDoor.fw

/- A map of the call's own that reads as a list of things, each under its key: looked up, counted, written, deleted from, ranged over. No program is walked here. Conditions: as each theorem says. -/
namespace Go.Proofs.YtomgjjngkffbbaaGreatDoor.mpg
open Go Go.Maps
open Go.ChangeMaps (notKey putKey delKey)
/-- Any value, as it lies. -/
def anyR (v : Value) : Option (DataW Value × List MemPlace) := some (.held v, [])
section
variable {P : Program} {k : TypeId} {α : Type} {key val : α → Value} {kl : α → Lit}
def prs (val : α → Value) (kl : α → Lit) (xs : List α) : List (Lit × DataW Value) := xs.map fun x => (kl x, .held (val x))
/-- Entries and things, in any order. -/
structure Lk (P : Program) (k : TypeId) (key val : α → Value) (kl : α → Lit) (es : List (Lit × DataW Value)) (xs : List α) : Prop where
  perm : es.Perm (prs val kl xs)
  keyed : ∀ x ∈ xs, keyOf P k (key x) = some (kl x)
/-- Block b is a map that has all of xs. -/
def MG (P : Program) (k : TypeId) (key val : α → Value) (kl : α → Lit) (w : World) (b : Nat) (xs : List α) : Prop := ∃ es, w.ownsMap P k anyR b xs.length (.map es) ∧ Lk P k key val kl es xs
theorem Lk.len {es : List (Lit × DataW Value)} {xs : List α} (h : Lk P k key val kl es xs) : Maps.size (.map es) = xs.length := by
  show es.length = _
  rw [h.perm.length_eq]
  simp [prs]
theorem tight {w : World} {b n m : Nat} {es : List (Lit × DataW Value)} {R : Value → Option (DataW Value × List MemPlace)} (h : w.ownsMap P k R b n (.map es)) (hm : es.length ≤ m) : w.ownsMap P k R b m (.map es) := by
  obtain ⟨a, clock, h1, h2, h3, h4⟩ := h
  have e : es = (a.toList.map (Go.WideElems.rg P k R)).foldr DataW.insert [] := by cases h4; rfl
  refine ⟨a, clock, h1, h2, ?_, h4⟩
  have := length_sorted (a.toList.map (Go.WideElems.rg P k R))
  rw [← e] at this
  simp at this
  omega
theorem MG.lt {w : World} {b : Nat} {xs : List α} (h : MG P k key val kl w b xs) : b < w.heap.size := by
  obtain ⟨es, h1, -⟩ := h
  exact h1.lt
theorem MG.kept {w w' : World} {row : Option Nat} {b : Nat} {xs : List α} (h : MG P k key val kl w b xs) (hg : w.grownBy w' row) (hne : some b ≠ row) : MG P k key val kl w' b xs := by
  obtain ⟨es, h1, h2⟩ := h
  exact ⟨es, h1.kept hg hne, h2⟩
theorem MG.at {w w' : World} {b : Nat} {xs : List α} (h : MG P k key val kl w b xs) (hb : w'.heap[b]? = w.heap[b]?) : MG P k key val kl w' b xs := by
  obtain ⟨es, ⟨a, clock, h1, h2⟩, h3⟩ := h
  exact ⟨es, ⟨a, clock, hb.trans h1, h2⟩, h3⟩
theorem MG.nil (w : World) : MG P k key val kl (w.alloc (.map #[] 0)) w.heap.size [] :=
  ⟨[], World.ownsMap_made w P k anyR, ⟨List.Perm.refl _, fun _ hx => absurd hx List.not_mem_nil⟩⟩
theorem Lk.mem {es : List (Lit × DataW Value)} {xs : List α} (h : Lk P k key val kl es xs) {p : Lit × DataW Value} : p ∈ es ↔ ∃ x ∈ xs, p = (kl x, .held (val x)) := by
  rw [h.perm.mem_iff]
  unfold prs
  rw [List.mem_map]
  constructor
  · rintro ⟨x, hx, rfl⟩; exact ⟨x, hx, rfl⟩
  · rintro ⟨x, hx, rfl⟩; exact ⟨x, hx, rfl⟩
theorem key_eq (K : Keyed P k) {u v : Value} {a b : Lit} (hu : keyOf P k u = some a) (hv : keyOf P k v = some b) : a.sameKey b = true ↔ u = v := by
  constructor
  · intro h
    have := WideAt.sameKey_eq h
    subst this
    exact K.inj hu hv
  · rintro rfl
    rw [hu] at hv
    cases hv
    exact WideAt.sameKey_self (K.key hu)
theorem Lk.has {es : List (Lit × DataW Value)} {xs : List α} (h : Lk P k key val kl es xs) (K : Keyed P k) {v : Value} {l : Lit} (hl : keyOf P k v = some l) : Maps.has (.map es) l = true ↔ ∃ x ∈ xs, key x = v := by
  rw [has_eq, List.any_eq_true]
  constructor
  · rintro ⟨p, hp, hs⟩
    obtain ⟨x, hx, rfl⟩ := h.mem.1 hp
    exact ⟨x, hx, (key_eq K (h.keyed x hx) hl).1 hs⟩
  · rintro ⟨x, hx, e⟩
    exact ⟨(kl x, .held (val x)), h.mem.2 ⟨x, hx, rfl⟩, (key_eq K (h.keyed x hx) hl).2 e⟩
open Classical in
theorem Lk.filt {es : List (Lit × DataW Value)} {xs : List α} (h : Lk P k key val kl es xs) (K : Keyed P k) {v : Value} {l : Lit} (hl : keyOf P k v = some l) :
    (es.filter (notKey l)).Perm (prs val kl (xs.filter fun x => decide (key x ≠ v))) := by
  refine (h.perm.filter _).trans ?_
  have hk := h.keyed
  clear h
  unfold prs
  rw [List.filter_map]
  have : ∀ x ∈ xs, ((notKey l) ∘ fun x => (kl x, (DataW.held (val x) : DataW Value))) x = decide (key x ≠ v) := fun x hx => by
    show (!(kl x).sameKey l) = _
    have := key_eq K (hk x hx) hl
    cases hs : (kl x).sameKey l
    · have : ¬ key x = v := fun e => by rw [this.2 e] at hs; cases hs
      simp [this]
    · have : key x = v := this.1 hs
      simp [this]
  rw [List.filter_congr this]
theorem insert_perm (x : Lit × DataW Value) : ∀ l : List (Lit × DataW Value), (DataW.insert x l).Perm (x :: l)
  | [] => List.Perm.refl _
  | y :: r => by
    unfold DataW.insert
    split
    · exact List.Perm.refl _
    · exact (List.Perm.cons y (insert_perm x r)).trans (List.Perm.swap x y r)
open Classical in
/-- m[key] = val. -/
theorem MG.put {w' : World} {b n : Nat} {xs ys : List α} {es : List (Lit × DataW Value)} (h : Lk P k key val kl es xs) (K : Keyed P k) {f : α} (hf : keyOf P k (key f) = some (kl f))
    (ho : w'.ownsMap P k anyR b n ((DataW.map es).put (kl f) (.held (val f)))) (hp : ys.Perm (f :: xs.filter fun x => decide (key x ≠ key f))) : MG P k key val kl w' b ys := by
  rw [DataW.put_eq] at ho
  have hq : (putKey (kl f) (.held (val f)) es).Perm (prs val kl ys) := by
    unfold putKey
    refine (insert_perm _ _).trans ?_
    refine (List.Perm.cons _ (h.filt K hf)).trans ?_
    exact (hp.map fun x => (kl x, (DataW.held (val x) : DataW Value))).symm
  refine ⟨_, tight ho (by rw [hq.length_eq]; simp [prs]), hq, fun x hx => ?_⟩
  rcases List.mem_cons.1 (hp.mem_iff.1 hx) with rfl | hx
  · exact hf
  · exact h.keyed x (List.mem_filter.1 hx).1
open Classical in
/-- delete(m, key). -/
theorem MG.del {w' : World} {b n : Nat} {xs ys : List α} {es : List (Lit × DataW Value)} (h : Lk P k key val kl es xs) (K : Keyed P k) {v : Value} {l : Lit} (hl : keyOf P k v = some l)
    (ho : w'.ownsMap P k anyR b n ((DataW.map es).del l)) (hp : ys.Perm (xs.filter fun x => decide (key x ≠ v))) : MG P k key val kl w' b ys := by
  rw [DataW.del_eq] at ho
  have hq : (delKey l es).Perm (prs val kl ys) := (h.filt K hl).trans (hp.map fun x => (kl x, (DataW.held (val x) : DataW Value))).symm
  refine ⟨_, tight ho (by rw [hq.length_eq]; simp [prs]), hq, fun x hx => ?_⟩
  exact h.keyed x (List.mem_filter.1 (hp.mem_iff.1 hx)).1
/-- What a walk over it has met, and what not. -/
structure Met (kl : α → Lit) (xs ps : List α) (left : Lit → Bool) : Prop where
  rest : ∃ rs, (ps ++ rs).Perm xs ∧ ∀ y ∈ xs, left (kl y) = true ↔ y ∈ rs
theorem Lk.apart {w : World} {b n : Nat} {es : List (Lit × DataW Value)} {xs : List α} (h : Lk P k key val kl es xs) (ho : w.ownsMap P k anyR b n (.map es)) (K : Keyed P k) : (xs.map kl).Nodup := by
  obtain ⟨es', e1, h2, h3⟩ := ho.entries K
  cases e1
  have : (es.map (·.1)).Nodup := List.pairwise_map.2 h2
  have hp := h.perm.map (·.1)
  have e : (prs val kl xs).map (·.1) = xs.map kl := by unfold prs; rw [List.map_map]; rfl
  rw [e] at hp
  exact hp.nodup_iff.1 this
theorem Met.start {es : List (Lit × DataW Value)} {xs : List α} (h : Lk P k key val kl es xs) (K : Keyed P k) : Met kl xs [] (Maps.has (.map es)) :=
  ⟨xs, List.Perm.refl _, fun y hy => ⟨fun _ => hy, fun _ => (h.has K (h.keyed y hy)).2 ⟨y, hy, rfl⟩⟩⟩
theorem Met.step {es : List (Lit × DataW Value)} {xs ps : List α} {left : Lit → Bool} (hM : Met kl xs ps left) (h : Lk P k key val kl es xs) (hd : (xs.map kl).Nodup) (K : Keyed P k) {l : Lit} {c : Value} {y : DataW Value × List MemPlace}
    (hl : left l = true) (hv : anyR c = some y) (hat : ∀ zd, (DataW.map es).atKey l zd = y.1) : ∃ z ∈ xs, val z = c ∧ kl z = l ∧ Met kl xs (ps ++ [z]) (fun q => left q && !q.sameKey l) := by
  obtain ⟨rs, hp, hr⟩ := hM.rest
  have hy : y.1 = .held c := by unfold anyR at hv; cases hv; rfl
  have h0 := hat .nil
  rw [hy] at h0
  unfold DataW.atKey at h0
  dsimp only at h0
  cases hfd : es.find? (fun p => p.1.sameKey l) with
  | none => rw [hfd] at h0; cases h0
  | some p =>
    rw [hfd] at h0
    have hs : p.1.sameKey l = true := by have := List.find?_some hfd; simpa using this
    obtain ⟨z, hz, rfl⟩ := h.mem.1 (List.mem_of_find?_eq_some hfd)
    have e1 : kl z = l := WideAt.sameKey_eq hs
    subst e1
    have e2 : val z = c := by cases h0; rfl
    refine ⟨z, hz, e2, rfl, ?_⟩
    obtain ⟨a, b, rfl⟩ := List.append_of_mem ((hr z hz).1 hl)
    have hp2 : (ps ++ [z] ++ (a ++ b)).Perm xs := by
      refine List.Perm.trans ?_ hp
      rw [List.append_assoc]
      refine List.Perm.append_left _ ?_
      show (z :: (a ++ b)).Perm _
      exact List.perm_middle.symm
    refine ⟨a ++ b, hp2, fun y hy => ?_⟩
    have hn : (((ps ++ [z] ++ (a ++ b))).map kl).Nodup := (hp2.map kl).nodup_iff.2 hd
    rw [Bool.and_eq_true, hr y hy]
    have hkz := h.keyed z hz
    have hky := h.keyed y hy
    constructor
    · rintro ⟨h1, h2⟩
      have hne : y ≠ z := by
        rintro rfl
        rw [WideAt.sameKey_self (K.key hky)] at h2
        cases h2
      rcases List.mem_append.1 h1 with h1 | h1
      · exact List.mem_append.2 (.inl h1)
      · rcases List.mem_cons.1 h1 with h1 | h1
        · exact absurd h1 hne
        · exact List.mem_append.2 (.inr h1)
    · intro h1
      refine ⟨?_, ?_⟩
      · rcases List.mem_append.1 h1 with h1 | h1
        · exact List.mem_append.2 (.inl h1)
        · exact List.mem_append.2 (.inr (List.mem_cons_of_mem _ h1))
      · cases hs2 : (kl y).sameKey (kl z) with
        | false => rfl
        | true =>
          exfalso
          have e3 := WideAt.sameKey_eq hs2
          rw [List.map_append, List.nodup_append] at hn
          exact hn.2.2 (kl z) (List.mem_map_of_mem (by simp)) (kl y) (List.mem_map_of_mem h1) e3.symm
theorem Met.all {xs ps : List α} {left : Lit → Bool} (hM : Met kl xs ps left) (h0 : ∀ l, left l = false) : ps.Perm xs := by
  obtain ⟨rs, hp, hr⟩ := hM.rest
  have : rs = [] := List.eq_nil_iff_forall_not_mem.2 fun y hy => by
    have := (hr y (hp.mem_iff.1 (List.mem_append.2 (.inr hy)))).2 hy
    rw [h0] at this
    cases this
  subst this
  rwa [List.append_nil] at hp
end
end Go.Proofs.YtomgjjngkffbbaaGreatDoor.mpg

/- Package merge: the texts of all cells, sheet by sheet, as a map; plain, and by the laws of maps. Conditions: as each theorem says. -/
namespace Go.Proofs.YtomgjjngkffbbaaGreatDoor.fw
open Go Go.RowKit Go.Sort Go.Maps
theorem mg_laid : laidOutB Tryz.prog = true := by kernel_rfl
theorem keyC : Keyed Tryz.prog 43 := Keyed.of_law (Go.deep_law_laid mg_laid (m := 5) (by decide) (of_decide_eq_true (by kernel_rfl)) (by kernel_rfl) (by kernel_rfl))
/-- A row of the table: a cell, and its texts. -/
structure Tr where
  c : Int
  r : Int
  s0 : ByteArray
  s1 : ByteArray
  s2 : ByteArray
abbrev kvT (x : Tr) : Value := .agg #[.int .i64 x.c, .int .i64 x.r]
abbrev vvT (x : Tr) : Value := .agg #[.string x.s0, .string x.s1, .string x.s2]
noncomputable def klT (x : Tr) : Lit := (keyOf Tryz.prog 43 (kvT x)).getD (.bool false)
theorem ccof2 : Tryz.prog.cellsOf 43 = 2 := by kernel_rfl
theorem ccofi : Tryz.prog.cellsOf 3 = 1 := by kernel_rfl
theorem cktype : Tryz.prog.keyType 43 = true := by kernel_rfl
set_option maxRecDepth 100000 in
theorem ckey_some (c r : Int) (hc : (Lit.int .i64 c).wf = true) (hr : (Lit.int .i64 r).wf = true) : ∃ l, keyOf Tryz.prog 43 (.agg #[.int .i64 c, .int .i64 r]) = some l := by
  have hsz : Tryz.prog.types.size + 1 = 294 + 1 + 1 := by kernel_rfl
  have hi : ∀ n : Int, (Lit.int .i64 n).wf = true → Tryz.prog.keyLits (294 + 1) 3 [.int .i64 n] = some [.int .i64 n] := fun n hn => by
    unfold Program.keyLits
    simp only [Tryz.underlying3]
    rw [if_pos ⟨trivial, hn⟩]
  unfold keyOf
  simp only [Tryz.underlying43, cktype, Value.formed, ccof2, Bool.true_and]
  rw [hsz]
  unfold Program.keyLits
  simp only [Tryz.underlying43, ccof2, Value.cells]
  simp [hi c hc, hi r hr, ccofi]
theorem klT_of {x : Tr} (hc : (Lit.int .i64 x.c).wf = true) (hr : (Lit.int .i64 x.r).wf = true) : keyOf Tryz.prog 43 (kvT x) = some (klT x) := by
  obtain ⟨l, hl⟩ := ckey_some x.c x.r hc hr
  unfold klT
  rw [hl]
  rfl
theorem kvT_iff {x y : Tr} : kvT x = kvT y ↔ x.c = y.c ∧ x.r = y.r := by
  constructor
  · intro h
    have := Value.agg.inj h
    simp at this
    exact this
  · rintro ⟨h1, h2⟩
    unfold kvT
    rw [h1, h2]
theorem wf_kc {n : Int} (h : 0 ≤ n ∧ n < 256) : (Lit.int .i64 n).wf = true := by
  have h1 : IntKind.i64.min = -9223372036854775808 := rfl
  have h2 : IntKind.i64.max = 9223372036854775807 := rfl
  simp [Lit.wf, h1, h2]
  omega
abbrev MT (w : World) (b : Nat) (xs : List Tr) : Prop := mpg.MG Tryz.prog 43 kvT vvT klT w b xs
theorem under_table : Tryz.prog.underlying 57 = some (.map 43 63) := by kernel_rfl
theorem zeroT (w : World) : (zeroValue 63).run Tryz.prog w = .ok (.agg #[.string nul, .string nul, .string nul]) w := by kernel_rfl
def nuls : Value := .agg #[.string nul, .string nul, .string nul]
set_option maxRecDepth 100000 in
/-- What is read under a key that is there. -/
theorem lkT_at {es : List (Lit × DataW Value)} {xs : List Tr} (h : mpg.Lk Tryz.prog 43 kvT vvT klT es xs) (hd : ∀ x ∈ xs, ∀ y ∈ xs, x.c = y.c → x.r = y.r → x = y) {x : Tr} (hx : x ∈ xs) (zd : DataW Value) : (DataW.map es).atKey (klT x) zd = .held (vvT x) := by
  unfold DataW.atKey
  dsimp only
  have hm : (klT x, (DataW.held (vvT x) : DataW Value)) ∈ es := h.mem.2 ⟨x, hx, rfl⟩
  cases hf : es.find? (fun p => p.1.sameKey (klT x)) with
  | none =>
    have := List.find?_eq_none.1 hf _ hm
    exact absurd (WideAt.sameKey_self (keyC.key (h.keyed x hx))) this
  | some p =>
    obtain ⟨y, hy, rfl⟩ := h.mem.1 (List.mem_of_find?_eq_some hf)
    have hs := List.find?_some hf
    have he := (mpg.key_eq keyC (h.keyed y hy) (h.keyed x hx)).1 hs
    obtain ⟨e1, e2⟩ := kvT_iff.1 he
    rw [hd y hy x hx e1 e2]
set_option maxRecDepth 100000 in
theorem lkT_no {es : List (Lit × DataW Value)} {xs : List Tr} (h : mpg.Lk Tryz.prog 43 kvT vvT klT es xs) {x : Tr} (hk : keyOf Tryz.prog 43 (kvT x) = some (klT x)) (hx : ∀ y ∈ xs, ¬ (y.c = x.c ∧ y.r = x.r)) (zd : DataW Value) : (DataW.map es).atKey (klT x) zd = zd := by
  unfold DataW.atKey
  dsimp only
  cases hf : es.find? (fun p => p.1.sameKey (klT x)) with
  | none => rfl
  | some p =>
    obtain ⟨y, hy, rfl⟩ := h.mem.1 (List.mem_of_find?_eq_some hf)
    have hs := List.find?_some hf
    have he := (mpg.key_eq keyC (h.keyed y hy) hk).1 hs
    exact absurd (kvT_iff.1 he) (hx y hy)
def Tr.set (x : Tr) (i : Nat) (s : ByteArray) : Tr := if i = 0 then { x with s0 := s } else if i = 1 then { x with s1 := s } else { x with s2 := s }
theorem Tr.set_c (x : Tr) (i : Nat) (s : ByteArray) : (x.set i s).c = x.c := by unfold Tr.set; split <;> (try split) <;> rfl
theorem Tr.set_r (x : Tr) (i : Nat) (s : ByteArray) : (x.set i s).r = x.r := by unfold Tr.set; split <;> (try split) <;> rfl
theorem Tr.set_vv (x : Tr) {i : Nat} (hi : i < 3) (s : ByteArray) : (#[.string x.s0, .string x.s1, .string x.s2] : Array Value).set! i (.string s) = #[.string (x.set i s).s0, .string (x.set i s).s1, .string (x.set i s).s2] := by
  have : i = 0 ∨ i = 1 ∨ i = 2 := by omega
  rcases this with rfl | rfl | rfl <;> rfl
/-- The row of a cell, or an empty one. -/
def Tr.of (xs : List Tr) (c r : Int) : Tr := (xs.find? fun x => decide (x.c = c) && decide (x.r = r)).getD ⟨c, r, nul, nul, nul⟩
theorem Tr.of_cr (xs : List Tr) (c r : Int) : (Tr.of xs c r).c = c ∧ (Tr.of xs c r).r = r := by
  unfold Tr.of
  cases hf : xs.find? fun x => decide (x.c = c) && decide (x.r = r) with
  | none => exact ⟨rfl, rfl⟩
  | some x =>
    have := List.find?_some hf
    simpa using this
theorem Tr.of_mem {xs : List Tr} (hd : ∀ x ∈ xs, ∀ y ∈ xs, x.c = y.c → x.r = y.r → x = y) {x : Tr} (hx : x ∈ xs) : Tr.of xs x.c x.r = x := by
  unfold Tr.of
  cases hf : xs.find? fun y => decide (y.c = x.c) && decide (y.r = x.r) with
  | none =>
    have := List.find?_eq_none.1 hf x hx
    simp at this
  | some y =>
    have h1 := List.find?_some hf
    have h2 := List.mem_of_find?_eq_some hf
    simp at h1
    exact hd y h2 x hx h1.1 h1.2
theorem Tr.of_no {xs : List Tr} {c r : Int} (h : ∀ y ∈ xs, ¬ (y.c = c ∧ y.r = r)) : Tr.of xs c r = ⟨c, r, nul, nul, nul⟩ := by
  unfold Tr.of
  rw [List.find?_eq_none.2 fun y hy => by simpa using h y hy]
  rfl
/-- What is read under any key. -/
theorem lkT_of {es : List (Lit × DataW Value)} {xs : List Tr} (h : mpg.Lk Tryz.prog 43 kvT vvT klT es xs) (hd : ∀ x ∈ xs, ∀ y ∈ xs, x.c = y.c → x.r = y.r → x = y) {x : Tr} (hk : keyOf Tryz.prog 43 (kvT x) = some (klT x)) : (DataW.map es).atKey (klT x) (.held nuls) = .held (vvT (Tr.of xs x.c x.r)) := by
  by_cases hx : ∃ y ∈ xs, y.c = x.c ∧ y.r = x.r
  · obtain ⟨y, hy, e1, e2⟩ := hx
    have hkl : klT x = klT y := by unfold klT; rw [kvT_iff.2 ⟨e1, e2⟩]
    rw [hkl, lkT_at h hd hy, ← e1, ← e2, Tr.of_mem hd hy]
  · have hx' : ∀ y ∈ xs, ¬ (y.c = x.c ∧ y.r = x.r) := fun y hy e => hx ⟨y, hy, e⟩
    rw [lkT_no h hk hx', Tr.of_no hx']
    rfl
/-- The table of some sheets, as far as they were laid: sheet j so far is A j. -/
structure TB (xs : List Tr) (A : Nat → List ps.Fl) : Prop where
  one : ∀ x ∈ xs, ∀ y ∈ xs, x.c = y.c → x.r = y.r → x = y
  nd : xs.Nodup
  txt : ∀ x ∈ xs, x.s0 = ps.txt (A 0) x.c x.r ∧ x.s1 = ps.txt (A 1) x.c x.r ∧ x.s2 = ps.txt (A 2) x.c x.r
  has : ∀ j, j < 3 → ∀ f ∈ A j, ∃ x ∈ xs, x.c = f.c ∧ x.r = f.r
  grid : ∀ x ∈ xs, (1 ≤ x.c ∧ x.c ≤ 26) ∧ 1 ≤ x.r ∧ x.r ≤ 99
theorem TB.nil : TB [] fun _ => [] := ⟨fun _ h => absurd h List.not_mem_nil, List.nodup_nil, fun _ h => absurd h List.not_mem_nil, fun _ _ _ h => absurd h List.not_mem_nil, fun _ h => absurd h List.not_mem_nil⟩
/-- A cell that has no row has no text in any of the sheets. -/
theorem TB.no {xs : List Tr} {A : Nat → List ps.Fl} (h : TB xs A) {c r : Int} (hn : ∀ x ∈ xs, ¬ (x.c = c ∧ x.r = r)) {j : Nat} (hj : j < 3) : ps.txt (A j) c r = nul := ps.txt_none fun f hf => by
  rw [ps.at_no]
  rintro ⟨rfl, rfl⟩
  obtain ⟨x, hx, e⟩ := h.has j hj f hf
  exact hn x hx e
theorem TB.of {xs : List Tr} {A : Nat → List ps.Fl} (h : TB xs A) (c r : Int) : (Tr.of xs c r).s0 = ps.txt (A 0) c r ∧ (Tr.of xs c r).s1 = ps.txt (A 1) c r ∧ (Tr.of xs c r).s2 = ps.txt (A 2) c r := by
  by_cases hx : ∃ y ∈ xs, y.c = c ∧ y.r = r
  · obtain ⟨y, hy, rfl, rfl⟩ := hx
    rw [Tr.of_mem h.one hy]
    exact h.txt y hy
  · have hx' : ∀ y ∈ xs, ¬ (y.c = c ∧ y.r = r) := fun y hy e => hx ⟨y, hy, e⟩
    rw [Tr.of_no hx', h.no hx' (by decide), h.no hx' (by decide), h.no hx' (by decide)]
    exact ⟨rfl, rfl, rfl⟩
theorem txt_snoc {l : List ps.Fl} {f : ps.Fl} (h : ∀ x ∈ l, ¬ (x.c = f.c ∧ x.r = f.r)) (c r : Int) : ps.txt (l ++ [f]) c r = if f.c = c ∧ f.r = r then f.s else ps.txt l c r := by
  induction l with
  | nil =>
    rw [List.nil_append, ps.txt_cons, ps.txt_nil]
    by_cases e : ps.at' f c r = true
    · rw [if_pos e, if_pos (ps.at_iff.1 e)]
    · rw [if_neg e, if_neg fun e2 => e (ps.at_iff.2 e2)]
  | cons x l ih =>
    rw [List.cons_append, ps.txt_cons, ps.txt_cons, ih fun y hy => h y (by simp [hy])]
    by_cases e : ps.at' x c r = true
    · rw [if_pos e, if_pos e, if_neg]
      rintro ⟨rfl, rfl⟩
      exact h x (by simp) (ps.at_iff.1 e)
    · rw [if_neg e, if_neg e]
open Classical in
/-- The table with one text more. -/
noncomputable def putT (xs : List Tr) (i : Nat) (f : ps.Fl) : List Tr := ((Tr.of xs f.c f.r).set i f.s) :: xs.filter fun x => decide (kvT x ≠ kvT ((Tr.of xs f.c f.r).set i f.s))
theorem Tr.set_of_c (xs : List Tr) (i : Nat) (f : ps.Fl) : ((Tr.of xs f.c f.r).set i f.s).c = f.c ∧ ((Tr.of xs f.c f.r).set i f.s).r = f.r := by
  rw [Tr.set_c, Tr.set_r]
  exact Tr.of_cr xs f.c f.r
open Classical in
theorem putT_mem {xs : List Tr} {i : Nat} {f : ps.Fl} {x : Tr} : x ∈ putT xs i f ↔ x = (Tr.of xs f.c f.r).set i f.s ∨ (x ∈ xs ∧ ¬ (x.c = f.c ∧ x.r = f.r)) := by
  unfold putT
  rw [List.mem_cons, List.mem_filter, decide_eq_true_eq]
  have := Tr.set_of_c xs i f
  rw [ne_eq, kvT_iff, this.1, this.2]
theorem TB.put {xs : List Tr} {A : Nat → List ps.Fl} (h : TB xs A) {i : Nat} (hi : i < 3) {f : ps.Fl} (hf : ∀ x ∈ A i, ¬ (x.c = f.c ∧ x.r = f.r)) (hg : (1 ≤ f.c ∧ f.c ≤ 26) ∧ 1 ≤ f.r ∧ f.r ≤ 99) : TB (putT xs i f) fun j => if j = i then A i ++ [f] else A j := by
  have hcr := Tr.set_of_c xs i f
  refine ⟨fun x hx y hy e1 e2 => ?_, ?_, fun x hx => ?_, fun j hj g hg2 => ?_, fun x hx => ?_⟩
  · rcases putT_mem.1 hx with rfl | ⟨hx, nx⟩
    · rcases putT_mem.1 hy with rfl | ⟨hy, ny⟩
      · rfl
      · exact absurd ⟨e1.symm.trans hcr.1, e2.symm.trans hcr.2⟩ ny
    · rcases putT_mem.1 hy with rfl | ⟨hy, ny⟩
      · exact absurd ⟨e1.trans hcr.1, e2.trans hcr.2⟩ nx
      · exact h.one x hx y hy e1 e2
  · unfold putT
    refine List.nodup_cons.2 ⟨fun hm => ?_, h.nd.filter _⟩
    have := (List.mem_filter.1 hm).2
    simp at this
  · have hset : ∀ c r, f.c = c → f.r = r → ((Tr.of xs f.c f.r).set i f.s).s0 = ps.txt (if 0 = i then A i ++ [f] else A 0) c r ∧ ((Tr.of xs f.c f.r).set i f.s).s1 = ps.txt (if 1 = i then A i ++ [f] else A 1) c r ∧ ((Tr.of xs f.c f.r).set i f.s).s2 = ps.txt (if 2 = i then A i ++ [f] else A 2) c r := by
      rintro c r rfl rfl
      obtain ⟨o0, o1, o2⟩ := h.of f.c f.r
      have hs := txt_snoc hf f.c f.r
      rw [if_pos ⟨rfl, rfl⟩] at hs
      have : i = 0 ∨ i = 1 ∨ i = 2 := by omega
      rcases this with rfl | rfl | rfl
      · exact ⟨hs.symm, o1, o2⟩
      · exact ⟨o0, hs.symm, o2⟩
      · exact ⟨o0, o1, hs.symm⟩
    rcases putT_mem.1 hx with rfl | ⟨hx, nx⟩
    · exact hset _ _ hcr.1.symm hcr.2.symm
    · obtain ⟨o0, o1, o2⟩ := h.txt x hx
      have hs := txt_snoc hf x.c x.r
      rw [if_neg fun e => nx ⟨e.1.symm, e.2.symm⟩] at hs
      have : i = 0 ∨ i = 1 ∨ i = 2 := by omega
      rcases this with rfl | rfl | rfl
      · exact ⟨o0.trans hs.symm, o1, o2⟩
      · exact ⟨o0, o1.trans hs.symm, o2⟩
      · exact ⟨o0, o1, o2.trans hs.symm⟩
  · by_cases e : f.c = g.c ∧ f.r = g.r
    · exact ⟨_, putT_mem.2 (.inl rfl), hcr.1.trans e.1, hcr.2.trans e.2⟩
    · have hg3 : g ∈ A j := by
        split at hg2
        · rename_i e2
          subst e2
          rcases List.mem_append.1 hg2 with h2 | h2
          · exact h2
          · obtain rfl := List.mem_singleton.1 h2
            exact absurd ⟨rfl, rfl⟩ e
        · exact hg2
      obtain ⟨x, hx, e1, e2⟩ := h.has j hj g hg3
      exact ⟨x, putT_mem.2 (.inr ⟨hx, fun e3 => e ⟨e3.1.symm.trans e1, e3.2.symm.trans e2⟩⟩), e1, e2⟩
  · rcases putT_mem.1 hx with rfl | ⟨hx, -⟩
    · rw [hcr.1, hcr.2]
      exact hg
    · exact h.grid x hx
/-- A table's rows as they stand. -/
def ltT (x y : Tr) : Prop := x.r < y.r ∨ (x.r = y.r ∧ x.c < y.c)
theorem TB.sorted {xs : List Tr} {A : Nat → List ps.Fl} (h : TB xs A) : ∃ ys : List Tr, xs.Perm ys ∧ ys.Pairwise ltT := by
  have hp : (xs.mergeSort fun x y => decide (x.r < y.r ∨ (x.r = y.r ∧ x.c ≤ y.c))).Perm xs := List.mergeSort_perm _ _
  have hs := List.pairwise_mergeSort (le := fun x y : Tr => decide (x.r < y.r ∨ (x.r = y.r ∧ x.c ≤ y.c))) (fun a b c h1 h2 => by simp at h1 h2 ⊢; omega) (fun a b => by simp; omega) xs
  refine ⟨_, hp.symm, ?_⟩
  have hn : (xs.mergeSort fun x y => decide (x.r < y.r ∨ (x.r = y.r ∧ x.c ≤ y.c))).Nodup := hp.nodup_iff.2 h.nd
  generalize xs.mergeSort (fun x y => decide (x.r < y.r ∨ (x.r = y.r ∧ x.c ≤ y.c))) = ys at *
  refine (List.pairwise_and_iff.2 ⟨hs, hn⟩).imp_of_mem fun {x y} hx hy ⟨h1, h2⟩ => ?_
  have h3 := of_decide_eq_true h1
  unfold ltT
  by_cases e : x.c = y.c ∧ x.r = y.r
  · exact absurd (h.one x (hp.mem_iff.1 hx) y (hp.mem_iff.1 hy) e.1 e.2) h2
  · omega
end Go.Proofs.YtomgjjngkffbbaaGreatDoor.fw

/- The keys of a map, collected: maps.Keys and its iterator, slices.AppendSeq, slices.Collect, at a map of cells. Conditions: as each theorem says. -/
namespace Go.Proofs.YtomgjjngkffbbaaGreatDoor.fw
open Go Go.RowKit Go.Sort Go.Maps Go.Shelf
/-- How a cell lies. -/
abbrev cr2 (x : Tr) : List Value := [.int .i64 x.c, .int .i64 x.r]
def crF (xs : List Tr) : List Value := xs.flatMap cr2
theorem mg_walks {w w' : World} {b : Nat} {xs : List Tr} (h : MT w b xs) (hk : KeepsWalks w w') : MT w' b xs := by
  obtain ⟨es, ⟨a, clock, h1, h2⟩, h3⟩ := h
  exact ⟨es, ⟨a, clock, hk.same b _ h1 rfl, h2⟩, h3⟩
set_option maxRecDepth 1000000 in
set_option maxHeartbeats 8000000 in
theorem keysN_in (F : Fence) (n : Nat) (h8 : F.fn 58) (hro : F.round = none) (hn : 1 ≤ n) (l Bm b : Nat) (xs : List Tr) (J : List Tr → World → Prop)
    (hY : ∀ pre x W, J pre W → pre.length < xs.length → YieldAt F (n - 1) Tryz.prog l #[kvT x] W fun e W' => e = .returned (.bool true) ∧ J (pre ++ [x]) W' ∧ KeepsWalks W W')
    (W : World) (hJ : AbidesFrom W.heap.size J) (hm : W.cell? ⟨Bm, 0, none⟩ = some (.map (some b))) (hM : MT W b xs) (h0 : J [] W) :
    CallsIn F n Tryz.prog 58 #[.func (.yield l) #[] #[], .pointer (some ⟨Bm, 0, none⟩)] W fun e W' => (∃ v, e = .returned v) ∧ ∃ ys : List Tr, ys.Perm xs ∧ J ys W' := by
  obtain ⟨es, hown, hlk⟩ := hM
  have hap := hlk.apart hown keyC
  have hlen : Maps.size (.map es) = xs.length := hlk.len
  refine callsIn_of_wp Tryz.func58 rfl h8 ?_ hro
  simp only [Tryz.ntmps58, List.size_toArray, List.length_cons, List.length_nil, Nat.reduceAdd, Nat.reduceSub, Array.replicate_succ, Array.replicate_zero, List.push_toArray, List.append_toArray, List.nil_append, List.cons_append]
  gi_wp2_with (first
    | (gi_at_range; refine wpListIn_range_own _ rfl _ 57 rfl 43 63 keyC under_table _ b xs.length _ rfl hown ?_; intro w0 hrg0 hg0 hs0)
    | gi_in)
  go_frame
  gi_loopw [3] (fun _ wr => ∃ (left : Lit → Bool) (cnt : Nat) (ps' : List Tr), wr.ranges Tryz.prog 43 mpg.anyR b W.heap.size xs.length (.map es) left cnt ∧ ps'.length + cnt ≤ xs.length ∧ mpg.Met klT xs ps' left ∧ J ps' wr)
    (fun _ wr => wr.rangeLeft b W.heap.size)
  case atStart =>
    exact ⟨_, _, [], hrg0, by rw [hlen]; simp, mpg.Met.start hlk keyC, hJ [] W w0 none h0 hg0 (fun r e => by cases e)⟩
  case round =>
    obtain ⟨left, cnt, ps', hrg, hcs, hC, hJs⟩ := hrel
    gi_wp2_with (first
      | (gi_at_next; refine wpListIn_next_ranges _ rfl _ rfl 43 keyC mpg.anyR id id (fun key kl hk => ⟨key, rfl⟩) (fun v _ _ => ⟨v, rfl⟩) b W.heap.size xs.length _ _ _ rfl hrg ?_ ?_)
      | gi_in)
    · intro hc0 hl0
      gi_wp2
      go_end0
      exact ⟨⟨_, rfl⟩, ps', hC.all hl0, hJs⟩
    · intro x c kl yd yp w2 cnt2 hkey hlk2 hv hat hrg2 hlt hg2 hs2 hen
      obtain ⟨z, hz, hzc, hzk, hM2⟩ := hC.step hlk hap keyC hlk2 hv hat
      have hx9 : kvT z = x := keyC.inj (hlk.keyed z hz) (by rw [hzk]; exact hkey)
      subst hx9
      have hJ2 : J ps' w2 := hJ ps' wr w2 (some W.heap.size) hJs hg2 (fun r e => by cases e; exact ⟨Nat.le_refl _, hrg.iter_walk⟩)
      have hJ3 : J ps' (w2.alloc (.cells #[.int .i64 z.c, .int .i64 z.r] 43)) := hJ ps' w2 _ none hJ2 (World.grownBy_alloc _ _ none) (fun r e => by cases e)
      obtain ⟨fn, tmps, assign, body, hy, hR⟩ := hY ps' z _ hJ3 (by omega)
      dsimp only [kvT] at hy hen
      have hrg3 := hrg2.alloc (.cells #[.int .i64 z.c, .int .i64 z.r] 43)
      obtain ⟨y0, y1⟩ := cells2w (heap_alloc_new w2 (.cells #[.int .i64 z.c, .int .i64 z.r] 43))
      have hsz : (w2.alloc (.cells #[.int .i64 z.c, .int .i64 z.r] 43)).heap.size = w2.heap.size + 1 := by simp
      clear hs2
      dsimp only [id, kvT]
      gi_wp2
      refine hR.mono ?_
      rintro e W3 ⟨rfl, hJ4, hk3⟩
      gi_wp2
      have hrg4 := hrg3.of_walks hk3
      go_roundw
      case rel => exact ⟨_, cnt2, ps' ++ [z], hrg4, by simp; omega, hM2, hJ4⟩
      case measure => rw [hrg4.left_eq, hrg.left_eq]; exact hlt
/-- maps.Keys(m): the map is boxed; the function value captures the box. -/
theorem keys_in (F : Fence) (n : Nat) (hf : F.fn 41) (hro : F.round = none) (mb : Option Nat) (w : World) :
    CallsIn F n Tryz.prog 41 #[.map mb] w fun e w' => e = .returned (.func (.func 58) #[] #[.pointer (some ⟨w.heap.size, 0, none⟩)]) ∧ w' = w.alloc (.cells #[.map mb] 57) := by
  refine callsIn_of_wp Tryz.func41 rfl hf ?_ hro
  simp only [Tryz.ntmps41, List.size_toArray, List.length_cons, List.length_nil, Nat.reduceAdd, Nat.reduceSub, Array.replicate_succ, Array.replicate_zero, List.push_toArray, List.append_toArray, List.nil_append, List.cons_append]
  gi_wp2
  go_ret
  exact ⟨rfl, rfl⟩
/-- maps.Keys(m) HANDS BACK A VALUE THAT GIVES the map's cells. -/
theorem keys_gives (F : Fence) (n : Nat) (h8 : F.fn 58) (hro : F.round = none) (hn : 1 ≤ n) (Bm b : Nat) (xs : List Tr) (w : World) (hBm : Bm < w.heap.size) (hm : w.cell? ⟨Bm, 0, none⟩ = some (.map (some b))) (hM : MT w b xs) :
    SeqGives F n Tryz.prog 58 #[.pointer (some ⟨Bm, 0, none⟩)] kvT (fun ys => ys.Perm xs) xs.length w := fun l J W hW hJ hY h0 =>
  keysN_in F n h8 hro hn l Bm b xs J hY W hJ ((hW.cell (p := ⟨Bm, 0, none⟩) hBm).trans hm) (hM.at (hW.block b hM.lt)) h0
/-! ### slices.AppendSeq(nil, seq) -/
def apAssign : Code := (Code.region 2 #[{ dst := some 5, op := Op.alloc 43, type := 0, pos := "iter.go:51", after := #[], guard := none }, { dst := none, op := Op.store 43 (Operand.tmp 5) (Operand.tmp 7), type := 0, pos := "iter.go:51", after := #[{ on := 0, ground := Ground.data }, { on := 0, ground := Ground.phase }], guard := none }] false)
def apBody : Code := (Code.block 1 (Code.region 3 #[{ dst := some 8, op := Op.load 33 (Operand.tmp 2), type := 33, pos := "iter.go:52", after := #[], guard := none }, { dst := some 9, op := Op.load 43 (Operand.tmp 5), type := 43, pos := "iter.go:52", after := #[], guard := none }, { dst := some 10, op := Op.buildSlice 33 1 #[(0, Operand.tmp 9)], type := 33, pos := "iter.go:52", after := #[{ on := 1, ground := Ground.data }], guard := none }, { dst := some 11, op := Op.call { callee := Callee.builtin Builtin.append, args := #[Operand.tmp 8, Operand.tmp 10], argTypes := #[33, 33] }, type := 33, pos := "iter.go:52", after := #[{ on := 0, ground := Ground.data }, { on := 2, ground := Ground.data }], guard := none }, { dst := none, op := Op.store 33 (Operand.tmp 2) (Operand.tmp 11), type := 0, pos := "iter.go:52", after := #[{ on := 3, ground := Ground.data }, { on := 3, ground := Ground.chain }, { on := 0, ground := Ground.phase }, { on := 1, ground := Ground.phase }, { on := 2, ground := Ground.phase }, { on := 3, ground := Ground.phase }], guard := none }] false))
/-- The loop's record: AppendSeq's temporaries as they stood at the entering. -/
def apRec (fn : FuncId) (sv : Value) (Bs D : Nat) (st : LoopState) (pend : Option Code) : Loop :=
  { state := st, pending := pend, fn, tmps := #[.slice none 0 0, sv, .pointer (some ⟨Bs, 0, none⟩), undef, .slice none 0 0, undef, sv, undef, undef, undef, undef, undef, undef], params := #[7], assign := apAssign, body := apBody, defers := D }
/-- Between two rounds. -/
structure ApAt (w0 : World) (fn : FuncId) (sv : Value) (Bs l D : Nat) (ss : List Tr) (W : World) : Prop where
  box : ∃ v, W.heap[Bs]? = some (.cells #[v] 33 (0, 0)) ∧ W.ownsRow w0.heap.size 43 2 v ss.length (crF ss)
  L : W.heap[l]? = some (.loop (apRec fn sv Bs D .ready none))
  K : W.heap[D]? = some (.deferred (some []))
  below : Below w0.heap.size w0 W
theorem ap_abides (w0 : World) (fn : FuncId) (sv : Value) (Bs l D B : Nat) (hB : w0.heap.size ≤ B) : AbidesFrom B (ApAt w0 fn sv Bs l D) := fun s W W' row h hg hrow => by
  have hrow' : ∀ r, row = some r → ∃ o : Obj, W.heap[r]? = some o ∧ o.isWalk = true := fun r e => (hrow r e).2
  obtain ⟨v, hv, hr⟩ := h.box
  exact ⟨⟨v, (grownBy_keeps hg hrow' hv rfl).trans hv, ownsRow_abides_a hr hg hrow'⟩, (grownBy_keeps hg hrow' h.L rfl).trans h.L, (grownBy_keeps hg hrow' h.K rfl).trans h.K,
    h.below.grown hg h.below.size (fun k e => Nat.le_trans hB (hrow k e).1)⟩
theorem infoCr : (Tryz.prog.info? 43).map (fun i => (i.zero, i.size, i.bytes)) = some (some (.agg #[.int .i64 0, .int .i64 0]), 2, 16) := by kernel_rfl
theorem crF_snoc (ss : List Tr) (x : Tr) : crF (ss ++ [x]) = crF ss ++ cr2 x := by unfold crF; rw [List.flatMap_append]; simp
set_option maxRecDepth 1000000 in
set_option maxHeartbeats 8000000 in
theorem ap_yield (F : Fence) (m : Nat) (w0 : World) (fn : FuncId) (hfn : F.fn fn) (sv : Value) (Bs l D : Nat) (hBl : Bs ≠ l) (hDl : D ≠ l) (hDB : D ≠ Bs) (h0B : w0.heap.size ≤ Bs) (h0l : w0.heap.size ≤ l)
    (N : Nat) (hN : N ≤ 1000) (ss : List Tr) (x : Tr) (W : World) (h : ApAt w0 fn sv Bs l D ss W) (hlen : ss.length < N) :
    YieldAt F m Tryz.prog l #[kvT x] W fun e W' => e = .returned (.bool true) ∧ ApAt w0 fn sv Bs l D (ss ++ [x]) W' ∧ KeepsWalks W W' := by
  have hne : (33 : Nat) ≠ 43 := by decide
  obtain ⟨i0, hi, hz0, hz1, hz2⟩ := info_parts infoCr
  refine ⟨fn, #[.slice none 0 0, sv, .pointer (some ⟨Bs, 0, none⟩), undef, .slice none 0 0, undef, sv, kvT x, undef, undef, undef, undef, undef], apAssign, apBody, by simpa [apRec] using run_yield (P := Tryz.prog) (args := #[kvT x]) h.L rfl, roundIn_of_wpIn hfn ?_⟩
  obtain ⟨W1, hW1⟩ : ∃ W1, W.alloc (.cells #[.int .i64 x.c, .int .i64 x.r] 43) = W1 := ⟨_, rfl⟩
  have h1 : ApAt w0 fn sv Bs l D ss W1 := by
    rw [← hW1]
    exact ap_abides w0 fn sv Bs l D w0.heap.size (Nat.le_refl _) ss W _ none h (World.grownBy_alloc _ _ none) (fun r e => by cases e)
  have hkw : KeepsWalks W W1 := by rw [← hW1]; exact KeepsWalks.alloc _ _
  have hx1 : W1.heap[W.heap.size]? = some (.cells #[.int .i64 x.c, .int .i64 x.r] 43) := by rw [← hW1]; exact heap_alloc_new W _
  have h0W : w0.heap.size ≤ W.heap.size := h.below.size
  have hWl : ∀ {j : Nat} {o : Obj}, W.heap[j]? = some o → j ≠ W.heap.size := fun hj e => by
    have := (Array.getElem?_eq_some_iff.1 hj).1
    omega
  have hnl := hWl h.L
  have hnD := hWl h.K
  have hnB := hWl h.box.choose_spec.1
  unfold apAssign
  dsimp only [kvT]
  gi_wp2_with (rw [Oper.semAt_eq _ _ _ (fun c h => by cases h)]; go_simp; try go_bits)
  obtain ⟨v, hv, hrow⟩ := h1.box
  have hl : l < W1.heap.size := (Array.getElem?_eq_some_iff.1 h1.L).1
  have hbr := run_beginRound (P := Tryz.prog) h1.L rfl
  obtain ⟨W2, hW2⟩ : ∃ W2, W1.putObj l (.loop { apRec fn sv Bs D .ready none with state := .busy }) = W2 := ⟨_, rfl⟩
  rw [hW2] at hbr
  refine ⟨W2, hbr, ?_⟩
  have hg2 : W1.grownBy W2 (some l) := by rw [← hW2]; exact grownBy_putObj_a _ _ _
  have hk2 : KeepsWalks W1 W2 := by rw [← hW2]; exact KeepsWalks.putObj _ h1.L rfl
  have hv2 : W2.heap[Bs]? = some (.cells #[v] 33 (0, 0)) := by rw [← hW2]; exact (World.putObj_heap_other hBl).trans hv
  have hx2 : W2.heap[W.heap.size]? = some (.cells #[.int .i64 x.c, .int .i64 x.r] 43) := by rw [← hW2]; exact (World.putObj_heap_other (fun e => hnl e.symm)).trans hx1
  have hK2 : W2.heap[D]? = some (.deferred (some [])) := by rw [← hW2]; exact (World.putObj_heap_other hDl).trans h1.K
  have hL2 : W2.heap[l]? = some (.loop { apRec fn sv Bs D .ready none with state := .busy }) := by rw [← hW2]; exact World.putObj_heap_same hl
  have hrow2 : W2.ownsRow w0.heap.size 43 2 v ss.length (crF ss) := hrow.kept hg2 (ownsRow_ne_a hrow h1.L (fun cur e => by cases e))
  have hb2 : Below w0.heap.size w0 W2 := h1.below.grown hg2 h1.below.size (fun k e => by cases e; exact h0l)
  obtain ⟨hc2, hf2⟩ := cell_of_box_a hv2
  obtain ⟨q0, q1⟩ := cells2w hx2
  have hBlt : Bs < W2.heap.size := (Array.getElem?_eq_some_iff.1 hv2).1
  have hl2 : l < W2.heap.size := (Array.getElem?_eq_some_iff.1 hL2).1
  have hDlt : D < W2.heap.size := (Array.getElem?_eq_some_iff.1 hK2).1
  have ne_of : ∀ {j : Nat} {o : Obj}, W2.heap[j]? = some o → (∀ cur, o ≠ .cells cur 43 (0, 0)) → some j ≠ v.ownBlock := fun hj hno => by
    rcases ownsRow_ne_a hrow2 hj hno with e | e
    · rw [e]; simp
    · exact fun e' => e e'.symm
  have hmax : maxLen = 9223372036854775807 := rfl
  clear hW2 hW1
  unfold apBody
  gi_wp2_with (first
    | (gi_at_builtin; refine wpListIn_append_own _ rfl _ _ 33 rfl w0.heap.size 43 i0 (.agg #[.int .i64 0, .int .i64 0]) 2 16 Tryz.underlying33 hi hz0 hz1 hz2 rfl (by decide) _ _ _ rfl (hrow2.alloc _) ⟨W2.heap.size, 0, none⟩ 1 1 (cr2 x) rfl rfl (World.news_of_block (heap_alloc_new W2 _)) (by simp [Value.oneCell', cr2]) (by omega) (by omega) (by have := hb2.size; simp; omega) ?_; intro v' w3 hown' hg3 hnil3
       have hv3 : w3.heap[Bs]? = some (.cells #[v] 33 (0, 0)) := (hg3.block Bs (by simp; omega) (ne_of hv2 (fun cur e => by cases e))).trans ((Below.heap_alloc _ _ Bs hBlt).trans hv2)
       obtain ⟨hc3, hf3⟩ := cell_of_box_a hv3
       obtain ⟨g', cap', cur', rfl, hbase', hgb', hr1, hr2, hr3, hr4⟩ : ∃ g' cap' cur', v' = .slice (some ⟨g', 0, none⟩) (ss.length + 1) cap' ∧ w0.heap.size ≤ g' ∧ w3.heap[g']? = some (.cells cur' 43 (0, 0)) ∧ ss.length + 1 ≤ cap' ∧ cap' ≤ maxLen ∧ cur'.size = cap' * 2 ∧ cur'.toList.take ((ss.length + 1) * 2) = crF ss ++ cr2 x := by
         rcases hown'.2 with ⟨_, h0⟩ | h'
         · exact absurd h0 (by omega)
         · exact h'
       go_frame)
    | (rw [Oper.semAt_eq _ _ _ (fun c h => by cases h)]; go_simp; try go_bits))
  have hg3' : (W2.alloc (.cells #[.int .i64 x.c, .int .i64 x.r] 43)).grownBy w3 v.ownBlock := hg3
  have hL3 : w3.heap[l]? = some (.loop { apRec fn sv Bs D .ready none with state := .busy }) := (hg3'.block l (by simp; omega) (ne_of hL2 (fun cur e => by cases e))).trans ((Below.heap_alloc _ _ l hl2).trans hL2)
  have hK3 : w3.heap[D]? = some (.deferred (some [])) := (hg3'.block D (by simp; omega) (ne_of hK2 (fun cur e => by cases e))).trans ((Below.heap_alloc _ _ D hDlt).trans hK2)
  obtain ⟨w4, hw4⟩ : ∃ w4, w3.setCell ⟨Bs, 0, none⟩ (.slice (some ⟨g', 0, none⟩) (ss.length + 1) cap') = w4 := ⟨_, rfl⟩
  rw [hw4]
  have hg4 : w3.grownBy w4 (some Bs) := by rw [← hw4]; exact grownBy_setCell0_a _ _ _
  have hv4 : w4.heap[Bs]? = some (.cells #[.slice (some ⟨g', 0, none⟩) (ss.length + 1) cap'] 33 (0, 0)) := by rw [← hw4]; exact heap_setCell_box_a _ hv3
  have hL4 : w4.heap[l]? = some (.loop { apRec fn sv Bs D .ready none with state := .busy }) := (hg4.block l (Array.getElem?_eq_some_iff.1 hL3).1 (fun e => hBl (by cases e; rfl))).trans hL3
  have hK4 : w4.heap[D]? = some (.deferred (some [])) := (hg4.block D (Array.getElem?_eq_some_iff.1 hK3).1 (fun e => hDB (by cases e; rfl))).trans hK3
  have hrow4 := hown'.kept hg4 (ownsRow_ne_a hown' hv3 (fun cur e => by cases e))
  have hl4 : l < w4.heap.size := (Array.getElem?_eq_some_iff.1 hL4).1
  have hb3 : Below w0.heap.size w0 w3 := (hb2.alloc hb2.size _).grown hg3' (by have := hb2.size; simp; omega) (fun k e => (hrow2.lt k e).1)
  have hb4 : Below w0.heap.size w0 w4 := hb3.grown hg4 hb3.size (fun k e => by cases e; exact h0B)
  have hk4 : KeepsWalks W1 w4 := ((hk2.trans (KeepsWalks.alloc _ _)).trans (KeepsWalks.of_grownBy hg3' (ownsRow_not_walk_a (hrow2.alloc _)))).trans (by rw [← hw4]; exact KeepsWalks.setCell _ _ _)
  clear hw4
  refine ⟨_, _, run_endRound none hL4, rfl, ⟨⟨_, (World.putObj_heap_other hBl).trans hv4, ?_⟩, World.putObj_heap_same hl4, (World.putObj_heap_other hDl).trans hK4, hb4.grown (grownBy_putObj_a _ _ _) hb4.size (fun k e => by cases e; exact h0l)⟩, hkw.trans (hk4.trans (KeepsWalks.putObj _ hL4 rfl))⟩
  have := hrow4.kept (grownBy_putObj_a w4 l (.loop { { apRec fn sv Bs D .ready none with state := .busy } with state := if (none : Option Code).isNone then .ready else .done, pending := none })) (ownsRow_ne_a hrow4 hL4 (fun cur e => by cases e))
  rw [crF_snoc, List.length_append]
  simpa using this
set_option maxRecDepth 1000000 in
set_option maxHeartbeats 8000000 in
/-- slices.AppendSeq(nil, seq), against whatever iterator value that gives cells with their texts. -/
theorem appendSeq_in (F : Fence) (n : Nat) (h11 : F.fn 75) (hro : F.round = none) (hn : 2 ≤ n) (g : Nat) (lb : Array Value) (hFg : F.fn g) (eg : ∀ args w, (callFunc g args).run Tryz.prog w = .ok (.enter g args) w)
    (S : List Tr → Prop) (N : Nat) (hN : N ≤ 1000) (w : World) (hseq : SeqGives F (n - 1) Tryz.prog g lb kvT S N w) :
    CallsIn F n Tryz.prog 75 #[.slice none 0 0, .func (.func g) #[] lb] w fun e w' => ∃ (v : Value) (ss : List Tr), e = .returned v ∧ S ss ∧ w'.ownsRow w.heap.size 43 2 v ss.length (crF ss) ∧ Below w.heap.size w w' := by
  have h1 : 1 ≤ n := by omega
  refine callsIn_of_wp_marks Tryz.func75 rfl h11 ?_ hro
  simp only [Tryz.ntmps75, List.size_toArray, List.length_cons, List.length_nil, Nat.reduceAdd, Nat.reduceSub, Array.replicate_succ, Array.replicate_zero, List.push_toArray, List.append_toArray, List.nil_append, List.cons_append]
  gi_wp2
  refine wpIn_rangeFunc ?_
  intro fn hfn
  rw [hro]
  obtain ⟨W0, hW0⟩ : ∃ W0, w.alloc (.cells #[.slice none 0 0] 33) = W0 := ⟨_, rfl⟩
  have hs0 : W0.heap.size = w.heap.size + 1 := by rw [← hW0]; simp
  have hv0 : W0.heap[w.heap.size]? = some (.cells #[.slice none 0 0] 33 (0, 0)) := by rw [← hW0]; exact World.alloc_heap_new w _
  have hb0 : Below w.heap.size w W0 := by rw [← hW0]; exact (Below.refl _ w).alloc (Nat.le_refl _) _
  rw [hW0]
  obtain ⟨W1, hW1⟩ : ∃ W1, (W0.alloc (.deferred (some []))).alloc (.loop (apRec fn (.func (.func g) #[] lb) w.heap.size W0.heap.size .ready none)) = W1 := ⟨_, rfl⟩
  have hold : ∀ k, k < W0.heap.size → W1.heap[k]? = W0.heap[k]? := fun k hk => by
    rw [← hW1]; exact (Below.heap_alloc _ _ k (by simp; omega)).trans (Below.heap_alloc _ _ k hk)
  have hb1 : Below w.heap.size w W1 := by rw [← hW1]; exact (hb0.alloc hb0.size _).alloc (by have := hb0.size; simp; omega) _
  have hs1 : W1.heap.size = W0.heap.size + 2 := by rw [← hW1]; simp
  have hM : ApAt w fn (.func (.func g) #[] lb) w.heap.size (W0.heap.size + 1) W0.heap.size [] W1 :=
    ⟨⟨_, (hold w.heap.size (by omega)).trans hv0, ⟨rfl, .inl ⟨rfl, rfl⟩⟩⟩,
     by rw [← hW1]; have := World.alloc_heap_new (W0.alloc (.deferred (some []))) (.loop (apRec fn (.func (.func g) #[] lb) w.heap.size W0.heap.size .ready none)); rwa [World.size_alloc] at this,
     by rw [← hW1]; exact (Below.heap_alloc _ _ _ (by simp)).trans (World.alloc_heap_new W0 _), hb1⟩
  refine ⟨W0.heap.size + 1, [{ target := .collected W0.heap.size, args := #[] }], W1, { target := .fn (.func g) lb, args := #[.func (.yield (W0.heap.size + 1)) #[] #[]] }, W1, g,
    #[.func (.yield (W0.heap.size + 1)) #[] #[]] ++ lb, W1, ?_, ?_, ?_, ?_, fun _ => h1, ?_⟩
  · rw [← hW1]; exact run_enterLoop_outer _ _ _ _ _
  · simp [resolve, go_sem]
  · intro f' hf'; simp [Target.leads] at hf'; subst hf'; exact hFg
  · simp [invoke, go_sem, eg]
  · refine (hseq (W0.heap.size + 1) (ApAt w fn (.func (.func g) #[] lb) w.heap.size (W0.heap.size + 1) W0.heap.size) W1 hb1 (ap_abides _ _ _ _ _ _ _ hb1.size)
      (fun pre x W hJ hl => ap_yield F (n - 1 - 1) w fn hfn _ w.heap.size (W0.heap.size + 1) W0.heap.size (by omega) (by omega) (by omega) (Nat.le_refl _) (by omega) N hN pre x W hJ hl) hM).mono ?_
    rintro e W2 ⟨⟨v0, rfl⟩, ss, hS, h2⟩
    obtain ⟨v, hv, hrow⟩ := h2.box
    have hend := run_endLoop (P := Tryz.prog) h2.L (by simp [apRec])
    obtain ⟨W3, hW3⟩ : ∃ W3, W2.putObj (W0.heap.size + 1) (.loop { apRec fn (.func (.func g) #[] lb) w.heap.size W0.heap.size .ready none with state := .exhausted }) = W3 := ⟨_, rfl⟩
    rw [hW3] at hend
    have hg3 : W2.grownBy W3 (some (W0.heap.size + 1)) := by rw [← hW3]; exact grownBy_putObj_a _ _ _
    have hv3 : W3.heap[w.heap.size]? = some (.cells #[v] 33 (0, 0)) := by rw [← hW3]; exact (World.putObj_heap_other (by omega)).trans hv
    have hK3 : W3.heap[W0.heap.size]? = some (.deferred (some [])) := by rw [← hW3]; exact (World.putObj_heap_other (by omega)).trans h2.K
    have hrow3 := hrow.kept hg3 (ownsRow_ne_a hrow h2.L (fun cur e => by cases e))
    have hb3 : Below w.heap.size w W3 := h2.below.grown hg3 h2.below.size (fun k e => by cases e; omega)
    obtain ⟨hc3, hf3⟩ := cell_of_box_a hv3
    clear hW3
    refine ⟨none, W3, hend, ?_⟩
    gi_wp2
    rw [← hs0]
    refine ⟨by simp, .inl ⟨_, _, rfl, run_takeDeferred hK3, ?_⟩⟩
    exact ⟨_, results_tmp rfl _ _ _, v, ss, rfl, hS, hrow3.kept (grownBy_putObj_a _ _ _) (ownsRow_ne_a hrow3 hK3 (fun cur e => by cases e)), hb3.grown (grownBy_putObj_a _ _ _) hb3.size (fun k e => by cases e; omega)⟩
set_option maxHeartbeats 2000000 in
theorem collect_in (F : Fence) (n : Nat) (h8 : F.fn 56) (h11 : F.fn 75) (hro : F.round = none) (hn : 3 ≤ n) (g : Nat) (lb : Array Value) (hFg : F.fn g) (eg : ∀ args w, (callFunc g args).run Tryz.prog w = .ok (.enter g args) w)
    (S : List Tr → Prop) (N : Nat) (hN : N ≤ 1000) (w : World) (hseq : SeqGives F (n - 1 - 1) Tryz.prog g lb kvT S N w) :
    CallsIn F n Tryz.prog 56 #[.func (.func g) #[] lb] w fun e w' => ∃ (v : Value) (ss : List Tr), e = .returned v ∧ S ss ∧ w'.ownsRow w.heap.size 43 2 v ss.length (crF ss) ∧ Below w.heap.size w w' := by
  have h1 : 1 ≤ n := by omega
  refine callsIn_of_wp Tryz.func56 rfl h8 ?_ hro
  simp only [Tryz.ntmps56, List.size_toArray, List.length_cons, List.length_nil, Nat.reduceAdd, Nat.reduceSub, Array.replicate_succ, Array.replicate_zero, List.push_toArray, List.append_toArray, List.nil_append, List.cons_append]
  gi_wp2_with (gi_at_call 75; refine (appendSeq_in F (n - 1) h11 hro (by omega) g lb hFg eg S N hN _ hseq).mono ?_; rintro e w' ⟨v, ss, rfl, hS, hrow, hb⟩)
  go_ret
  exact ⟨v, ss, rfl, hS, hrow, hb⟩
/-- The values of a map, collected. -/
theorem collect_any (b : Nat) (xs : List Tr) (hl : xs.length ≤ 1000) (Bm : Nat) (w : World) (hBm : Bm < w.heap.size) (hm : w.cell? ⟨Bm, 0, none⟩ = some (.map (some b))) (hM : MT w b xs) :
    Calls Tryz.prog 56 #[.func (.func 58) #[] #[.pointer (some ⟨Bm, 0, none⟩)]] w fun e w' => ∃ (v : Value) (ss : List Tr), e = .returned v ∧ ss.Perm xs ∧ w'.ownsRow w.heap.size 43 2 v ss.length (crF ss) ∧ Below w.heap.size w w' :=
  (callsIn_wide (n := 6)).1 (collect_in Fence.wide 6 trivial trivial rfl (by decide) _ _ trivial (enters_of Tryz.func58 (by kernel_rfl) rfl) (fun ys => ys.Perm xs) xs.length hl w (keys_gives Fence.wide _ trivial rfl (by decide) Bm b xs w hBm hm hM))
end Go.Proofs.YtomgjjngkffbbaaGreatDoor.fw

/- slices.SortFunc at a list of cells; slices.SortedFunc; package merge: table.cells. Conditions: as each theorem says. -/
namespace Go.Proofs.YtomgjjngkffbbaaGreatDoor.ps
open Go.RowKit Go.Sort
open adr (C)
/-- Draws and new blocks, nothing else. -/
def Gr (w w' : World) : Prop := ∃ (q : Nat) (os : Array Obj), w' = grow (w.drewN q) os
theorem Gr.refl (w : World) : Gr w w := ⟨0, #[], by rw [grow_empty]; rfl⟩
theorem Gr.trans {a b c : World} (h : Gr a b) (h2 : Gr b c) : Gr a c := by
  obtain ⟨q, os, rfl⟩ := h
  obtain ⟨q', os', rfl⟩ := h2
  refine ⟨q + q', os ++ os', ?_⟩
  unfold grow World.drewN
  simp [Array.append_assoc, Nat.add_assoc]
theorem Gr.alloc {a b : World} (h : Gr a b) (o : Obj) : Gr a (b.alloc o) := h.trans ⟨0, #[o], by rw [alloc_eq_grow]; rfl⟩
theorem Gr.drew {a b : World} (h : Gr a b) : Gr a b.drew := h.trans ⟨1, #[], by rw [grow_empty]; rfl⟩
theorem Gr.below {a b : World} (h : Gr a b) : Below a.heap.size a b := by
  obtain ⟨q, os, rfl⟩ := h
  refine ⟨rfl, rfl, rfl, by simp [grow, World.drewN], fun k hk => ?_⟩
  simp only [grow, World.drewN]
  rw [Array.getElem?_append_left hk]
structure PG (w : World) (a b c d : Int) (wx : World) : Prop where
  x : wx.heap[w.heap.size]? = some (.cells #[.int .i64 a, .int .i64 b] 43 (0, 0))
  y : wx.heap[w.heap.size + 1]? = some (.cells #[.int .i64 c, .int .i64 d] 43 (0, 0))
  gr : Gr w wx
theorem PG.start (w : World) (a b c d : Int) : PG w a b c d ((w.alloc (.cells #[.int .i64 a, .int .i64 b] 43)).alloc (.cells #[.int .i64 c, .int .i64 d] 43)) :=
  ⟨(PC.start w a b c d).x, (PC.start w a b c d).y, ((Gr.refl _).alloc _).alloc _⟩
theorem PG.next {w : World} {a b c d : Int} {wx wy : World} (h : PG w a b c d wx) (hb : Gr wx wy) : PG w a b c d wy := ⟨(hb.below.block _ (fm.lt_blk h.x)).trans h.x, (hb.below.block _ (fm.lt_blk h.y)).trans h.y, h.gr.trans hb⟩
abbrev PQ (w : World) (a b c d : Int) (wx : World) : Prop := wx.cell? ⟨w.heap.size, 0, none⟩ = some (.int .i64 a) ∧ wx.cell? ⟨w.heap.size, 1, none⟩ = some (.int .i64 b) ∧ wx.cell? ⟨w.heap.size + 1, 0, none⟩ = some (.int .i64 c) ∧ wx.cell? ⟨w.heap.size + 1, 1, none⟩ = some (.int .i64 d) ∧ PG w a b c d wx
theorem PG.opened {w : World} {a b c d : Int} {wx : World} (h : PG w a b c d wx) : PQ w a b c d wx :=
  ⟨by simp [World.cell?, h.x], by simp [World.cell?, h.x], by simp [World.cell?, h.y], by simp [World.cell?, h.y], h⟩
theorem pq {w : World} {a b c d : Int} {wx : World} (h : PQ w a b c d wx) : PG w a b c d wx := h.2.2.2.2
set_option maxRecDepth 100000 in
set_option maxHeartbeats 4000000 in
theorem compare_gr (a b c d : Int) (w : World) :
    Calls Tryz.prog 42 #[C a b, C c d] w fun e w' => e = .returned (.int .i64 (cmpC a b c d)) ∧ Gr w w' := by
  have hS := PG.start w a b c d
  rw [← cmpC_or]
  have HP : Hid (∀ x y wx, Calls Tryz.prog 60 #[.int .i64 x, .int .i64 y] wx fun e w' => e = .returned (.int .i64 (cmpI x y)) ∧ Gr wx w') := fun x y wx => (cmpInt_any x y wx).mono (fun e w' h => by obtain ⟨rfl, rfl⟩ := h; exact ⟨rfl, Gr.refl _⟩)
  have HO : Hid (∀ (p q : Int) (wx : World), Calls Tryz.prog 59 #[.slice (some ⟨wx.heap.size, 0, none⟩) 2 2] (wx.alloc (.cells #[.int .i64 p, .int .i64 q] 3)) fun e w' => e = .returned (.int .i64 (orI p q)) ∧ Gr (wx.alloc (.cells #[.int .i64 p, .int .i64 q] 3)) w') := fun p q wx => (or_any p q wx.heap.size _ (heap_alloc_new _ _)).mono (fun e w' h => by obtain ⟨rfl, rfl⟩ := h; exact ⟨rfl, Gr.refl _⟩)
  go_enter Tryz.func42, Tryz.ntmps42
  go_wp2_with fail
  generalize (w.alloc (.cells #[.int .i64 a, .int .i64 b] 43)).alloc (.cells #[.int .i64 c, .int .i64 d] 43) = W at *
  have h0d := (hS.next (Gr.refl _).drew).opened
  obtain ⟨y0, y1, y2, y3, -⟩ := hS.opened
  go_region_held3 (fun wx => PQ w a b c d wx) (first | exact h0d | exact ((pq (by assumption)).next (by assumption)).opened | exact ((pq (by assumption)).next ((Gr.refl _).alloc _)).opened) (first | (go_at_call 60; refine (HP.out _ _ _).mono ?_; rintro e w1 ⟨rfl, hb1⟩) | (go_at_call 59; refine (HO.out _ _ _).mono ?_; rintro e w3 ⟨rfl, hb3⟩; have hk3 := (pq (by assumption)).next hb3))
  all_goals
    go_wp2_with fail
    go_ret
    exact ⟨rfl, hk3.gr⟩
end Go.Proofs.YtomgjjngkffbbaaGreatDoor.ps
namespace Go.Proofs.YtomgjjngkffbbaaGreatDoor.fw
open Go Go.RowKit Go.Sort Go.Maps Go.Shelf
instance (x y : Tr) : Decidable (ltT x y) := by unfold ltT; infer_instance
def cf39 (x y : Tr) : Int := ps.cmpC x.c x.r y.c y.r
theorem lt39 (x y : Tr) : ltOf cf39 x y = decide (ltT x y) := by
  have := ps.lt_iff (x := ⟨x.c, x.r, nul⟩) (c := y.c) (r := y.r)
  show ps.lt ⟨x.c, x.r, nul⟩ y.c y.r = _
  rw [Bool.eq_iff_iff, this, decide_eq_true_eq]
  rfl
theorem swo39 : SWO (ltOf cf39) where
  irrefl x := by rw [lt39, decide_eq_false_iff_not]; unfold ltT; omega
  trans x y z h1 h2 := by rw [lt39, decide_eq_true_eq] at *; unfold ltT at *; omega
  ntrans x y z h1 h2 := by rw [lt39, decide_eq_false_iff_not] at *; unfold ltT at *; omega
theorem lays39 [Inhabited Tr] (blk off size : Nat) (w : World) : CmpLays Tryz.prog 42 #[] cr2 2 cf39 blk off size w :=
  fun _ _ _ _ x y => ps.compare_gr x.c x.r y.c y.r _
theorem below_sorted {α : Type} [Inhabited α] (enc : α → List Value) (k : Nat) (w : World) (blk off m : Nat) (d : Array α) (os : Array Obj) {base : Nat} (h : base ≤ blk) (hw : base ≤ w.heap.size) : Below base w (sortWorldK enc k w blk off m d os) := by
  refine ⟨rfl, rfl, rfl, size_sortWorldK_c enc k w blk off m d os, fun i hi => ?_⟩
  unfold sortWorldK putRowK putRow mapBlock Go.Sort.ahead grow
  have hs : i < w.heap.size := Nat.lt_of_lt_of_le hi hw
  simp only
  rw [Array.getElem?_append_left (by simpa using hs), Array.getElem?_modify, if_neg (by omega)]
theorem PermIn_list {α : Type} [Inhabited α] {d d' : Array α} (h : PermIn 0 d.size d d') : d.toList.Perm d'.toList := by
  have h2 := h.2.2
  rw [Array.extract_size, show d.size = d'.size from h.1.symm, Array.extract_size] at h2
  exact h2.symm
theorem get_bang {α : Type} [Inhabited α] {l : List α} {i : Nat} (h : i < l.length) : l[i]? = some l[i]! := by
  rw [List.getElem?_eq_getElem h, getElem!_pos l i h]
theorem crF_len (xs : List Tr) : (crF xs).length = xs.length * 2 := by
  induction xs with
  | nil => rfl
  | cons x l ih => unfold crF at ih ⊢; rw [List.flatMap_cons, List.length_append, ih, List.length_cons]; simp; omega
theorem crF_one (xs : List Tr) : ∀ u ∈ crF xs, u.oneCell' = true := by
  intro u hu
  unfold crF at hu
  rw [List.mem_flatMap] at hu
  obtain ⟨x, -, hx⟩ := hu
  simp at hx
  rcases hx with rfl | rfl <;> rfl
theorem crF_at {xs : List Tr} {i : Nat} {x : Tr} (h : xs[i]? = some x) {j : Nat} {v : Value} (hv : (cr2 x)[j]? = some v) : (crF xs)[i * 2 + j]? = some v := by
  have hj : j < 2 := (List.getElem?_eq_some_iff.1 hv).1
  induction xs generalizing i with
  | nil => simp at h
  | cons y l ih =>
    have hy : (cr2 y).length = 2 := rfl
    unfold crF
    rw [List.flatMap_cons]
    cases i with
    | zero =>
      simp at h
      subst h
      rw [Nat.zero_mul, Nat.zero_add, List.getElem?_append_left (by omega)]
      exact hv
    | succ i =>
      rw [List.getElem?_append_right (by omega), show (i + 1) * 2 + j - (cr2 y).length = i * 2 + j from by omega]
      exact ih (by simpa using h)
/-- A list of cells lies at an address. -/
def CM (w : World) (p : Option Addr) (xs : List Tr) : Prop := xs = [] ∨ ∃ g o, p = some ⟨g, o, none⟩ ∧ g < w.heap.size ∧ ∀ (t : Nat) u, (crF xs)[t]? = some u → w.cell? ⟨g, o + t, none⟩ = some u
theorem CM.below {w w' : World} {p : Option Addr} {xs : List Tr} (h : CM w p xs) (hb : Bw w w') : CM w' p xs := by
  rcases h with h | ⟨g, o, rfl, hg, hc⟩
  · exact .inl h
  · exact .inr ⟨g, o, rfl, Nat.lt_of_lt_of_le hg hb.size, fun t u hu => by rw [hb.cell (p := ⟨g, _, none⟩) hg]; exact hc t u hu⟩
theorem CM.at {w : World} {p : Option Addr} {xs : List Tr} (h : CM w p xs) {i : Nat} {x : Tr} (hx : xs[i]? = some x) : ∃ g o, p = some ⟨g, o, none⟩ ∧ g < w.heap.size ∧ w.cell? ⟨g, o + i * 2, none⟩ = some (.int .i64 x.c) ∧ w.cell? ⟨g, o + i * 2 + 1, none⟩ = some (.int .i64 x.r) := by
  rcases h with rfl | ⟨g, o, rfl, hg, hc⟩
  · simp at hx
  · have h0 := hc _ _ (crF_at hx (j := 0) rfl)
    have h1 := hc _ _ (crF_at hx (j := 1) rfl)
    rw [Nat.add_zero] at h0
    rw [← Nat.add_assoc] at h1
    exact ⟨g, o, rfl, hg, h0, h1⟩
/-- A list of one's own lies somewhere. -/
theorem crown_shape {w : World} {base : Nat} {v : Value} {xs : List Tr} (h : w.ownsRow base 43 2 v xs.length (crF xs)) : ∃ p c, v = .slice p xs.length c ∧ CM w p xs := by
  rcases h.2 with ⟨rfl, h0⟩ | ⟨g, cap, cur, rfl, -, hg, hc, -, hs, ht⟩
  · exact ⟨none, 0, by rw [h0], .inl (List.length_eq_zero_iff.1 h0)⟩
  · refine ⟨_, _, rfl, .inr ⟨g, 0, rfl, fm.lt_blk hg, fun t u hu => ?_⟩⟩
    rw [← ht, List.getElem?_take] at hu
    split at hu
    · simp [World.cell?, hg]; simpa using hu
    · cases hu
/-- Whoever sorted them so, it is the same list. -/
theorem sortedT_is {l l' : List Tr} (hs0 : l.Pairwise ltT) (hp : l.Perm l') (hs : ∀ (i j : Nat) (x y : Tr), i < j → l'[i]? = some x → l'[j]? = some y → ¬ ltT y x) : l' = l := by
  have hd' : l'.Pairwise fun x y => ¬ (x.c = y.c ∧ x.r = y.r) := (hp.pairwise_iff (R := fun x y : Tr => ¬ (x.c = y.c ∧ x.r = y.r)) (fun {_ _} h e => h ⟨e.1.symm, e.2.symm⟩)).1 (hs0.imp fun {x y} h => by unfold ltT at h; omega)
  refine List.Perm.eq_of_pairwise (le := ltT) (fun x y _ _ h1 h2 => ?_) ?_ hs0 hp.symm
  · unfold ltT at h1 h2
    omega
  · refine List.pairwise_iff_getElem.2 (fun i j hi hj hij => ?_)
    have h1 := hs i j l'[i] l'[j] hij (List.getElem?_eq_getElem hi) (List.getElem?_eq_getElem hj)
    have h2 := List.pairwise_iff_getElem.1 hd' i j hi hj hij
    unfold ltT at h1 ⊢
    omega
set_option maxHeartbeats 1000000 in
theorem sortF_any (v : Value) (l : List Tr) (base : Nat) (w : World) (hown : w.ownsRow base 43 2 v l.length (crF l)) (hbase : base ≤ w.heap.size) {xs : List Tr} (hd : xs.Pairwise ltT) (hpx : l.Perm xs) (hl : l.length ≤ 1000) :
    Calls Tryz.prog 57 #[v, .func (.func 42) #[] #[]] w fun e w' => e = .returned (.tuple #[]) ∧ (∃ p c, v = .slice p l.length c ∧ CM w' p xs) ∧ Below base w w' := by
  haveI : Inhabited Tr := ⟨⟨0, 0, nul, nul, nul⟩⟩
  have hsh := crown_shape hown
  rcases hown.2 with ⟨rfl, h0⟩ | ⟨g, cap, cur, rfl, hbg, hg, hcap, hm, hz, ht⟩
  · have hcon := AnyF.slices_SortFunc_none Tryz.sortV none 0 (.func (.func 42) #[] #[]) w
    change Calls Tryz.prog 57 _ _ _ at hcon
    refine hcon.mono ?_
    rintro e w' ⟨rfl, rfl⟩
    have e0 : l = [] := List.length_eq_zero_iff.1 h0
    subst e0
    have e1 : xs = [] := List.length_eq_zero_iff.1 (by rw [← hpx.length_eq]; rfl)
    exact ⟨rfl, ⟨none, 0, rfl, .inl e1⟩, Below.refl _ _⟩
  · obtain ⟨p, c, e, hM⟩ := hsh
    injection e with e1 _ e3
    subst e1 e3
    have hlt := fm.lt_blk hg
    have hcell : ∀ (t : Nat) u, (crF l)[t]? = some u → w.cell? ⟨g, t, none⟩ = some u := by
      rcases hM with hM | ⟨g', o', e, -, h3⟩
      · intro t u hu; rw [hM] at hu; simp [crF] at hu
      · injection e with e; injection e with e1 e2; subst e1 e2
        intro t u hu
        have := h3 t u hu
        rwa [Nat.zero_add] at this
    have hH : HoldsK cr2 2 w g 0 l.toArray := by
      intro j hj
      rw [size_flatK] at hj
      have hj' : j < l.length * 2 := by simpa using hj
      have hi : j / 2 < l.length := by omega
      refine ⟨?_, by simp [World.frozen?, hg]⟩
      rw [get_flatK cr2 2 l.toArray j hj, Nat.zero_add]
      refine hcell j _ ?_
      have hx : l[j / 2]? = some l[j / 2] := List.getElem?_eq_getElem hi
      have hj3 : j % 2 < 2 := Nat.mod_lt _ (by decide)
      have hv : (cr2 l[j / 2])[j % 2]? = some (cr2 l[j / 2])[j % 2]! := get_bang (show j % 2 < (cr2 l[j / 2]).length from hj3)
      have := crF_at hx hv
      rw [show j / 2 * 2 + j % 2 = j by omega] at this
      rw [this]
      have e5 : l.toArray[j / 2]! = l[j / 2] := by rw [getElem!_pos _ _ (by simpa using hi)]; simp
      rw [e5]
      rfl
    have hcon := AnyQ.slices_SortFunc Tryz.sortV 2 Tryz.isAgg43 Tryz.sizeOf43 cr2 (fun _ => rfl) (fun x v hv => crF_one [x] v (by simpa [crF] using hv)) cf39 swo39 42 #[] g 0 cap l.toArray w (enters_of Tryz.func42 (by kernel_rfl) rfl) (lays39 g 0 _ w) hH hlt (by simp; omega)
    change Calls Tryz.prog 57 _ _ _ at hcon
    have e6 : l.toArray.size = l.length := by simp
    rw [e6] at hcon
    refine hcon.mono ?_
    rintro e w' ⟨rfl, d', n, os, hp, hs, rfl⟩
    rw [← e6] at hp hs
    have hsz : d'.size = l.length := by have := hp.1; simpa using this
    have hperm : l.Perm d'.toList := by have := PermIn_list hp; simpa using this
    have hL : d'.toList = xs := by
      refine sortedT_is hd (hpx.symm.trans hperm) (fun i j x y hij hx hy => ?_)
      have hj := (List.getElem?_eq_some_iff.1 hy).1
      have hj' : j < d'.size := by simpa using hj
      have h1 := hs i j (Nat.zero_le _) hij (by rw [hsz] at hj'; simpa using hj')
      have ex : d'[i]! = x := by
        rw [getElem!_pos _ i (by omega)]
        have := (List.getElem?_eq_some_iff.1 hx).2
        simpa using this
      have ey : d'[j]! = y := by
        rw [getElem!_pos _ j hj']
        have := (List.getElem?_eq_some_iff.1 hy).2
        simpa using this
      rw [ex, ey, lt39, decide_eq_false_iff_not] at h1
      exact h1
    refine ⟨rfl, ⟨_, _, rfl, ?_⟩, below_sorted cr2 2 w g 0 n d' os hbg hbase⟩
    have hH' : HoldsK cr2 2 (sortWorldK cr2 2 w g 0 n d' os) g 0 d' := holdsK_sortWorldK cr2 2 w g 0 n l.toArray d' os hlt hH (by simpa using hsz)
    refine .inr ⟨g, 0, rfl, lt_sortWorldK cr2 2 w g 0 n d' os hlt, fun t u hu => ?_⟩
    rw [← hL] at hu
    have htl := (List.getElem?_eq_some_iff.1 hu).1
    rw [crF_len] at htl
    have hi : t / 2 < d'.size := by simp at htl; omega
    have hc := (HoldsK.cell hH' hi (c := t % 2) (Nat.mod_lt _ (by decide))).1
    rw [show 0 + t / 2 * 2 + t % 2 = 0 + t by omega] at hc
    rw [hc]
    have hx : d'.toList[t / 2]? = some d'[t / 2]! := by rw [getElem!_pos d' (t / 2) hi]; simp
    have hj3 : t % 2 < 2 := Nat.mod_lt _ (by decide)
    have hv : (cr2 d'[t / 2]!)[t % 2]? = some (cr2 d'[t / 2]!)[t % 2]! := get_bang (show t % 2 < (cr2 d'[t / 2]!).length from hj3)
    have := crF_at hx hv
    rw [show t / 2 * 2 + t % 2 = t by omega, hu] at this
    exact this.symm
set_option maxHeartbeats 2000000 in
/-- slices.SortedFunc(maps.Values(m), ..): the map's cells with their texts, as they stand. -/
theorem sortedFunc_any (b : Nat) (xs : List Tr) (hl : xs.length ≤ 1000) (hs : xs.Pairwise ltT) (Bm : Nat) (w : World) (hBm : Bm < w.heap.size) (hm : w.cell? ⟨Bm, 0, none⟩ = some (.map (some b))) (hM : MT w b xs) :
    Calls Tryz.prog 40 #[.func (.func 58) #[] #[.pointer (some ⟨Bm, 0, none⟩)], .func (.func 42) #[] #[]] w fun e w' => (∃ p c, e = .returned (.slice p xs.length c) ∧ CM w' p xs) ∧ Bw w w' := by
  have HC : Hid (Calls Tryz.prog 56 #[.func (.func 58) #[] #[.pointer (some ⟨Bm, 0, none⟩)]] w fun e w' => ∃ (v : Value) (ss : List Tr), e = .returned v ∧ ss.Perm xs ∧ w'.ownsRow w.heap.size 43 2 v ss.length (crF ss) ∧ Below w.heap.size w w') := collect_any b xs hl Bm w hBm hm hM
  have HS : Hid (xs.Pairwise ltT) := hs
  clear hm hM hs
  go_enter Tryz.func40, Tryz.ntmps40
  go_upto_region 2 with (first | (go_at_call 56; refine HC.out.mono ?_; rintro e w1 ⟨v, ss, rfl, hp, ho, hb⟩))
  have HSo : Hid (Calls Tryz.prog 57 #[v, .func (.func 42) #[] #[]] w1 fun e w' => e = .returned (.tuple #[]) ∧ (∃ p c, v = .slice p ss.length c ∧ CM w' p xs) ∧ Below w.heap.size w1 w') := sortF_any v ss w.heap.size w1 ho hb.size HS.out hp (by rw [hp.length_eq]; exact hl)
  have HB1 : Hid (Bw w w1) := hb
  have HLn : Hid (ss.length = xs.length) := hp.length_eq
  clear hp ho hb HC
  go_wp2_with (first | (go_at_call 57; refine HSo.out.mono ?_; rintro e w2 ⟨rfl, ⟨p, c, rfl, hfm⟩, hb2⟩))
  go_ret
  exact ⟨⟨p, c, by rw [← HLn.out]; rfl, hfm⟩, HB1.out.trans hb2⟩
set_option maxHeartbeats 2000000 in
theorem cells_any (b : Nat) (xs : List Tr) (hl : xs.length ≤ 1000) (hs : xs.Pairwise ltT) (w : World) (hM : MT w b xs) :
    Calls Tryz.prog 28 #[.map (some b)] w fun e w' => (∃ p c, e = .returned (.slice p xs.length c) ∧ CM w' p xs) ∧ Bw w w' := by
  have HV : Hid (Calls Tryz.prog 41 #[.map (some b)] w fun e w' => e = .returned (.func (.func 58) #[] #[.pointer (some ⟨w.heap.size, 0, none⟩)]) ∧ w' = w.alloc (.cells #[.map (some b)] 57)) := (callsIn_wide (n := 3)).1 (keys_in Fence.wide 3 trivial rfl (some b) w)
  have HSo := sortedFunc_any b xs hl hs w.heap.size (w.alloc (.cells #[.map (some b)] 57)) (by simp) (cell_of_box_a (heap_alloc_new w _)).1 (hM.kept (World.grownBy_alloc _ _ none) (by simp))
  have HS2 : Hid (Calls Tryz.prog 40 #[.func (.func 58) #[] #[.pointer (some ⟨w.heap.size, 0, none⟩)], .func (.func 42) #[] #[]] (w.alloc (.cells #[.map (some b)] 57)) fun e w' => (∃ p c, e = .returned (.slice p xs.length c) ∧ CM w' p xs) ∧ Bw (w.alloc (.cells #[.map (some b)] 57)) w') := HSo
  clear HSo hM hs
  go_enter Tryz.func28, Tryz.ntmps28
  go_wp2_with (first | (go_at_call 41; refine HV.out.mono ?_; rintro e w1 ⟨rfl, rfl⟩) | (go_at_call 40; refine HS2.out.mono ?_; rintro e w2 ⟨⟨p, c, rfl, hfm⟩, hb2⟩))
  go_ret
  exact ⟨⟨p, c, rfl, hfm⟩, (Bw.al w _).tr hb2⟩
end Go.Proofs.YtomgjjngkffbbaaGreatDoor.fw

/- Package merge: lay. Conditions: what the package variables hold. -/
namespace Go.Proofs.YtomgjjngkffbbaaGreatDoor.fw
open Go Go.RowKit Go.Sort Go.Maps
/-- A sheet that is handed over: where it lies. -/
structure Sh where
  p : Option Addr
  c : Nat
  xs : List ps.Fl
/-- The first fault of some sheets: a number. -/
def ShT : List Sh → Int → Prop
  | [], t => t = 0
  | s :: l, t => (ps.Told s.xs t ∧ t ≠ 0) ∨ (ps.Told s.xs 0 ∧ ShT l t)
theorem ShT.found {L : List Sh} {i : Nat} {s : Sh} {t : Int} (h0 : ∀ (j : Nat) (s' : Sh), j < i → L[j]? = some s' → ps.Told s'.xs 0) (hi : L[i]? = some s) (h : ps.Told s.xs t) (hn : t ≠ 0) : ShT L t := by
  induction L generalizing i with
  | nil => simp at hi
  | cons x l ih =>
    cases i with
    | zero =>
      have e : x = s := by simpa using hi
      subst e
      exact .inl ⟨h, hn⟩
    | succ i =>
      exact .inr ⟨h0 0 x (by omega) (by simp), ih (i := i) (fun j s' hj hs => h0 (j + 1) s' (by omega) (by simpa using hs)) (by simpa using hi)⟩
theorem ShT.none {L : List Sh} (h0 : ∀ (j : Nat) (s' : Sh), L[j]? = some s' → ps.Told s'.xs 0) : ShT L 0 := by
  induction L with
  | nil => rfl
  | cons x l ih => exact .inr ⟨h0 0 x (by simp), ih fun j s' hs => h0 (j + 1) s' (by simpa using hs)⟩
def xsAt (L : List Sh) (j : Nat) : List ps.Fl := match L[j]? with | some s => s.xs | none => []
theorem xsAt_some {L : List Sh} {j : Nat} {s : Sh} (h : L[j]? = some s) : xsAt L j = s.xs := by unfold xsAt; rw [h]
/-- The sheets as far as they were laid: i of them, and k cells of the next one. -/
def AL (L : List Sh) (i k : Nat) : Nat → List ps.Fl := fun j => if j < i then xsAt L j else if j = i then (xsAt L i).take k else []
theorem AL_zero (L : List Sh) : AL L 0 0 = fun _ => [] := by
  funext j
  unfold AL
  rw [if_neg (Nat.not_lt_zero _)]
  split <;> simp
theorem AL_end {L : List Sh} {i k : Nat} (h : (xsAt L i).length ≤ k) : AL L i k = AL L (i + 1) 0 := by
  funext j
  unfold AL
  by_cases h1 : j < i
  · rw [if_pos h1, if_pos (by omega)]
  · by_cases h2 : j = i
    · subst h2
      rw [if_neg h1, if_pos rfl, if_pos (by omega), List.take_of_length_le h]
    · rw [if_neg h1, if_neg h2, if_neg (by omega)]
      split <;> simp
theorem AL_all (L : List Sh) : AL L L.length 0 = xsAt L := by
  funext j
  unfold AL
  by_cases h1 : j < L.length
  · rw [if_pos h1]
  · have e : xsAt L j = [] := by unfold xsAt; rw [List.getElem?_eq_none (by omega)]
    rw [if_neg h1, e]
    split
    · rename_i h2
      subst h2
      rw [e, List.take_nil]
    · rfl
theorem AL_here (L : List Sh) (i k : Nat) : AL L i k i = (xsAt L i).take k := by unfold AL; rw [if_neg (Nat.lt_irrefl _), if_pos rfl]
theorem AL_succ {L : List Sh} {i k : Nat} {f : ps.Fl} (h : (xsAt L i)[k]? = some f) : (fun j => if j = i then AL L i k i ++ [f] else AL L i k j) = AL L i (k + 1) := by
  funext j
  by_cases h2 : j = i
  · subst h2
    rw [if_pos rfl, AL_here, AL_here, List.take_add_one, h]
    rfl
  · rw [if_neg h2]
    unfold AL
    rw [if_neg h2, if_neg h2]
theorem srt_at {xs : List ps.Fl} (hs : ps.Srt xs) {k : Nat} {f : ps.Fl} (h : xs[k]? = some f) : ∀ x ∈ xs.take k, ¬ (x.c = f.c ∧ x.r = f.r) := fun x hx e => by
  obtain ⟨j, hj⟩ := List.getElem?_of_mem hx
  rw [List.getElem?_take] at hj
  split at hj
  · rename_i hjk
    obtain ⟨h1, h2⟩ := List.getElem?_eq_some_iff.1 hj
    obtain ⟨h3, h4⟩ := List.getElem?_eq_some_iff.1 h
    have := List.pairwise_iff_getElem.1 hs j k h1 h3 hjk
    rw [h2, h4, ps.lt_iff] at this
    omega
  · cases hj
open Classical in
theorem putT_len (xs : List Tr) (i : Nat) (f : ps.Fl) : (putT xs i f).length ≤ xs.length + 1 := by
  unfold putT
  rw [List.length_cons]
  have := List.length_filter_le (fun x => decide (kvT x ≠ kvT ((Tr.of xs f.c f.r).set i f.s))) xs
  omega
theorem make_table (wx : World) : (Instr.makeMap 57 none).run Tryz.prog wx = .ok (.map (some wx.heap.size)) (wx.alloc (.map #[] 0)) := by
  simp [Instr.makeMap, go_sem]
theorem bw_mapT {w wx wy : World} {b : Nat} (h : Bw w wx) (hb : w.heap.size ≤ b) (hg : wx.grownBy wy (some b)) : Bw w wy := h.grown hg h.size (fun k e => by cases e; exact hb)
/-- What is looked up in the table. -/
theorem look_run {w : World} {b n : Nat} {es : List (Lit × DataW Value)} {X : List Tr} (hown : w.ownsMap Tryz.prog 43 mpg.anyR b n (.map es)) (hlk : mpg.Lk Tryz.prog 43 kvT vvT klT es X) (hd : ∀ x ∈ X, ∀ y ∈ X, x.c = y.c → x.r = y.r → x = y) {c r : Int} (hk : keyOf Tryz.prog 43 (kvT ⟨c, r, nul, nul, nul⟩) = some (klT ⟨c, r, nul, nul, nul⟩)) :
    (Instr.lookup 57 (.map (some b)) (.agg #[.int .i64 c, .int .i64 r]) false).run Tryz.prog w = .ok (.agg #[.string (Tr.of X c r).s0, .string (Tr.of X c r).s1, .string (Tr.of X c r).s2]) w := by
  obtain ⟨v, pp, h1, h2⟩ := World.ownsMap.lookup hown keyC under_table (zeroT w) (zd := .held nuls) (zp := []) rfl (key := .agg #[.int .i64 c, .int .i64 r]) hk
  have := lkT_of hlk hd hk
  rw [this] at h2
  unfold mpg.anyR at h2
  cases h2
  exact h1
/-- What stands between two steps of lay. -/
structure LI (w : World) (L : List Sh) (i k : Nat) (X : List Tr) (wr : World) : Prop where
  below : Bw w wr
  mt : MT wr w.heap.size X
  tb : TB X (AL L i k)
  few : X.length ≤ 200 * i + k
  ok : ∀ j s, j < i → L[j]? = some s → ps.Told s.xs 0
theorem LI.next {w : World} {L : List Sh} {i k : Nat} {X : List Tr} {wx wy : World} (h : LI w L i k X wx) (hb : Bw wx wy) : LI w L i k X wy :=
  ⟨h.below.tr hb, h.mt.at (hb.block _ h.mt.lt), h.tb, h.few, h.ok⟩
/-- A row that is stored again. -/
theorem LI.put {w : World} {L : List Sh} {i k : Nat} {X : List Tr} {wx wy wz : World} {es : List (Lit × DataW Value)} {m : Nat} (h : LI w L i k X wx) (hi : i < 3) {x : ps.Fl} (hx : (xsAt L i)[k]? = some x) (hs : ps.Srt (xsAt L i)) (hg : (1 ≤ x.c ∧ x.c ≤ 26) ∧ 1 ≤ x.r ∧ x.r ≤ 99)
    (hlk : mpg.Lk Tryz.prog 43 kvT vvT klT es X) (hk : keyOf Tryz.prog 43 (kvT ((Tr.of X x.c x.r).set i x.s)) = some (klT ((Tr.of X x.c x.r).set i x.s))) (ho : wy.ownsMap Tryz.prog 43 mpg.anyR w.heap.size m ((DataW.map es).put (klT ((Tr.of X x.c x.r).set i x.s)) (.held (vvT ((Tr.of X x.c x.r).set i x.s)))))
    (hb : Bw w wz) (ht : wz.mapTurned wy w.heap.size) : LI w L i (k + 1) (putT X i x) wy := by
  refine ⟨bw_mapT hb (Nat.le_refl _) ht.grown, mpg.MG.put hlk keyC hk ho (List.Perm.refl _), ?_, ?_, h.ok⟩
  · have := h.tb.put hi (f := x) (by rw [AL_here]; exact srt_at hs hx) hg
    rw [AL_succ hx] at this
    exact this
  · have := putT_len X i x
    have := h.few
    omega
theorem cells3z {w : World} {b : Nat} {a0 a1 a2 : Value} {t : TypeId} (h : w.heap[b]? = some (.cells #[a0, a1, a2] t (0, 0))) : w.cell? ⟨b, 0, none⟩ = some a0 ∧ w.cell? ⟨b, 1, none⟩ = some a1 ∧ w.cell? ⟨b, 2, none⟩ = some a2 := by simp [World.cell?, h]
theorem grownBy_setCell_a (W : World) (b i : Nat) (v : Value) : W.grownBy (W.setCell ⟨b, i, none⟩ v) (some b) :=
  ⟨rfl, rfl, rfl, (KeepsWalks.setCell W _ v).size, fun k _ hk => Below.heap_setCell _ _ _ k (fun e => hk (by rw [e]))⟩
/-- What lay answers. -/
def LyO (w : World) (L : List Sh) (t : Int) (e : Ending) (w' : World) : Prop :=
  (t ≠ 0 ∧ e = .returned (.tuple #[.map none, ps.errV t]) ∧ Bw w w') ∨
  (t = 0 ∧ e = .returned (.tuple #[.map (some w.heap.size), .nilIface]) ∧ ∃ X, LI w L L.length 0 X w')
set_option maxRecDepth 1000000 in
set_option maxHeartbeats 8000000 in
theorem lay_any (g c : Nat) (L : List Sh) (w : World) (hL3 : L.length ≤ 3) (hg : g < w.heap.size) (hL : ∀ i s, L[i]? = some s → w.cell? ⟨g, i, none⟩ = some (.slice s.p s.xs.length s.c) ∧ ps.FM w s.p s.xs) (hE : ps.EnvP w) :
    Calls Tryz.prog 27 #[.slice (some ⟨g, 0, none⟩) L.length c] w fun e w' => ∃ t, ShT L t ∧ LyO w L t e w' := by
  obtain ⟨N, hN⟩ : ∃ N, L.length = N := ⟨_, rfl⟩
  have HN : Hid (L.length = N) := hN
  rw [hN] at hL3 ⊢
  have HE : Hid (ps.EnvP w ∧ ∀ i s, L[i]? = some s → w.cell? ⟨g, i, none⟩ = some (.slice s.p s.xs.length s.c) ∧ ps.FM w s.p s.xs) := ⟨hE, hL⟩
  clear hE hL hN
  have hmk := make_table
  go_enter Tryz.func27, Tryz.ntmps27
  go_upto_block 0 with fail
  have HI0 : Hid (LI w L 0 0 [] (w.alloc (.map #[] 0))) := ⟨Bw.al w _, mpg.MG.nil w, by rw [AL_zero]; exact TB.nil, Nat.zero_le _, fun j s hj => absurd hj (Nat.not_lt_zero _)⟩
  clear hmk
  generalize w.alloc (.map #[] 0) = W0 at *
  go_cut [] (fun wx => ∃ X, LI w L N 0 X wx)
  case first =>
    go_wp2_with fail
    go_loopw [14] (fun s14 wr => ∃ (i : Nat) (X : List Tr), s14 = .int .i64 (i : Int) ∧ i ≤ N ∧ Hid (LI w L i 0 X wr)) (fun s14 _ => N - (intOf s14).toNat)
    case atStart => exact ⟨0, [], rfl, Nat.zero_le _, HI0.out⟩
    case round =>
      clear HI0
      obtain ⟨i, X, rfl, hi, HI⟩ := hrel
      have hi0 : (0 : Int) ≤ (i : Int) := by omega
      have hi3 : (i : Int) ≤ 3 := by omega
      by_cases hlt : i < N
      · have hlt' : (i : Int) < (N : Int) := by omega
        obtain ⟨s, hs⟩ : ∃ s, L[i]? = some s := ⟨_, List.getElem?_eq_getElem (by rw [HN.out]; exact hlt)⟩
        have HS : Hid (L[i]? = some s) := hs
        have y0 : wr.cell? ⟨g, i, none⟩ = some (.slice s.p s.xs.length s.c) := by rw [HI.out.below.cell (p := ⟨g, i, none⟩) hg]; exact (HE.out.2 i s hs).1
        have HFM : Hid (ps.FM wr s.p s.xs) := (HE.out.2 i s hs).2.below HI.out.below
        have HC : Hid (Calls Tryz.prog 31 #[.slice s.p s.xs.length s.c] wr fun e w' => (∃ t, e = .returned (ps.errV t) ∧ ps.Told s.xs t) ∧ Bw wr w') := ps.gcheck_any s.p s.c s.xs wr HFM.out (HE.out.1.below HI.out.below HE.out.1.size)
        clear hs
        go_upto_block 1 with fail
        go_cut [] (fun wx => ∃ X', LI w L (i + 1) 0 X' wx)
        case rest =>
          obtain ⟨X', HX'⟩ := hcut
          have HIX : Hid (LI w L (i + 1) 0 X' wc) := HX'
          clear HX' y0
          apply_assumption
          go_wp2_with fail
          exact ⟨⟨i + 1, X', by simp, hlt, HIX.out⟩, by simp [intOf]; omega⟩
        case first =>
        go_upto_region 6 with (first | (go_at_call 31; refine HC.out.mono ?_; rintro e w1 ⟨⟨t, rfl, ht⟩, hb1⟩))
        have HB1 : Hid (Bw wr w1) := hb1
        have HT : Hid (ps.Told s.xs t) := ht
        clear HC hb1 ht y0
        by_cases h0 : t = 0
        · subst h0
          rw [ps.errV_zero]
          have HF : Hid (ps.Fine s.xs) := HT.out.fine
          have HFM1 : Hid (ps.FM w1 s.p s.xs) := HFM.out.below HB1.out
          have HI1 : Hid (LI w L i 0 X w1) := ⟨HI.out.below.tr HB1.out, HI.out.mt.at (HB1.out.block _ HI.out.mt.lt), HI.out.tb, HI.out.few, HI.out.ok⟩
          have HXS : Hid (xsAt L i = s.xs) := xsAt_some HS.out
          obtain ⟨n, hn⟩ : ∃ n, s.xs.length = n := ⟨_, rfl⟩
          have HNn : Hid (s.xs.length = n) := hn
          have hn2 : n ≤ 200 := by rw [← hn]; exact HF.out.len
          have hn3 : (n : Int) ≤ 200 := by omega
          rw [hn]
          clear hn HI HFM HB1
          go_wp2_with fail
          obtain ⟨w9, h9⟩ : ∃ x, x = w1 := ⟨_, rfl⟩
          subst h9
          go_loopw [26] (fun s26 wr => ∃ (k : Nat) (X2 : List Tr), s26 = .int .i64 (k : Int) ∧ k ≤ n ∧ Hid (LI w L i k X2 wr)) (fun s26 _ => n - (intOf s26).toNat)
          case atStart => exact ⟨0, X, rfl, Nat.zero_le _, HI1.out⟩
          case round =>
            clear HI1
            obtain ⟨k, X2, rfl, hk, HJ⟩ := hrel
            have hk0 : (0 : Int) ≤ (k : Int) := by omega
            have hk9 : (k : Int) ≤ 200 := by omega
            by_cases hkn : k < n
            · have hkn' : (k : Int) < (n : Int) := by omega
              obtain ⟨x, hx⟩ : ∃ x, s.xs[k]? = some x := ⟨_, List.getElem?_eq_getElem (by rw [HNn.out]; exact hkn)⟩
              have HX : Hid (s.xs[k]? = some x) := hx
              have hgd : (1 ≤ x.c ∧ x.c ≤ 26) ∧ 1 ≤ x.r ∧ x.r ≤ 99 := adr.isC_iff.1 (HF.out.cell x (List.mem_of_getElem? hx)).1
              have HG : Hid ((1 ≤ x.c ∧ x.c ≤ 26) ∧ 1 ≤ x.r ∧ x.r ≤ 99) := hgd
              have HKL : Hid (keyOf Tryz.prog 43 (.agg #[.int .i64 x.c, .int .i64 x.r]) = some (klT ⟨x.c, x.r, nul, nul, nul⟩)) := klT_of (x := ⟨x.c, x.r, nul, nul, nul⟩) (wf_kc (by dsimp only; omega)) (wf_kc (by dsimp only; omega))
              obtain ⟨gx, ox, hp, -⟩ := ps.FM.at ((HE.out.2 i s HS.out).2.below HJ.out.below) hx
              have hfm : ps.FM wr (some ⟨gx, ox, none⟩) s.xs := by rw [← hp]; exact (HE.out.2 i s HS.out).2.below HJ.out.below
              rw [hp]
              obtain ⟨y0, y1, y2⟩ := ps.FM.cells hfm hx
              clear hx hgd hp hfm
              go_upto_region 11 with fail
              have hi3' : (i : Int) < 3 := by omega
              have hi3n : i < 3 := by omega
              have HJ1 : Hid (LI w L i k X2 (wr.alloc (.cells #[.int .i64 x.c, .int .i64 x.r, .string x.s] 45))) := HJ.out.next (Bw.al wr _)
              have HB0 : Hid ((wr.alloc (.cells #[.int .i64 x.c, .int .i64 x.r, .string x.s] 45)).heap[wr.heap.size]? = some (.cells #[.int .i64 x.c, .int .i64 x.r, .string x.s] 45 (0, 0)) ∧ w.heap.size < wr.heap.size) := ⟨heap_alloc_new wr _, HJ.out.mt.lt⟩
              generalize wr.alloc (.cells #[.int .i64 x.c, .int .i64 x.r, .string x.s] 45) = W1 at *
              generalize wr.heap.size = bf at *
              clear y0 y1 y2
              obtain ⟨c0, c1, c2⟩ := cells3z HB0.out.1
              obtain ⟨es, hown, hlk⟩ := HJ1.out.mt
              have hlook := look_run hown hlk HJ1.out.tb.one HKL.out
              have HLk : Hid (mpg.Lk Tryz.prog 43 kvT vvT klT es X2) := hlk
              have HOw : Hid (W1.ownsMap Tryz.prog 43 mpg.anyR w.heap.size X2.length (.map es)) := hown
              obtain ⟨o, ho⟩ : ∃ o, Tr.of X2 x.c x.r = o := ⟨_, rfl⟩
              have HO : Hid (Tr.of X2 x.c x.r = o) := ho
              rw [ho] at hlook
              clear hlk hown ho
              go_upto_region 12 with fail
              have HJ2 : Hid (LI w L i k X2 (W1.alloc (.cells #[.string o.s0, .string o.s1, .string o.s2] 63)) ∧ (W1.alloc (.cells #[.string o.s0, .string o.s1, .string o.s2] 63)).ownsMap Tryz.prog 43 mpg.anyR w.heap.size X2.length (.map es)) := ⟨HJ1.out.next (Bw.al W1 _), HOw.out.alloc _⟩
              have HB1 : Hid ((W1.alloc (.cells #[.string o.s0, .string o.s1, .string o.s2] 63)).heap[bf]? = some (.cells #[.int .i64 x.c, .int .i64 x.r, .string x.s] 45 (0, 0)) ∧ (W1.alloc (.cells #[.string o.s0, .string o.s1, .string o.s2] 63)).heap[W1.heap.size]? = some (.cells #[.string o.s0, .string o.s1, .string o.s2] 63 (0, 0)) ∧ bf < W1.heap.size) := ⟨((Bw.al W1 _).block _ (fm.lt_blk HB0.out.1)).trans HB0.out.1, heap_alloc_new W1 _, fm.lt_blk HB0.out.1⟩
              generalize W1.alloc (.cells #[.string o.s0, .string o.s1, .string o.s2] 63) = W2 at *
              have hbr : bf ≠ W1.heap.size := by have := HB1.out.2.2; omega
              have hbw : w.heap.size ≠ W1.heap.size := by have := HB1.out.2.2; have := HB0.out.2; omega
              generalize W1.heap.size = br at *
              clear c0 c1 c2 hlook HJ1 HOw
              obtain ⟨c0, c1, c2⟩ := cells3z HB1.out.1
              obtain ⟨oi, hoi⟩ : ∃ oi, W2.cell? ⟨br, i, none⟩ = some oi := by
                obtain ⟨r0, r1, r2⟩ := cells3z HB1.out.2.1
                have : i = 0 ∨ i = 1 ∨ i = 2 := by omega
                rcases this with rfl | rfl | rfl
                · exact ⟨_, r0⟩
                · exact ⟨_, r1⟩
                · exact ⟨_, r2⟩
              have hfz : W2.frozen? ⟨br, i, none⟩ = false := ps.froz HB1.out.2.1 i
              go_upto_region 13 with fail
              have HJ3 : Hid (Bw w (W2.setCell ⟨br, i, none⟩ (.string x.s)) ∧ LI w L i k X2 W2 ∧ (W2.setCell ⟨br, i, none⟩ (.string x.s)).ownsMap Tryz.prog 43 mpg.anyR w.heap.size X2.length (.map es)) := by
                have hgr : W2.grownBy (W2.setCell ⟨br, i, none⟩ (.string x.s)) (some br) := (grownBy_setCell_a W2 br i (.string x.s))
                exact ⟨HJ2.out.1.below.setCell (by show w.heap.size ≤ br; have := HB1.out.2.2; have := HB0.out.2; omega) _, HJ2.out.1, HJ2.out.2.kept hgr (by simp; omega)⟩
              have HB3 : Hid ((W2.setCell ⟨br, i, none⟩ (.string x.s)).heap[bf]? = some (.cells #[.int .i64 x.c, .int .i64 x.r, .string x.s] 45 (0, 0)) ∧ (W2.setCell ⟨br, i, none⟩ (.string x.s)).heap[br]? = some (.cells #[.string (o.set i x.s).s0, .string (o.set i x.s).s1, .string (o.set i x.s).s2] 63 (0, 0))) := by
                refine ⟨(heap_setCell_other W2 _ bf _ hbr).trans HB1.out.1, ?_⟩
                rw [heap_setCell_same W2 br i _ _ _ HB1.out.2.1]
                have : i = 0 ∨ i = 1 ∨ i = 2 := by omega
                rcases this with rfl | rfl | rfl <;> rfl
              clear c0 c1 c2 hoi hfz HJ2 HB1 HB0
              generalize W2.setCell ⟨br, i, none⟩ (.string x.s) = W3 at *
              obtain ⟨c0, c1, c2⟩ := cells3z HB3.out.1
              obtain ⟨r0, r1, r2⟩ := cells3z HB3.out.2
              have HXI : Hid ((xsAt L i)[k]? = some x ∧ ps.Srt (xsAt L i)) := by rw [HXS.out]; exact ⟨HX.out, HF.out.srt⟩
              have hkv : kvT ((Tr.of X2 x.c x.r).set i x.s) = .agg #[.int .i64 x.c, .int .i64 x.r] := by
                have := Tr.set_of_c X2 i x
                unfold kvT
                rw [this.1, this.2]
              have HKL2 : Hid (keyOf Tryz.prog 43 (.agg #[.int .i64 x.c, .int .i64 x.r]) = some (klT ((Tr.of X2 x.c x.r).set i x.s))) := by
                have : klT ((Tr.of X2 x.c x.r).set i x.s) = klT ⟨x.c, x.r, nul, nul, nul⟩ := by unfold klT; rw [hkv]
                rw [this]
                exact HKL.out
              have hmx : X2.length < maxLen := by have := HJ3.out.2.1.few; have e : maxLen = 9223372036854775807 := rfl; omega
              have HMx : Hid (X2.length < maxLen) := hmx
              have HPut : Hid (∀ w', w'.ownsMap Tryz.prog 43 mpg.anyR w.heap.size (X2.length + 1) ((DataW.map es).put (klT ((Tr.of X2 x.c x.r).set i x.s)) (.held (.agg #[.string (o.set i x.s).s0, .string (o.set i x.s).s1, .string (o.set i x.s).s2]))) → W3.mapTurned w' w.heap.size → LI w L i (k + 1) (putT X2 i x) w') := fun w' h1 h2 => by
                refine LI.put (m := X2.length + 1) HJ3.out.2.1 hi3n HXI.out.1 HXI.out.2 HG.out HLk.out ?_ ?_ HJ3.out.1 h2
                · rw [hkv]; exact HKL2.out
                · rw [← HO.out] at h1; exact h1
              clear hkv hmx hbr hbw
              generalize klT ((Tr.of X2 x.c x.r).set i x.s) = kq at *
              generalize (o.set i x.s) = o' at *
              go_wp2_with (first | (at_mapUpdate; refine wpList_mapUpdate_in _ rfl _ _ _ 57 rfl 43 63 keyC under_table mpg.anyR w.heap.size X2.length (.map es) rfl HJ3.out.2.2 HMx.out _ _ kq rfl rfl HKL2.out (.held (.agg #[.string o'.s0, .string o'.s1, .string o'.s2])) [] rfl ?_; intro w3 hown3 hturn3))
              exact ⟨⟨k + 1, putT X2 i x, by simp, hkn, HPut.out w3 hown3 hturn3⟩, by simp [intOf]; omega⟩
            · have hkn' : ¬ (k : Int) < (n : Int) := by omega
              obtain rfl : k = n := by omega
              have HE2 : Hid (LI w L (i + 1) 0 X2 wr) := by
                obtain ⟨a1, a2, a3, a4, a5⟩ := HJ.out
                refine ⟨a1, a2, ?_, by omega, fun j s' hj hs' => ?_⟩
                · rw [← AL_end (k := k) (by rw [HXS.out, HNn.out]; exact Nat.le_refl _)]
                  exact a3
                · by_cases e : j = i
                  · subst e
                    rw [HS.out] at hs'
                    cases hs'
                    exact HT.out
                  · exact a5 j s' (by omega) hs'
              go_wp2_with fail
              go_meet
              case rel => exact ⟨X2, HE2.out⟩
        · have HN2 : Hid (t ≠ 0) := h0
          rw [ps.errV_some h0]
          clear h0
          go_wp2_with fail
          exact bodyPost_ret (v := .tuple #[.map none, .iface 67 (.int .i64 t)]) (by simp [results, Tryz.results27, go_sem]) rfl ⟨t, ShT.found (fun j s' hj hs' => HI.out.ok j s' hj hs') HS.out HT.out HN2.out, .inl ⟨HN2.out, by rw [ps.errV_some HN2.out], HI.out.below.tr HB1.out⟩⟩
      · have hlt' : ¬ (i : Int) < (N : Int) := by omega
        obtain rfl : i = N := by omega
        go_wp2_with fail
        go_meet
        case rel => exact ⟨X, HI.out⟩
  case rest =>
  obtain ⟨X, HX⟩ := hcut
  have HIX : Hid (LI w L N 0 X wc) := HX
  clear HX
  apply_assumption
  go_wp2_with fail
  exact bodyPost_ret (v := .tuple #[.map (some w.heap.size), .nilIface]) (by simp [results, Tryz.results27, go_sem]) rfl ⟨0, ShT.none fun j s hs => HIX.out.ok j s (by rw [← HN.out]; exact (List.getElem?_eq_some_iff.1 hs).1) hs, .inr ⟨rfl, rfl, X, by rw [HN.out]; exact HIX.out⟩⟩
end Go.Proofs.YtomgjjngkffbbaaGreatDoor.fw

/- Package merge: Diff. Conditions: what the package variables hold. -/
namespace Go.Proofs.YtomgjjngkffbbaaGreatDoor.fw
open Go Go.RowKit Go.Sort Go.Maps
theorem MT.perm {w : World} {b : Nat} {X Y : List Tr} (h : MT w b X) (hp : X.Perm Y) : MT w b Y := by
  obtain ⟨es, h1, h2⟩ := h
  rw [hp.length_eq] at h1
  exact ⟨es, h1, h2.perm.trans (hp.map _), fun x hx => h2.keyed x (hp.mem_iff.2 hx)⟩
theorem TB.perm {X Y : List Tr} {A : Nat → List ps.Fl} (h : TB X A) (hp : X.Perm Y) : TB Y A :=
  ⟨fun x hx y hy => h.one x (hp.mem_iff.2 hx) y (hp.mem_iff.2 hy), hp.nodup_iff.1 h.nd, fun x hx => h.txt x (hp.mem_iff.2 hx), fun j hj f hf => by
    obtain ⟨x, hx, e⟩ := h.has j hj f hf
    exact ⟨x, hp.mem_iff.1 hx, e⟩, fun x hx => h.grid x (hp.mem_iff.2 hx)⟩
/-- Two lists in one order that have the same. -/
theorem ord_ext {α : Type} {R : α → α → Prop} (hR : ∀ x y, R x y → ¬ R y x) {a b : List α} (ha : a.Pairwise R) (hb : b.Pairwise R) (h : ∀ x, x ∈ a ↔ x ∈ b) : a = b := by
  have irr : ∀ x, ¬ R x x := fun x hx => hR x x hx hx
  induction a generalizing b with
  | nil =>
    cases b with
    | nil => rfl
    | cons y b => exact absurd ((h y).2 List.mem_cons_self) List.not_mem_nil
  | cons x a ih =>
    cases b with
    | nil => exact absurd ((h x).1 List.mem_cons_self) List.not_mem_nil
    | cons y b =>
      obtain ⟨ha1, ha2⟩ := List.pairwise_cons.1 ha
      obtain ⟨hb1, hb2⟩ := List.pairwise_cons.1 hb
      have e : x = y := by
        rcases List.mem_cons.1 ((h x).1 List.mem_cons_self) with e | e
        · exact e
        · rcases List.mem_cons.1 ((h y).2 List.mem_cons_self) with e2 | e2
          · exact e2.symm
          · exact absurd (ha1 y e2) (hR y x (hb1 x e))
      subst e
      rw [ih ha2 hb2 fun z => ?_]
      constructor
      · intro hz
        rcases List.mem_cons.1 ((h z).1 (List.mem_cons_of_mem _ hz)) with rfl | h2
        · exact absurd (ha1 z hz) (irr z)
        · exact h2
      · intro hz
        rcases List.mem_cons.1 ((h z).2 (List.mem_cons_of_mem _ hz)) with rfl | h2
        · exact absurd (hb1 z hz) (irr z)
        · exact h2
theorem lt_asym {x y : ps.Fl} (h : ps.lt x y.c y.r = true) : ¬ ps.lt y x.c x.r = true := by
  rw [ps.lt_iff] at *
  omega
theorem grid_no {c r : Int} (h : (1 ≤ c ∧ c ≤ 26) ∧ 1 ≤ r ∧ r ≤ 99) : ∃ t, t < 2574 ∧ ps.kc t = c ∧ ps.kr t = r := by
  refine ⟨(r.toNat - 1) * 26 + (c.toNat - 1), ?_, ?_, ?_⟩
  · omega
  · unfold ps.kc; omega
  · unfold ps.kr; omega
/-- What lay answers, in one form. -/
def LyR (w : World) (L : List Sh) (t : Int) (bo : Option Nat) (w' : World) : Prop := (t ≠ 0 ∧ Bw w w') ∨ (t = 0 ∧ bo = some w.heap.size ∧ ∃ X, LI w L L.length 0 X w')
theorem LyO.form {w : World} {L : List Sh} {t : Int} {e : Ending} {w' : World} (h : LyO w L t e w') : ∃ bo, e = .returned (.tuple #[.map bo, ps.errV t]) ∧ LyR w L t bo w' := by
  rcases h with ⟨h1, rfl, h3⟩ | ⟨rfl, rfl, h3⟩
  · exact ⟨none, rfl, .inl ⟨h1, h3⟩⟩
  · exact ⟨some w.heap.size, by rw [ps.errV_zero], .inr ⟨rfl, rfl, h3⟩⟩
/-- What Diff takes of the rows. -/
def dfY (l : List Tr) : List ps.Fl := (l.filter fun x => decide (x.s0 ≠ x.s1)).map fun x => ⟨x.c, x.r, x.s1⟩
theorem dfY_snoc (l : List Tr) (x : Tr) : dfY (l ++ [x]) = dfY l ++ if x.s0 ≠ x.s1 then [⟨x.c, x.r, x.s1⟩] else [] := by
  unfold dfY
  rw [List.filter_append, List.map_append]
  congr 1
  by_cases h : x.s0 = x.s1 <;> simp [h]
theorem dfY_len (l : List Tr) : (dfY l).length ≤ l.length := by
  unfold dfY
  rw [List.length_map]
  exact List.length_filter_le _ _
theorem dfY_is {Y : List Tr} {A : Nat → List ps.Fl} (hs : Y.Pairwise ltT) (h : TB Y A) : dfY Y = ps.df (A 0) (A 1) 2574 := by
  refine ord_ext (R := fun x y : ps.Fl => ps.lt x y.c y.r = true) (fun x y => lt_asym) ?_ (ps.df_srt _ _ _) fun x => ?_
  · unfold dfY
    rw [List.pairwise_map]
    refine (List.Pairwise.filter _ hs).imp fun {x y} h => ?_
    rw [ps.lt_iff]
    exact h
  · constructor
    · intro hx
      unfold dfY at hx
      obtain ⟨y, hy, rfl⟩ := List.mem_map.1 hx
      obtain ⟨hy1, hy2⟩ := List.mem_filter.1 hy
      obtain ⟨t, ht, e1, e2⟩ := grid_no (h.grid y hy1)
      obtain ⟨t0, t1, -⟩ := h.txt y hy1
      have hne := of_decide_eq_true hy2
      rw [t0, t1, ← e1, ← e2] at hne
      have := ps.df_in ht hne
      rw [e1, e2, ← t1] at this
      exact this
    · intro hx
      obtain ⟨t, ht, e, hne⟩ := ps.df_mem hx
      have hy : ∃ y ∈ Y, y.c = x.c ∧ y.r = x.r := by
        refine Classical.byContradiction fun hn => hne ?_
        have hn' : ∀ y ∈ Y, ¬ (y.c = x.c ∧ y.r = x.r) := fun y hy e => hn ⟨y, hy, e⟩
        rw [h.no hn' (j := 0) (by decide), h.no hn' (j := 1) (by decide)]
      obtain ⟨y, hy, e1, e2⟩ := hy
      obtain ⟨t0, t1, -⟩ := h.txt y hy
      rw [e1, e2] at t0 t1
      unfold dfY
      refine List.mem_map.2 ⟨y, List.mem_filter.2 ⟨hy, decide_eq_true (by rw [t0, t1]; exact hne)⟩, ?_⟩
      rw [e1, e2, t1]
      subst e
      rfl
/-- What Diff answers. -/
def DfO (w : World) (a b : List ps.Fl) (t : Int) (e : Ending) (w' : World) : Prop :=
  (t ≠ 0 ∧ e = .returned (.tuple #[.slice none 0 0, ps.errV t]) ∧ Bw w w') ∨ (t = 0 ∧ ∃ v, e = .returned (.tuple #[v, .nilIface]) ∧ RV fL w v (ps.df a b 2574) w')
theorem fld_texts (a b c : ByteArray) (W : World) : (Instr.field 63 (.agg #[.string a, .string b, .string c]) 0).run Tryz.prog W = .ok (.agg #[.string a, .string b, .string c]) W := by kernel_rfl
theorem RV.lower {α : Type} {L : EL α} {w0 w : World} {v : Value} {xs : List α} {wx : World} (h : RV L w v xs wx) (hb : Bw w0 w) : RV L w0 v xs wx := ⟨ps.own_base h.own hb.size, hb.tr h.below⟩
theorem srt_few {X : List Tr} {w : World} {L : List Sh} {i : Nat} {wx : World} (h : LI w L i 0 X wx) (hi : i ≤ 3) : X.length ≤ 600 := by have := h.few; omega
set_option maxRecDepth 1000000 in
set_option maxHeartbeats 8000000 in
theorem diff_any (p q : Option Addr) (cp cq : Nat) (a b : List ps.Fl) (w : World) (ha : ps.FM w p a) (hb : ps.FM w q b) (hE : ps.EnvP w) :
    Calls Tryz.prog 11 #[.slice p a.length cp, .slice q b.length cq] w fun e w' => ∃ t, ShT [⟨p, cp, a⟩, ⟨q, cq, b⟩] t ∧ DfO w a b t e w' := by
  have hb0 : Bw w (w.alloc (.cells #[.slice p a.length cp, .slice q b.length cq] 22)) := Bw.al w _
  have HL : Hid (Calls Tryz.prog 27 #[.slice (some ⟨w.heap.size, 0, none⟩) 2 2] (w.alloc (.cells #[.slice p a.length cp, .slice q b.length cq] 22)) fun e w' => ∃ (t : Int) (bo : Option Nat), e = .returned (.tuple #[.map bo, ps.errV t]) ∧ ShT [⟨p, cp, a⟩, ⟨q, cq, b⟩] t ∧ LyR (w.alloc (.cells #[.slice p a.length cp, .slice q b.length cq] 22)) [⟨p, cp, a⟩, ⟨q, cq, b⟩] t bo w') := by
    refine (lay_any w.heap.size 2 [⟨p, cp, a⟩, ⟨q, cq, b⟩] _ (by simp) (by simp) (fun i s hs => ?_) (hE.below hb0 hE.size)).mono fun e w' ⟨t, h1, h2⟩ => by
      obtain ⟨bo, h3, h4⟩ := h2.form
      exact ⟨t, bo, h3, h1, h4⟩
    have hB := heap_alloc_new w (.cells #[.slice p a.length cp, .slice q b.length cq] 22)
    obtain ⟨q0, q1⟩ := cells2w hB
    match i, hs with
    | 0, hs => cases hs; exact ⟨q0, ha.below hb0⟩
    | 1, hs => cases hs; exact ⟨q1, hb.below hb0⟩
  have HB0 : Hid (Bw w (w.alloc (.cells #[.slice p a.length cp, .slice q b.length cq] 22))) := hb0
  obtain ⟨na, hna⟩ : ∃ n, a.length = n := ⟨_, rfl⟩
  obtain ⟨nb, hnb⟩ : ∃ n, b.length = n := ⟨_, rfl⟩
  rw [hna, hnb] at HL HB0 ⊢
  clear hb0 ha hb hE hna hnb
  go_enter Tryz.func11, Tryz.ntmps11
  go_upto_region 2 with (first | (go_at_call 27; refine HL.out.mono ?_; rintro e w1 ⟨t, bo, rfl, ht, hly⟩))
  have HT : Hid (ShT [⟨p, cp, a⟩, ⟨q, cq, b⟩] t) := ht
  by_cases h0 : t = 0
  · subst h0
    rcases hly with ⟨h1, -⟩ | ⟨-, rfl, X, hX⟩
    · exact absurd rfl h1
    rw [ps.errV_zero]
    have hsz : (w.alloc (.cells #[.slice p na cp, .slice q nb cq] 22)).heap.size = w.heap.size + 1 := by simp
    obtain ⟨Y, hp, hs⟩ := hX.tb.sorted
    have hMY : MT w1 (w.alloc (.cells #[.slice p na cp, .slice q nb cq] 22)).heap.size Y := hX.mt.perm hp
    have hTB : TB Y (xsAt [⟨p, cp, a⟩, ⟨q, cq, b⟩]) := by
      have := hX.tb.perm hp
      rw [AL_all] at this
      exact this
    have hlY : Y.length ≤ 1000 := by rw [← hp.length_eq]; have := srt_few hX (by simp); omega
    have HTB : Hid (TB Y (xsAt [⟨p, cp, a⟩, ⟨q, cq, b⟩]) ∧ Y.Pairwise ltT ∧ Y.length ≤ 1000) := ⟨hTB, hs, hlY⟩
    have HB1 : Hid (Bw w w1) := HB0.out.tr hX.below
    obtain ⟨bt, hbt⟩ : ∃ bt, (w.alloc (.cells #[.slice p na cp, .slice q nb cq] 22)).heap.size = bt := ⟨_, rfl⟩
    rw [hbt] at hMY ⊢
    have HC : Hid (Calls Tryz.prog 28 #[.map (some bt)] w1 fun e w' => (∃ p c, e = .returned (.slice p Y.length c) ∧ CM w' p Y) ∧ Bw w1 w') := cells_any bt Y hlY hs w1 hMY
    have HMY : Hid (MT w1 bt Y) := hMY
    clear hX hp hMY hTB hlY hs hsz hbt HL HB0 ht
    go_upto_block 0 with (first | (go_at_call 28; refine HC.out.mono ?_; rintro e w2 ⟨⟨py, cy, rfl, hcm⟩, hb2⟩))
    have HB2 : Hid (Bw w w2) := HB1.out.tr hb2
    have HM2 : Hid (MT w2 bt Y ∧ CM w2 py Y) := ⟨HMY.out.at (hb2.block _ HMY.out.lt), hcm⟩
    obtain ⟨n, hn⟩ : ∃ n, Y.length = n := ⟨_, rfl⟩
    have HN : Hid (Y.length = n) := hn
    have hn9 : (n : Int) ≤ 1000 := by have := HTB.out.2.2; omega
    rw [hn]
    clear hb2 hcm HC HMY HB1 hn
    go_cut [8] (fun s8 wx => RV fL w2 s8 (dfY Y) wx)
    case first =>
      go_wp2_with fail
      go_loopw [8, 25] (fun s8 s25 wr => ∃ i : Nat, s25 = .int .i64 (i : Int) ∧ i ≤ n ∧ Hid (RV fL w2 s8 (dfY (Y.take i)) wr)) (fun _ s25 _ => n - (intOf s25).toNat)
      case atStart => exact ⟨0, rfl, Nat.zero_le _, RV.nil fL w2⟩
      case round =>
        obtain ⟨i, rfl, hi, HV⟩ := hrel
        have hi0 : (0 : Int) ≤ (i : Int) := by omega
        by_cases hlt : i < n
        · have hlt' : (i : Int) < (n : Int) := by omega
          obtain ⟨x, hx⟩ : ∃ x, Y[i]? = some x := ⟨_, List.getElem?_eq_getElem (by rw [HN.out]; exact hlt)⟩
          have HX : Hid (Y[i]? = some x) := hx
          obtain ⟨gy, oy, hpy, -, y0, y1⟩ := (HM2.out.2.below HV.out.below).at hx
          subst hpy
          have HKL : Hid (keyOf Tryz.prog 43 (.agg #[.int .i64 x.c, .int .i64 x.r]) = some (klT ⟨x.c, x.r, nul, nul, nul⟩)) := by
            have hg := HTB.out.1.grid x (List.mem_of_getElem? hx)
            exact klT_of (x := ⟨x.c, x.r, nul, nul, nul⟩) (wf_kc (by dsimp only; omega)) (wf_kc (by dsimp only; omega))
          have HOf : Hid (Tr.of Y x.c x.r = x) := Tr.of_mem HTB.out.1.one (List.mem_of_getElem? hx)
          clear hx
          go_upto_region 8 with fail
          have HV1 : Hid (RV fL w2 u8 (dfY (Y.take i)) (wr.alloc (.cells #[.int .i64 x.c, .int .i64 x.r] 43)) ∧ (wr.alloc (.cells #[.int .i64 x.c, .int .i64 x.r] 43)).heap[wr.heap.size]? = some (.cells #[.int .i64 x.c, .int .i64 x.r] 43 (0, 0))) := ⟨HV.out.next (Bw.al wr _), heap_alloc_new wr _⟩
          generalize wr.alloc (.cells #[.int .i64 x.c, .int .i64 x.r] 43) = W1 at *
          generalize wr.heap.size = bx at *
          clear y0 y1
          obtain ⟨c0, c1⟩ := cells2w HV1.out.2
          obtain ⟨es, hown, hlk⟩ := HM2.out.1.at (HV1.out.1.below.block _ HM2.out.1.lt)
          have hlook := look_run hown hlk HTB.out.1.one HKL.out
          rw [HOf.out] at hlook
          have hfld := fld_texts x.s0 x.s1 x.s2
          clear hown hlk
          go_upto_region 9 with fail
          have HV2 : Hid (RV fL w2 u8 (dfY (Y.take i)) (W1.alloc (.cells #[.string x.s0, .string x.s1, .string x.s2] 61)) ∧ (W1.alloc (.cells #[.string x.s0, .string x.s1, .string x.s2] 61)).heap[bx]? = some (.cells #[.int .i64 x.c, .int .i64 x.r] 43 (0, 0)) ∧ (W1.alloc (.cells #[.string x.s0, .string x.s1, .string x.s2] 61)).heap[W1.heap.size]? = some (.cells #[.string x.s0, .string x.s1, .string x.s2] 61 (0, 0))) := ⟨HV1.out.1.next (Bw.al W1 _), ((Bw.al W1 _).block _ (fm.lt_blk HV1.out.2)).trans HV1.out.2, heap_alloc_new W1 _⟩
          generalize W1.alloc (.cells #[.string x.s0, .string x.s1, .string x.s2] 61) = W2 at *
          generalize W1.heap.size = bo at *
          clear c0 c1 hlook hfld HV1
          obtain ⟨c0, c1⟩ := cells2w HV2.out.2.1
          obtain ⟨r0, r1, r2⟩ := cells3z HV2.out.2.2
          have HD : Hid (dfY (Y.take (i + 1)) = dfY (Y.take i) ++ if x.s0 ≠ x.s1 then [⟨x.c, x.r, x.s1⟩] else []) := by
            show _ = _
            rw [List.take_add_one, HX.out]
            exact dfY_snoc _ _
          by_cases hxy : x.s0 = x.s1
          · have HE : Hid (RV fL w2 u8 (dfY (Y.take (i + 1))) W2) := by
              show RV _ _ _ _ _
              rw [HD.out, if_neg (by simp [hxy]), List.append_nil]
              exact HV2.out.1
            go_wp2_with fail
            exact ⟨⟨i + 1, by simp, hlt, HE.out⟩, by simp [intOf]; omega⟩
          · have hq : (x.s0.toList == x.s1.toList) = false := by
              rw [beq_eq_false_iff_ne]
              intro e
              rw [ByteArray.toList_eq, ByteArray.toList_eq] at e
              exact hxy (ByteArray.ext (Array.toList_inj.1 e))
            have hlen : (dfY (Y.take i)).length ≤ 10000 := by
              have h1 := dfY_len (Y.take i)
              rw [List.length_take] at h1
              omega
            obtain ⟨g, k, w4, hr, hv⟩ := HV2.out.1.fill hlen x.c x.r x.s1
            have HR4 : Hid ((Builtin.append_ #[22, 22] 22 #[u8, .slice (some ⟨W2.heap.size, 0, none⟩) 1 1]).run Tryz.prog (W2.alloc (.cells #[.int .i64 x.c, .int .i64 x.r, .string x.s1] 45)) = .ok (.slice (some ⟨g, 0, none⟩) ((dfY (Y.take i)).length + 1) k) w4) := hr
            have HE : Hid (RV fL w2 (.slice (some ⟨g, 0, none⟩) ((dfY (Y.take i)).length + 1) k) (dfY (Y.take (i + 1))) w4) := by
              show RV _ _ _ _ _
              rw [HD.out, if_pos hxy]
              exact hv
            generalize (dfY (Y.take i)).length + 1 = m at HR4 HE
            clear hr hv hlen hxy HD
            go_wp2_with (first | (at_builtin; refine wpList_append_eq rfl _ _ 22 22 rfl _ _ _ _ rfl rfl HR4.out ?_))
            exact ⟨⟨i + 1, by simp, hlt, HE.out⟩, by simp [intOf]; omega⟩
        · have hlt' : ¬ (i : Int) < (n : Int) := by omega
          obtain rfl : i = n := by omega
          have HE : Hid (RV fL w2 u8 (dfY Y) wr) := by
            have := HV.out
            rw [List.take_of_length_le (by rw [HN.out]; exact Nat.le_refl _)] at this
            exact this
          go_wp2_with fail
          go_meet
          case rel => exact HE.out
    case rest =>
    have HE : Hid (RV fL w u8 (dfY Y) wc) := hcut.lower HB2.out
    clear hcut
    apply_assumption
    go_wp2_with fail
    exact bodyPost_ret (v := .tuple #[u8, .nilIface]) (by simp [results, Tryz.results11, go_sem]) rfl ⟨0, HT.out, .inr ⟨rfl, u8, rfl, by rw [dfY_is HTB.out.2.1 HTB.out.1] at HE; exact HE.out⟩⟩
  · rcases hly with ⟨-, h1⟩ | ⟨h1, -⟩
    · have HB1 : Hid (Bw w w1) := HB0.out.tr h1
      have HN : Hid (t ≠ 0) := h0
      rw [ps.errV_some h0]
      clear h0 h1 HL HB0 ht
      go_wp2_with fail
      exact bodyPost_ret (v := .tuple #[.slice none 0 0, .iface 67 (.int .i64 t)]) (by simp [results, Tryz.results11, go_sem]) rfl ⟨t, HT.out, .inl ⟨HN.out, by rw [ps.errV_some HN.out], HB1.out⟩⟩
    · exact absurd h1 h0
end Go.Proofs.YtomgjjngkffbbaaGreatDoor.fw

/- Package rows: Swap. Conditions: as each theorem says. -/
namespace Go.Proofs.YtomgjjngkffbbaaGreatDoor.ps
open Go.RowKit
open adr (C isC ckc)
/-- What is at hand in a round: the new list, the box of the cell. -/
structure WS (w : World) (bf : Nat) (f : Fl) (v : Value) (ys : List Fl) (wx : World) : Prop where
  own : wx.ownsRow w.heap.size 45 3 v ys.length (flF ys)
  ne : v.ownBlock ≠ some bf
  box : wx.heap[bf]? = some (.cells #[.int .i64 f.c, .int .i64 f.r, .string f.s] 45 (0, 0))
  le : w.heap.size ≤ bf
  below : Below w.heap.size w wx
theorem own_next {wx wy : World} {B : Nat} {v : Value} {n : Nat} {xs : List Value} (h : wx.ownsRow B 45 3 v n xs) (hb : Below wx.heap.size wx wy) : wy.ownsRow B 45 3 v n xs := by
  refine ⟨h.1, ?_⟩
  rcases h.2 with h0 | ⟨g, cap, cur, h1, h2, hg, h4⟩
  · exact .inl h0
  · exact .inr ⟨g, cap, cur, h1, h2, (hb.block g (fm.lt_blk hg)).trans hg, h4⟩
theorem WS.next {w : World} {bf : Nat} {f : Fl} {v : Value} {ys : List Fl} {wx wy : World} (h : WS w bf f v ys wx) (hb : Below wx.heap.size wx wy) : WS w bf f v ys wy :=
  ⟨own_next h.own hb, h.ne, (hb.block _ (fm.lt_blk h.box)).trans h.box, h.le, bnext h.below hb h.below.size⟩
/-- A new list and what was there. -/
structure LV (w : World) (v : Value) (ys : List Fl) (wx : World) : Prop where
  own : wx.ownsRow w.heap.size 45 3 v ys.length (flF ys)
  below : Below w.heap.size w wx
theorem LV.nil (w : World) : LV w (.slice none 0 0) [] w := ⟨⟨rfl, .inl ⟨rfl, rfl⟩⟩, Below.refl _ _⟩
theorem LV.next {w : World} {v : Value} {ys : List Fl} {wx wy : World} (h : LV w v ys wx) (hb : Below wx.heap.size wx wy) : LV w v ys wy := ⟨own_next h.own hb, bnext h.below hb h.below.size⟩
theorem LV.box {w : World} {v : Value} {ys : List Fl} {wx : World} (h : LV w v ys wx) (f : Fl) : WS w wx.heap.size f v ys (wx.alloc (.cells #[.int .i64 f.c, .int .i64 f.r, .string f.s] 45)) := by
  have hb : Below wx.heap.size wx (wx.alloc (.cells #[.int .i64 f.c, .int .i64 f.r, .string f.s] 45)) := (Below.refl _ _).alloc (Nat.le_refl _) _
  exact ⟨own_next h.own hb, fun e => Nat.lt_irrefl _ (h.own.lt _ e).2, heap_alloc_new _ _, h.below.size, bnext h.below hb h.below.size⟩
/-- The cell's box has another cell now. -/
theorem WS.set2 {w : World} {bf : Nat} {f : Fl} {v : Value} {ys : List Fl} {wx : World} (h : WS w bf f v ys wx) (c r : Int) : WS w bf ⟨c, r, f.s⟩ v ys ((wx.setCell ⟨bf, 0, none⟩ (.int .i64 c)).setCell ⟨bf, 1, none⟩ (.int .i64 r)) := by
  have h1 := fm.blk_set (o := 0) (u := .int .i64 c) h.box
  have h2 := fm.blk_set (o := 1) (u := .int .i64 r) h1
  refine ⟨⟨h.own.1, ?_⟩, h.ne, by simpa using h2, h.le, (h.below.setCell h.le _).setCell h.le _⟩
  rcases h.own.2 with h0 | ⟨g, cap, cur, e1, e2, hg, h4⟩
  · exact .inl h0
  · have hne : g ≠ bf := fun e => h.ne (by rw [e1, e]; rfl)
    exact .inr ⟨g, cap, cur, e1, e2, ((Below.heap_setCell _ _ _ _ hne).trans (Below.heap_setCell _ _ _ _ hne)).trans hg, h4⟩
/-- One more behind it. -/
theorem WS.one {w : World} {bf : Nat} {f : Fl} {v : Value} {ys : List Fl} {wx : World} (h : WS w bf f v ys wx) (hy : ys.length ≤ 1000) (y : Fl) :
    ∃ p n c w', (Builtin.append_ #[22, 22] 22 #[v, .slice (some ⟨wx.heap.size, 0, none⟩) 1 1]).run Tryz.prog (wx.alloc (.cells #[.int .i64 y.c, .int .i64 y.r, .string y.s] 45)) = .ok (.slice p n c) w' ∧ LV w (.slice p n c) (ys ++ [y]) w' := by
  have h1 := h.next ((Below.refl _ _).alloc (Nat.le_refl _) (.cells #[.int .i64 y.c, .int .i64 y.r, .string y.s] 45))
  obtain ⟨v', w', r1, r2, r3, r4, r5, r6⟩ := app_many (wx.alloc (.cells #[.int .i64 y.c, .int .i64 y.r, .string y.s] 45)) w.heap.size h1.below.size v ys.length (flF ys) h1.own hy (some ⟨wx.heap.size, 0, none⟩) [y] 1 (fm_new wx y) (by simp)
  have ho : w'.ownsRow w.heap.size 45 3 v' (ys ++ [y]).length (flF (ys ++ [y])) := by rw [flF_app, List.length_append]; exact r2
  obtain ⟨p, c, rfl, -⟩ := FB.shape (own_base ho (Nat.zero_le _))
  exact ⟨p, _, c, w', r1, ho, h1.below.trans r3⟩
end Go.Proofs.YtomgjjngkffbbaaGreatDoor.ps

/- Package sheet: With, any texts. Conditions: as each theorem says. -/
namespace Go.Proofs.YtomgjjngkffbbaaGreatDoor.ps
open Go.RowKit
open adr (C)
def zr3 (n : Nat) : Array Value := madeCells #[.int .i64 0, .int .i64 0, .string nul] (n * 3)
theorem zr3_size (n : Nat) : (zr3 n).size = n * 3 := by
  unfold zr3
  simp [madeCells]
theorem make33 (n : Nat) (hn : n ≤ 100000) (w : World) : (Instr.makeSlice 22 (.int .i64 0) (.int .i64 (n : Int))).run Tryz.prog w = .ok (.slice (some ⟨w.heap.size, 0, none⟩) 0 n) (w.alloc (.cells (zr3 n) 45)) := by
  obtain ⟨i0, hi, hz0, hz1, hz2⟩ := info_parts info33
  have := run_make (P := Tryz.prog) w 22 45 i0 _ Tryz.underlying22 hi hz0 .i64 .i64 0 (n : Int) (by omega) (by omega) (by rw [hz2]; omega) (by omega)
  rw [this, hz1]
  simp [zr3, Value.cells]
/-- Some more behind it. -/
theorem WS.more {w : World} {bf : Nat} {f : Fl} {v : Value} {ys : List Fl} {wx : World} (h : WS w bf f v ys wx) (hy : ys.length ≤ 100000) {p : Option Addr} {zs : List Fl} (hz : FM wx p zs) (hl : zs.length ≤ 100000) (c : Nat) :
    ∃ v' w', (Builtin.append_ #[22, 22] 22 #[v, .slice p zs.length c]).run Tryz.prog wx = .ok v' w' ∧ WS w bf f v' (ys ++ zs) w' := by
  obtain ⟨v', w', h1, h2, h3, h4, h5, h6⟩ := app_any wx w.heap.size h.below.size v ys.length (flF ys) h.own p zs c hz (by omega)
  refine ⟨v', w', h1, ⟨by rw [flF_app, List.length_append]; exact h2, fun e => ?_, (h4 bf (fm.lt_blk h.box) h.ne).trans h.box, h.le, h.below.trans h3⟩⟩
  rcases h5 _ e with h' | h'
  · exact h.ne h'
  · have := fm.lt_blk h.box; omega
theorem LV.more {w : World} {v : Value} {ys : List Fl} {wx : World} (h : LV w v ys wx) (hy : ys.length ≤ 100000) {p : Option Addr} {zs : List Fl} (hz : FM wx p zs) (hl : zs.length ≤ 100000) (c : Nat) :
    ∃ v' w', (Builtin.append_ #[22, 22] 22 #[v, .slice p zs.length c]).run Tryz.prog wx = .ok v' w' ∧ LV w v' (ys ++ zs) w' := by
  obtain ⟨v', w', h1, h2, h3, h4, h5, h6⟩ := app_any wx w.heap.size h.below.size v ys.length (flF ys) h.own p zs c hz (by omega)
  exact ⟨v', w', h1, by rw [flF_app, List.length_append]; exact h2, h.below.trans h3⟩
theorem WS.lv {w : World} {bf : Nat} {f : Fl} {v : Value} {ys : List Fl} {wx : World} (h : WS w bf f v ys wx) : LV w v ys wx := ⟨h.own, h.below⟩
/-- The first of what is left, and the text's cell. -/
abbrev WO (w : World) (bf : Nat) (f : Fl) (v : Value) (ys : List Fl) (gx ox : Nat) (x : Fl) (wx : World) : Prop := wx.cell? ⟨gx, ox, none⟩ = some (.int .i64 x.c) ∧ wx.cell? ⟨gx, ox + 1, none⟩ = some (.int .i64 x.r) ∧ wx.cell? ⟨gx, ox + 2, none⟩ = some (.string x.s) ∧ wx.cell? ⟨bf, 0, none⟩ = some (.int .i64 f.c) ∧ wx.cell? ⟨bf, 1, none⟩ = some (.int .i64 f.r) ∧ wx.cell? ⟨bf, 2, none⟩ = some (.string f.s) ∧ WS w bf f v ys wx
theorem wo_ws {w : World} {bf : Nat} {f : Fl} {v : Value} {ys : List Fl} {gx ox : Nat} {x : Fl} {wx : World} (h : WO w bf f v ys gx ox x wx) : WS w bf f v ys wx := h.2.2.2.2.2.2
theorem WS.opened {w : World} {bf : Nat} {f : Fl} {v : Value} {ys : List Fl} {wx : World} (h : WS w bf f v ys wx) {gx ox : Nat} {x : Fl} {l : List Fl} (hx : FM w (some ⟨gx, ox, none⟩) (x :: l)) : WO w bf f v ys gx ox x wx := by
  obtain ⟨q0, q1, q2⟩ := FM.cells (hx.below h.below) (i := 0) rfl
  rw [Nat.zero_mul, Nat.add_zero] at q0 q1 q2
  obtain ⟨b0, b1, b2⟩ := cells3 h.box
  exact ⟨q0, q1, q2, b0, b1, b2, h⟩
/-- Without its first, if that is of the cell. -/
def cutH (f : Fl) : List Fl → List Fl
  | [] => []
  | x :: l => if at' x f.c f.r = true then l else x :: l
/-- A sheet with other texts of some cells. -/
def wl : List Fl → List Fl → List Fl
  | [], xs => xs
  | f :: fs, xs => xs.takeWhile (fun x => lt x f.c f.r) ++ put f ++ wl fs (cutH f (xs.dropWhile (fun x => lt x f.c f.r)))
theorem wl_head {zs fs : List Fl} {f x : Fl} {k : Nat} {l : List Fl} (h : ∀ i y, i < k → zs[i]? = some y → lt y f.c f.r = true) (hd : zs.drop k = x :: l) (h1 : lt x f.c f.r = false) : wl (f :: fs) zs = zs.take k ++ put f ++ wl fs (if at' x f.c f.r = true then l else x :: l) := by
  have ha : ∀ a ∈ zs.take k, (fun x : Fl => lt x f.c f.r) a = true := fun a ha => by
    obtain ⟨i, hi⟩ := List.mem_iff_getElem?.1 ha
    rw [List.getElem?_take] at hi
    split at hi
    · exact h i a (by assumption) hi
    · cases hi
  have e : zs = zs.take k ++ x :: l := by rw [← hd, List.take_append_drop]
  show zs.takeWhile _ ++ put f ++ wl fs (cutH f (zs.dropWhile _)) = _
  have e1 : zs.takeWhile (fun x => lt x f.c f.r) = zs.take k := by
    have t := List.takeWhile_append_of_pos (l₂ := x :: l) ha
    rw [← e] at t
    rw [t, List.takeWhile_cons_of_neg (by simp [h1]), List.append_nil]
  have e2 : zs.dropWhile (fun x => lt x f.c f.r) = x :: l := by
    have t := List.dropWhile_append_of_pos (l₂ := x :: l) ha
    rw [← e] at t
    rw [t, List.dropWhile_cons_of_neg (by simp [h1])]
  rw [e1, e2]
  rfl
theorem wl_end {zs fs : List Fl} {f : Fl} (h : ∀ i y, i < zs.length → zs[i]? = some y → lt y f.c f.r = true) : wl (f :: fs) zs = zs ++ put f ++ wl fs [] := by
  have ha : ∀ a ∈ zs, (fun x : Fl => lt x f.c f.r) a = true := fun a ha => by
    obtain ⟨i, hi⟩ := List.mem_iff_getElem?.1 ha
    exact h i a (List.getElem?_eq_some_iff.1 hi).1 hi
  show zs.takeWhile _ ++ put f ++ wl fs (cutH f (zs.dropWhile _)) = _
  have e1 : zs.takeWhile (fun x => lt x f.c f.r) = zs := by have := List.takeWhile_append_of_pos (l₂ := []) ha; simpa using this
  have e2 : zs.dropWhile (fun x => lt x f.c f.r) = [] := by have := List.dropWhile_append_of_pos (l₂ := []) ha; simpa using this
  rw [e1, e2]
  rfl
theorem put_len (f : Fl) : (put f).length ≤ 1 := by unfold put; split <;> simp
set_option maxRecDepth 100000 in
set_option maxHeartbeats 8000000 in
theorem with_any (p pv : Option Addr) (c cv : Nat) (xs over : List Fl) (w : World) (hx : FM w p xs) (hl : xs.length ≤ 300) (hcap : xs.length ≤ c) (hv : FM w pv over) (hvl : over.length ≤ 50000) :
    Calls Tryz.prog 33 #[.slice p xs.length c, .slice pv over.length cv] w fun e w' => (∃ v, e = .returned v ∧ w'.ownsRow w.heap.size 45 3 v (wl over xs).length (flF (wl over xs))) ∧ Below w.heap.size w w' := by
  obtain ⟨n, hn⟩ : ∃ n, xs.length = n := ⟨_, rfl⟩
  obtain ⟨N, hN⟩ : ∃ N, over.length = N := ⟨_, rfl⟩
  have hmk : ∀ W : World, (Instr.makeSlice 22 (.int .i64 0) (.int .i64 ((n : Int) + (N : Int)))).run Tryz.prog W = .ok (.slice (some ⟨W.heap.size, 0, none⟩) 0 (n + N)) (W.alloc (.cells (zr3 (n + N)) 45)) := fun W => make33 (n + N) (by omega) W
  have HL : Hid (∀ a b c d wx, Calls Tryz.prog 46 #[C a b, C c d] wx fun e w' => e = .returned (.bool (decide (cmpC a b c d < 0))) ∧ Below wx.heap.size wx w') := less_any
  have hn3 : (n : Int) ≤ 300 := by omega
  have hN3 : (N : Int) ≤ 50000 := by omega
  have hnc : n ≤ c := by omega
  rw [hn, hN]
  have HX : Hid (FM w p xs) := hx
  have HV : Hid (FM w pv over ∧ over.length = N) := ⟨hv, hN⟩
  go_enter Tryz.func33, Tryz.ntmps33
  have hb0 : Below w.heap.size w (w.alloc (.cells (zr3 (n + N)) 45)) := (Below.refl _ _).alloc (Nat.le_refl _) _
  have ho0 : (w.alloc (.cells (zr3 (n + N)) 45)).ownsRow w.heap.size 45 3 (.slice (some ⟨w.heap.size, 0, none⟩) 0 (n + N)) 0 [] := World.ownsRow_made (base := w.heap.size) (e := 45) (size := 3) w (zr3 (n + N)) (n + N) (Nat.le_refl _) (by unfold maxLen; omega) (zr3_size _)
  go_wp2_with fail
  generalize w.alloc (.cells (zr3 (n + N)) 45) = W0 at *
  have HLV : Hid (LV w (.slice (some ⟨w.heap.size, 0, none⟩) 0 (n + N)) [] W0) := ⟨ho0, hb0⟩
  have HN : Hid (xs.length = n) := hn
  clear hb0 ho0 hmk hx hv hn hN hvl hl hcap
  go_loopw [0, 5, 16] (fun s0 s5 s16 wr => ∃ (q : Nat) (pr : Option Addr) (M cr : Nat) (ys zs : List Fl), s16 = .int .i64 q ∧ q ≤ N ∧ s0 = .slice pr M cr ∧ M ≤ cr ∧ M ≤ n ∧ Hid (zs.length = M ∧ FM w pr zs ∧ LV w s5 ys wr ∧ ys ++ wl (over.drop q) zs = wl over xs ∧ ys.length + M ≤ n + q)) (fun _ _ i _ => N - (intOf i).toNat)
  case atStart => exact ⟨0, p, n, c, [], xs, rfl, Nat.zero_le _, rfl, hnc, Nat.le_refl _, ⟨HN.out, HX.out, HLV.out, rfl, by simp⟩⟩
  case round =>
    generalize wr = wo at *
    obtain ⟨q, pr, M, cr, ys, zs, rfl, hq, rfl, hMc, hMn, HK⟩ := hrel
    by_cases hqN : q < N
    · obtain ⟨f, hfq⟩ : ∃ f, over[q]? = some f := ⟨_, List.getElem?_eq_getElem (by rw [HV.out.2]; exact hqN)⟩
      have HFS : Hid (over.drop q = f :: over.drop (q + 1)) := by
        obtain ⟨h1, h2⟩ := List.getElem?_eq_some_iff.1 hfq
        exact (List.drop_eq_getElem_cons h1).trans (by rw [h2])
      obtain ⟨gv, ov, rfl⟩ : ∃ gv ov, pv = some ⟨gv, ov, none⟩ := by
        rcases HV.out.1 with h | ⟨g, o, h, -⟩
        · have := HV.out.2; rw [h] at this; simp at this; omega
        · exact ⟨g, o, h⟩
      obtain ⟨q0, q1, q2⟩ := FM.cells (HV.out.1.below HK.out.2.2.1.below) hfq
      have hqi : (q : Int) < (N : Int) := by omega
      have hqi0 : (0 : Int) ≤ (q : Int) := by omega
      have hW1 := HK.out.2.2.1.box f
      have HK1 : Hid (zs.length = M ∧ FM w pr zs ∧ ys ++ wl (over.drop q) zs = wl over xs ∧ ys.length + M ≤ n + q) := ⟨HK.out.1, HK.out.2.1, HK.out.2.2.2.1, HK.out.2.2.2.2⟩
      obtain ⟨bf, hbf⟩ : ∃ bf, wo.heap.size = bf := ⟨_, rfl⟩
      have HW1 : Hid (WS w bf f u5 ys (wo.alloc (.cells #[.int .i64 f.c, .int .i64 f.r, .string f.s] 45))) := by rw [← hbf]; exact hW1
      clear hW1 hfq HK HLV HX HN
      go_wp2_with fail
      try rw [hbf]
      generalize wo.alloc (.cells #[.int .i64 f.c, .int .i64 f.r, .string f.s] 45) = W1 at *
      clear q0 q1 q2 hbf
      go_loopw [0, 5] (fun s0 s5 wx => ∃ k pk ck, k ≤ M ∧ s0 = .slice pk (M - k) ck ∧ M - k ≤ ck ∧ FM w pk (zs.drop k) ∧ WS w bf f s5 (ys ++ zs.take k) wx ∧ ∀ i x, i < k → zs[i]? = some x → lt x f.c f.r = true) (fun s0 _ _ => match s0 with | .slice _ m _ => m | _ => 0)
      case atStart => exact ⟨0, pr, cr, Nat.zero_le _, rfl, hMc, HK1.out.2.1, by rw [List.take_zero, List.append_nil]; exact HW1.out, fun i x hi => absurd hi (Nat.not_lt_zero _)⟩
      case round =>
        obtain ⟨k, pk, ck, hk, rfl, hck, hpk, hW, hlt⟩ := hrel
        clear HW1
        by_cases hkn : k < M
        · obtain ⟨x, l, hd⟩ : ∃ x l, zs.drop k = x :: l := by
            cases hxd : zs.drop k with
            | nil => have := congrArg List.length hxd; rw [List.length_drop, HK1.out.1] at this; simp at this; omega
            | cons x l => exact ⟨x, l, rfl⟩
          rw [hd] at hpk
          obtain ⟨gx, ox, rfl, hgx⟩ := hpk.some
          have h0d := (hW.next (Below.refl _ _).drew).opened hpk
          have HPK : Hid (FM w (some ⟨gx, ox, none⟩) (x :: l)) := hpk
          obtain ⟨m, hm⟩ : ∃ m, M - k = m := ⟨_, rfl⟩
          have hm0 : (0 : Int) < (m : Int) := by omega
          have hmc : (m : Int) ≤ (ck : Int) := by omega
          have hmN : 0 < m := by omega
          have HM : Hid (M - k = m) := hm
          rw [hm]
          obtain ⟨y0, y1, y2, y3, y4, y5, -⟩ := hW.opened hpk
          obtain ⟨Y, hY⟩ : ∃ Y, ys ++ zs.take k = Y := ⟨_, rfl⟩
          have HY : Hid (ys ++ zs.take k = Y ∧ Y.length ≤ 90000) := ⟨hY, by rw [← hY, List.length_append, List.length_take]; have h1 := HK1.out.1; have h2 := HK1.out.2.2.2; omega⟩
          rw [hY] at h0d hW
          have HWk : Hid (WS w bf f u5 Y wr) := hW
          have HLT : Hid (∀ i x, i < k → zs[i]? = some x → lt x f.c f.r = true) := hlt
          have HD : Hid (zs.drop k = x :: l) := hd
          clear hW hlt hpk hd hm hY
          cases hl : lt x f.c f.r with
          | true =>
            have HLj : Hid (∀ wx, Calls Tryz.prog 46 #[C x.c x.r, C f.c f.r] wx fun e w' => e = .returned (.bool true) ∧ Below wx.heap.size wx w') := fun wx => by have := HL.out x.c x.r f.c f.r wx; rw [show decide (cmpC x.c x.r f.c f.r < 0) = true from hl] at this; exact this
            have HLL : Hid (lt x f.c f.r = true) := hl
            clear hl
            go_wp2_with fail
            go_region_held3 (fun wx => WO w bf f u5 Y gx ox x wx) (first | exact h0d | exact WS.opened ((wo_ws (by assumption)).next (by assumption)) HPK.out) (first | (go_at_call 46; refine (HLj.out _).mono ?_; rintro e w1 ⟨rfl, hb1⟩; have hw1 := (wo_ws (by assumption)).next hb1))
            all_goals
              obtain ⟨z0, z1, z2, -⟩ := hw1.opened HPK.out
              obtain ⟨v', w2, hr, hW2⟩ := (hw1.next ((Below.refl _ _).alloc (Nat.le_refl _) (.cells #[.int .i64 x.c, .int .i64 x.r, .string x.s] 45))).more (by have := HY.out.2; omega) (fm_new w1 x) (by simp) 1
              have HR : Hid ((Builtin.append_ #[22, 22] 22 #[u5, .slice (some ⟨w1.heap.size, 0, none⟩) 1 1]).run Tryz.prog (w1.alloc (.cells #[.int .i64 x.c, .int .i64 x.r, .string x.s] 45)) = .ok v' w2) := hr
              have HW2 : Hid (WS w bf f v' (Y ++ [x]) w2) := hW2
              clear hr hW2 y0 y1 y2 y3 y4 y5 h0d hw1 hb1
              go_wp2_with (first | (at_builtin; refine fm.wpList_append_eq rfl _ _ 22 rfl _ _ _ _ rfl rfl HR.out ?_))
              have hk1 : zs[k]? = some x := by have := congrArg (fun l => l[0]?) HD.out; simpa using this
              have hl1 : zs.drop (k + 1) = l := by have := congrArg (List.drop 1) HD.out; simpa [List.drop_drop] using this
              have hll : l.length = M - (k + 1) := by rw [← hl1, List.length_drop, HK1.out.1]
              have hM := HM.out
              refine ⟨⟨k + 1, _, ck - 1, by omega, by rw [show M - (k + 1) = m - 1 by omega], by omega, ?_, ?_, ?_⟩, by simp; omega⟩
              · rw [hl1]
                by_cases h1 : ck = 1
                · exact .inl (List.length_eq_zero_iff.1 (by omega))
                · rw [if_neg h1]; exact HPK.out.drop
              · rw [List.take_add_one, hk1, ← List.append_assoc, HY.out.1]; exact HW2.out
              · intro i y hi hy
                by_cases e : i = k
                · subst e; rw [hk1] at hy; injection hy with hy; subst hy; exact HLL.out
                · exact HLT.out i y (by omega) hy
          | false =>
            have HLj : Hid (∀ wx, Calls Tryz.prog 46 #[C x.c x.r, C f.c f.r] wx fun e w' => e = .returned (.bool false) ∧ Below wx.heap.size wx w') := fun wx => by have := HL.out x.c x.r f.c f.r wx; rw [show decide (cmpC x.c x.r f.c f.r < 0) = false from hl] at this; exact this
            have HLL : Hid (lt x f.c f.r = false) := hl
            clear hl
            go_wp2_with fail
            go_cut [31] (fun s31 wx => s31 = .bool false ∧ WS w bf f u5 Y wx)
            case first =>
              go_region_held3 (fun wx => WO w bf f u5 Y gx ox x wx) (first | exact h0d | exact WS.opened ((wo_ws (by assumption)).next (by assumption)) HPK.out) (first | (go_at_call 46; refine (HLj.out _).mono ?_; rintro e w1 ⟨rfl, hb1⟩; have hw1 := (wo_ws (by assumption)).next hb1))
              all_goals
                go_wp2_with fail
                go_meet
                case rel => exact ⟨rfl, hw1⟩
            case rest =>
            obtain ⟨rfl, hw1⟩ := hcut
            have HW1' : Hid (WS w bf f u5 Y wc) := hw1
            clear hw1 y0 y1 y2 y3 y4 y5 h0d HWk HLj HL
            obtain ⟨y0, y1, y2, y3, y4, y5, -⟩ := HW1'.out.opened HPK.out
            have e30 := fun W => eql30 x.c x.r f.c f.r W
            go_wp2_with fail
            go_cut [51] (fun s51 wx => s51 = .bool (decide (x.c = f.c) && decide (x.r = f.r)) ∧ WS w bf f u5 Y wx)
            case first =>
              go_region
              all_goals
                go_wp2_with fail
                go_meet
                case rel => exact ⟨rfl, HW1'.out.next (Below.refl _ _).drew⟩
            case rest =>
            obtain ⟨rfl, hw1⟩ := hcut
            clear y0 y1 y2 y3 y4 y5 e30 HW1'
            have HW8 : Hid (WS w bf f u5 Y wc) := hw1
            clear hw1
            go_upto_if 51 with fail
            go_cut [0] (fun s0 wx => ∃ pr m' cr zs', s0 = .slice pr m' cr ∧ m' ≤ cr ∧ m' ≤ M ∧ Hid (zs'.length = m' ∧ FM w pr zs' ∧ Y ++ put f ++ wl (over.drop (q + 1)) zs' = wl over xs ∧ k + m' ≤ M) ∧ WS w bf f u5 Y wx)
            case first =>
              have HWH : Hid (Y ++ put f ++ wl (over.drop (q + 1)) (if at' x f.c f.r = true then l else x :: l) = wl over xs) := by
                have h1 := HK1.out.2.2.1
                rw [HFS.out, wl_head HLT.out HD.out HLL.out, ← List.append_assoc, ← List.append_assoc, HY.out.1] at h1
                exact h1
              have hll : l.length + 1 = m := by have := congrArg List.length HD.out; rw [List.length_drop, HK1.out.1, List.length_cons, HM.out] at this; exact this.symm
              cases hc : (decide (x.c = f.c) && decide (x.r = f.r)) with
              | true =>
                have HA : Hid (at' x f.c f.r = true) := by simp at hc; exact at_iff.2 hc
                clear hc
                by_cases h1 : ck = 1
                · go_wp2_with fail
                  go_meet
                  case rel => exact ⟨some ⟨gx, ox, none⟩, l.length, ck - 1, l, by rw [show l.length = m - 1 by omega]; simp [h1], by omega, by have := HM.out; omega, ⟨rfl, .inl (List.length_eq_zero_iff.1 (by omega)), by rw [← HWH.out, if_pos HA.out], by have := HM.out; omega⟩, HW8.out⟩
                · go_wp2_with fail
                  go_meet
                  case rel => exact ⟨_, l.length, ck - 1, l, by rw [show l.length = m - 1 by omega], by omega, by have := HM.out; omega, ⟨rfl, HPK.out.drop, by rw [← HWH.out, if_pos HA.out], by have := HM.out; omega⟩, HW8.out⟩
              | false =>
                have HA : Hid (at' x f.c f.r = false) := by unfold Hid; rw [at_no]; intro h; simp [h.1, h.2] at hc
                go_wp2_with fail
                go_meet
                case rel => exact ⟨_, m, ck, x :: l, rfl, by omega, by have := HM.out; omega, ⟨by simpa using hll, HPK.out, by rw [← HWH.out, if_neg (by simp [HA.out])], by have := HM.out; omega⟩, HW8.out⟩
            case rest =>
            obtain ⟨pr, m', cr, zs', rfl, hz1, hz2, HZ, hw1⟩ := hcut
            obtain ⟨b0, b1, b2⟩ := cells3 hw1.box
            have HYl : Hid (Y.length ≤ ys.length + k) := by unfold Hid; rw [← HY.out.1, List.length_append, List.length_take]; omega
            clear HW8
            cases hfs : f.s.toList.isEmpty with
            | true =>
              have HP : Hid (put f = []) := put_nul (emp_yes hfs)
              go_wp2_with fail
              refine ⟨⟨q + 1, pr, m', cr, Y, zs', rfl, by omega, rfl, hz1, by omega, HZ.out.1, HZ.out.2.1, hw1.lv, ?_, ?_⟩, by simp [intOf]; omega⟩
              · have := HZ.out.2.2.1; rwa [HP.out, List.append_nil] at this
              · have h1 := HYl.out; have h2 := HZ.out.2.2.2; have h3 := HK1.out.2.2.2; omega
            | false =>
              have HP : Hid (put f = [f]) := put_one (emp_no hfs)
              obtain ⟨v', w2, hr, hW2⟩ := (hw1.next ((Below.refl _ _).alloc (Nat.le_refl _) (.cells #[.int .i64 f.c, .int .i64 f.r, .string f.s] 45))).more (by have := HY.out.2; omega) (fm_new _ f) (by simp) 1
              have HR : Hid ((Builtin.append_ #[22, 22] 22 #[u5, .slice (some ⟨wc.heap.size, 0, none⟩) 1 1]).run Tryz.prog (wc.alloc (.cells #[.int .i64 f.c, .int .i64 f.r, .string f.s] 45)) = .ok v' w2) := hr
              have HW2 : Hid (WS w bf f v' (Y ++ [f]) w2) := hW2
              clear hr hW2
              go_wp2_with (first | (at_builtin; refine fm.wpList_append_eq rfl _ _ 22 rfl _ _ _ _ rfl rfl HR.out ?_))
              refine ⟨⟨q + 1, pr, m', cr, Y ++ [f], zs', rfl, by omega, rfl, hz1, by omega, HZ.out.1, HZ.out.2.1, HW2.out.lv, ?_, ?_⟩, by simp [intOf]; omega⟩
              · have := HZ.out.2.2.1; rwa [HP.out] at this
              · have h1 := HYl.out; have h2 := HZ.out.2.2.2; have h3 := HK1.out.2.2.2; rw [List.length_append, List.length_singleton]; omega
        · obtain rfl : k = M := by omega
          have hz : zs.take k = zs := by rw [← HK1.out.1]; exact List.take_length
          rw [hz] at hW
          obtain ⟨Y, hY⟩ : ∃ Y, ys ++ zs = Y := ⟨_, rfl⟩
          rw [hY] at hW
          have HWE : Hid (Y ++ put f ++ wl (over.drop (q + 1)) [] = wl over xs ∧ Y.length ≤ 90000 ∧ Y.length ≤ n + q) := by
            obtain ⟨a1, a2, a3, a4⟩ := HK1.out
            rw [HFS.out, wl_end (fun i y hi hy => hlt i y (by omega) hy), ← List.append_assoc, ← List.append_assoc, hY] at a3
            have hYl : Y.length = ys.length + k := by rw [← hY, List.length_append, a1]
            exact ⟨a3, by omega, by omega⟩
          have HW1' : Hid (WS w bf f u5 Y wr) := hW
          rw [Nat.sub_self]
          clear hW hlt hpk hz hY
          obtain ⟨b0, b1, b2⟩ := cells3 HW1'.out.box
          go_wp2_with fail
          go_cut [31] (fun s31 wx => s31 = .bool false ∧ WS w bf f u5 Y wx)
          case first =>
            go_quiet (fail)
            go_wp2_with fail
            go_meet
            case rel => exact ⟨rfl, HW1'.out.next (drewN_below _ _)⟩
          case rest =>
          obtain ⟨rfl, hw1⟩ := hcut
          have HW8 : Hid (WS w bf f u5 Y wc) := hw1
          clear hw1 b0 b1 b2 HW1'
          go_wp2_with fail
          go_cut [51] (fun s51 wx => s51 = .bool false ∧ WS w bf f u5 Y wx)
          case first =>
            go_quiet (fail)
            go_wp2_with fail
            go_meet
            case rel => exact ⟨rfl, HW8.out.next (drewN_below _ _)⟩
          case rest =>
          obtain ⟨rfl, hw1⟩ := hcut
          clear HW8
          obtain ⟨b0, b1, b2⟩ := cells3 hw1.box
          cases hfs : f.s.toList.isEmpty with
          | true =>
            have HP : Hid (put f = []) := put_nul (emp_yes hfs)
            go_wp2_with fail
            refine ⟨⟨q + 1, pk, 0, ck, Y, [], rfl, by omega, rfl, by omega, by omega, rfl, .inl rfl, hw1.lv, ?_, ?_⟩, by simp [intOf]; omega⟩
            · have := HWE.out.1; rwa [HP.out, List.append_nil] at this
            · have := HWE.out.2.2; omega
          | false =>
            have HP : Hid (put f = [f]) := put_one (emp_no hfs)
            obtain ⟨v', w2, hr, hW2⟩ := (hw1.next ((Below.refl _ _).alloc (Nat.le_refl _) (.cells #[.int .i64 f.c, .int .i64 f.r, .string f.s] 45))).more (by have := HWE.out.2.1; omega) (fm_new _ f) (by simp) 1
            have HR : Hid ((Builtin.append_ #[22, 22] 22 #[u5, .slice (some ⟨wc.heap.size, 0, none⟩) 1 1]).run Tryz.prog (wc.alloc (.cells #[.int .i64 f.c, .int .i64 f.r, .string f.s] 45)) = .ok v' w2) := hr
            have HW2 : Hid (WS w bf f v' (Y ++ [f]) w2) := hW2
            clear hr hW2
            go_wp2_with (first | (at_builtin; refine fm.wpList_append_eq rfl _ _ 22 rfl _ _ _ _ rfl rfl HR.out ?_))
            refine ⟨⟨q + 1, pk, 0, ck, Y ++ [f], [], rfl, by omega, rfl, by omega, by omega, rfl, .inl rfl, HW2.out.lv, ?_, ?_⟩, by simp [intOf]; omega⟩
            · have := HWE.out.1; rwa [HP.out] at this
            · have := HWE.out.2.2; rw [List.length_append, List.length_singleton]; omega
    · have e : q = N := by omega
      subst e
      have hq' : ¬ (q : Int) < (q : Int) := by omega
      obtain ⟨a1, a2, a3, a4, a5⟩ := HK.out
      obtain ⟨v', w2, hr, hW2⟩ := a3.more (by omega) (a2.below a3.below) (by omega) cr
      rw [a1] at hr
      have HR : Hid ((Builtin.append_ #[22, 22] 22 #[u5, .slice pr M cr]).run Tryz.prog wo = .ok v' w2) := hr
      have e : ys ++ zs = wl over xs := by rw [← a4, ← HV.out.2, List.drop_length]; rfl
      rw [e] at hW2
      have HW2 : Hid (LV w v' (wl over xs) w2) := hW2
      clear hr hW2 e a1 a2 a3 a4 a5 HK
      go_wp2_with (first | (at_builtin; refine fm.wpList_append_eq rfl _ _ 22 rfl _ _ _ _ rfl rfl HR.out ?_))
      go_ret
      exact ⟨⟨_, rfl, HW2.out.own⟩, HW2.out.below⟩
end Go.Proofs.YtomgjjngkffbbaaGreatDoor.ps

/- Package sheet: With, plain: a sheet with other texts, one after the other. Names no program beside Xm. -/
namespace Go.Proofs.YtomgjjngkffbbaaGreatDoor.ps
theorem wl_pass {fs : List Fl} {x : Fl} (h : ∀ g ∈ fs, lt x g.c g.r = true) (l : List Fl) : wl fs (x :: l) = x :: wl fs l := by
  cases fs with
  | nil => rfl
  | cons g gs =>
    have hx := h g (by simp)
    show (x :: l).takeWhile _ ++ put g ++ wl gs (cutH g ((x :: l).dropWhile _)) = x :: (l.takeWhile _ ++ put g ++ wl gs (cutH g (l.dropWhile _)))
    rw [List.takeWhile_cons_of_pos (p := fun x => lt x g.c g.r) hx, List.dropWhile_cons_of_pos (p := fun x => lt x g.c g.r) hx]
    rfl
theorem wl_passes {fs A : List Fl} (h : ∀ x ∈ A, ∀ g ∈ fs, lt x g.c g.r = true) (l : List Fl) : wl fs (A ++ l) = A ++ wl fs l := by
  induction A with
  | nil => rfl
  | cons x A ih => rw [List.cons_append, wl_pass (h x (by simp)), ih (fun y hy => h y (by simp [hy]))]; rfl
theorem cutH_in {f x : Fl} {l : List Fl} (h : x ∈ cutH f l) : x ∈ l := by
  cases l with
  | nil => exact h
  | cons y l =>
    have h' : x ∈ (if at' y f.c f.r = true then l else y :: l) := h
    split at h'
    · simp [h']
    · exact h'
theorem wl_in {o xs : List Fl} {x : Fl} (h : x ∈ wl o xs) : x ∈ xs ∨ x ∈ o := by
  induction o generalizing xs with
  | nil => exact .inl h
  | cons f o ih =>
    have h' : x ∈ xs.takeWhile (fun x => lt x f.c f.r) ++ put f ++ wl o (cutH f (xs.dropWhile (fun x => lt x f.c f.r))) := h
    rw [List.mem_append, List.mem_append] at h'
    rcases h' with (h' | h') | h'
    · exact .inl (List.takeWhile_subset _ h')
    · exact .inr (by rw [(put_in h').1]; simp)
    · rcases ih h' with h' | h'
      · exact .inl (List.dropWhile_subset _ (cutH_in h'))
      · exact .inr (by simp [h'])
theorem wt_front {l : List Fl} {f : Fl} (h : ∀ x ∈ l, lt f x.c x.r = true) : wt l f = put f ++ l := by
  cases l with
  | nil => show put f = _; rw [List.append_nil]
  | cons x l =>
    have := h x (by simp)
    rw [lt_iff] at this
    show (if _ then _ else if _ then _ else _) = _
    rw [if_neg (by rw [lt_iff]; omega), if_neg (by rw [at_iff]; omega)]
theorem wt_passes {A l : List Fl} {f : Fl} (h : ∀ x ∈ A, lt x f.c f.r = true) : wt (A ++ l) f = A ++ wt l f := by
  induction A with
  | nil => rfl
  | cons x A ih =>
    rw [List.cons_append]
    show (if _ then _ else _) = _
    rw [if_pos (h x (by simp)), ih (fun y hy => h y (by simp [hy]))]
    rfl
theorem takeW_all {p : Fl → Bool} {l : List Fl} {x : Fl} (h : x ∈ l.takeWhile p) : p x = true := by
  induction l with
  | nil => simp at h
  | cons y l ih =>
    rw [List.takeWhile_cons] at h
    split at h
    · rcases List.mem_cons.1 h with rfl | h
      · assumption
      · exact ih h
    · simp at h
theorem dropW_head {p : Fl → Bool} {l t : List Fl} {x : Fl} (h : l.dropWhile p = x :: t) : p x = false := by
  induction l with
  | nil => simp at h
  | cons y l ih =>
    rw [List.dropWhile_cons] at h
    split at h
    · exact ih h
    next hn => injection h with h1 h2; subst h1; exact Bool.eq_false_iff.2 hn
theorem wl_wt {xs fs : List Fl} {f : Fl} (hx : Srt xs) (ho : Srt (f :: fs)) : wl (f :: fs) xs = wt (wl fs xs) f := by
  have po := List.pairwise_cons.1 ho
  show xs.takeWhile _ ++ put f ++ wl fs (cutH f (xs.dropWhile _)) = _
  have hA : ∀ x ∈ xs.takeWhile (fun x => lt x f.c f.r), lt x f.c f.r = true := fun x hx => takeW_all (p := fun x => lt x f.c f.r) hx
  have e : xs = xs.takeWhile (fun x => lt x f.c f.r) ++ xs.dropWhile (fun x => lt x f.c f.r) := (List.takeWhile_append_dropWhile).symm
  have hD : Srt (xs.dropWhile (fun x => lt x f.c f.r)) := List.Pairwise.sublist (List.dropWhile_sublist _) hx
  have hH : ∀ x t, xs.dropWhile (fun x => lt x f.c f.r) = x :: t → lt x f.c f.r = false := fun x t h => dropW_head (p := fun x => lt x f.c f.r) h
  generalize xs.takeWhile (fun x => lt x f.c f.r) = A at *
  generalize xs.dropWhile (fun x => lt x f.c f.r) = D at *
  subst e
  rw [wl_passes (fun x hx g hg => by
    have h1 := hA x hx
    have h2 := po.1 g hg
    rw [lt_iff] at h1 h2 ⊢
    omega), wt_passes hA, List.append_assoc]
  congr 1
  cases D with
  | nil =>
    rw [wt_front (fun x hx => by
      rcases wl_in hx with hx | hx
      · simp at hx
      · exact po.1 x hx)]
    rfl
  | cons x l =>
    have hx0 := hH x l rfl
    have pD := List.pairwise_cons.1 hD
    by_cases h2 : at' x f.c f.r = true
    · have hc := at_iff.1 h2
      rw [wl_pass (fun g hg => by have := po.1 g hg; rw [lt_iff] at this ⊢; omega)]
      show put f ++ wl fs (if _ then _ else _) = (if _ then _ else if _ then _ else _)
      rw [if_pos h2, if_neg (by rw [hx0]; simp), if_pos h2]
    · show put f ++ wl fs (if _ then _ else _) = _
      rw [if_neg h2, wt_front]
      intro y hy
      rw [lt_no] at hx0
      rw [at_iff] at h2
      have hfx : lt f x.c x.r = true := by rw [lt_iff]; omega
      rcases wl_in hy with hy | hy
      · rcases List.mem_cons.1 hy with rfl | hy
        · exact hfx
        · have := pD.1 y hy
          rw [lt_iff] at this hfx ⊢
          omega
      · exact po.1 y hy
theorem wl_fold {xs o : List Fl} (hx : Srt xs) (ho : Srt o) : wl o xs = o.foldr (fun f l => wt l f) xs := by
  induction o with
  | nil => rfl
  | cons f o ih => rw [wl_wt hx ho, ih (List.pairwise_cons.1 ho).2]; rfl
theorem foldw_srt {xs : List Fl} (hx : Srt xs) (o : List Fl) : Srt (o.foldr (fun f l => wt l f) xs) := by
  induction o with
  | nil => exact hx
  | cons f o ih => exact wt_srt ih f
theorem foldw_ful {xs : List Fl} (hx : Ful xs) (o : List Fl) : Ful (o.foldr (fun f l => wt l f) xs) := by
  induction o with
  | nil => exact hx
  | cons f o ih => exact wt_ful ih f
theorem foldw_no {xs o : List Fl} (hx : Srt xs) {c r : Int} (h : ∀ x ∈ o, ¬ (x.c = c ∧ x.r = r)) : txt (o.foldr (fun f l => wt l f) xs) c r = txt xs c r := by
  induction o with
  | nil => rfl
  | cons f o ih =>
    show txt (wt _ f) c r = _
    rw [txt_wt (foldw_srt hx o), if_neg (h f (by simp)), ih fun y hy => h y (by simp [hy])]
theorem foldw_yes {xs o : List Fl} (hx : Srt xs) (ho : Srt o) {x : Fl} (hm : x ∈ o) : txt (o.foldr (fun f l => wt l f) xs) x.c x.r = x.s := by
  induction o with
  | nil => simp at hm
  | cons f o ih =>
    have ho' := List.pairwise_cons.1 ho
    show txt (wt _ f) x.c x.r = _
    rw [txt_wt (foldw_srt hx o)]
    rcases List.mem_cons.1 hm with rfl | hm
    · rw [if_pos ⟨rfl, rfl⟩]
    · have := ho'.1 x hm
      rw [lt_iff] at this
      rw [if_neg (by omega), ih ho'.2 hm]
/-- All at once is one after the other. -/
theorem wl_ap {xs o : List Fl} (hx : Srt xs) (gx : Ful xs) (ho : Srt o) : wl o xs = ap xs o := by
  rw [wl_fold hx ho]
  refine srt_ext (foldw_srt hx o) (foldw_ful gx o) (ap_srt o hx) (ap_ful o gx) fun c r => ?_
  by_cases h : ∃ x ∈ o, x.c = c ∧ x.r = r
  · obtain ⟨x, hm, rfl, rfl⟩ := h
    rw [foldw_yes hx ho hm, ap_yes hx ho hm]
  · have h' : ∀ x ∈ o, ¬ (x.c = c ∧ x.r = r) := fun x hm e => h ⟨x, hm, e⟩
    rw [foldw_no hx h', ap_no hx h']
end Go.Proofs.YtomgjjngkffbbaaGreatDoor.ps

/- Package merge: Apply. Conditions: what the package variables hold. -/
namespace Go.Proofs.YtomgjjngkffbbaaGreatDoor.ps
/-- Cells that stand one behind the other in a row of so many are no more. -/
theorem srt_len : ∀ (o : List Fl) (lo : Int), Srt o → (∀ f ∈ o, adr.isC f.c f.r = true ∧ lo < f.r * 26 + f.c) → (o.length : Int) ≤ 2600 - lo ∨ o = [] := by
  intro o
  induction o with
  | nil => intro lo _ _; exact .inr rfl
  | cons x o ih =>
    intro lo hs hc
    left
    obtain ⟨h1, h2⟩ := List.pairwise_cons.1 hs
    obtain ⟨c1, c2⟩ := hc x (by simp)
    have c3 := adr.isC_iff.1 c1
    rcases ih (x.r * 26 + x.c) h2 (fun f hf => ⟨(hc f (by simp [hf])).1, by
      have a := lt_iff.1 (h1 f hf)
      have b := adr.isC_iff.1 (hc f (by simp [hf])).1
      omega⟩) with h | h
    · rw [List.length_cons]; omega
    · subst h; simp; omega
end Go.Proofs.YtomgjjngkffbbaaGreatDoor.ps
namespace Go.Proofs.YtomgjjngkffbbaaGreatDoor.fw
open Go Go.RowKit Go.Sort
/-- Cells that stand in order in the sheet's columns and rows are few. -/
theorem grid_few {d : List ps.Fl} (hs : ps.Srt d) (hg : ∀ x ∈ d, adr.isC x.c x.r = true) : d.length ≤ 2600 := by
  rcases ps.srt_len d 0 hs (fun f hf => ⟨hg f hf, by have := adr.isC_iff.1 (hg f hf); omega⟩) with h | h
  · omega
  · subst h; simp
/-- The first fault of Apply. -/
def ApT (l d : List ps.Fl) (t : Int) : Prop := (ps.Told l t ∧ t ≠ 0) ∨ (ps.Told l 0 ∧ ((CdT d t ∧ t ≠ 0) ∨ (CdT d 0 ∧ ((200 < (ps.ap l d).length ∧ t = 4) ∨ ((ps.ap l d).length ≤ 200 ∧ t = 0)))))
/-- What Apply answers. -/
def ApO (w : World) (l d : List ps.Fl) (t : Int) (e : Ending) (w' : World) : Prop :=
  (t ≠ 0 ∧ e = .returned (.tuple #[.slice none 0 0, ps.errV t]) ∧ Bw w w') ∨ (t = 0 ∧ ∃ v, e = .returned (.tuple #[v, .nilIface]) ∧ RV fL w v (ps.ap l d) w')
set_option maxRecDepth 1000000 in
set_option maxHeartbeats 8000000 in
theorem apply_any (p q : Option Addr) (cp cq : Nat) (l d : List ps.Fl) (w : World) (hl : ps.FM w p l) (hcap : l.length ≤ cp) (hd : ps.FM w q d) (hdl : d.length ≤ 4398046511104) (hE : ps.EnvP w) :
    Calls Tryz.prog 14 #[.slice p l.length cp, .slice q d.length cq] w fun e w' => ∃ t, ApT l d t ∧ ApO w l d t e w' := by
  have HC : Hid (Calls Tryz.prog 31 #[.slice p l.length cp] w fun e w' => (∃ t, e = .returned (ps.errV t) ∧ ps.Told l t) ∧ Bw w w') := ps.gcheck_any p cp l w hl hE
  have HD : Hid (∀ wx, Bw w wx → Calls Tryz.prog 32 #[.slice q d.length cq] wx fun e w' => (∃ t, e = .returned (ps.errV t) ∧ CdT d t) ∧ Bw wx w') := fun wx h => checkTexts_any q cq d wx (hd.below h) hdl (hE.below h hE.size)
  have HW : Hid (ps.Told l 0 → CdT d 0 → ∀ wx, Bw w wx → Calls Tryz.prog 33 #[.slice p l.length cp, .slice q d.length cq] wx fun e w' => ∃ p' c', e = .returned (.slice p' (ps.ap l d).length c') ∧ RV fL w (.slice p' (ps.ap l d).length c') (ps.ap l d) w') := fun h1 h2 wx h => by
    have hf := h1.fine
    have hg := h2.fine
    have hfew := grid_few hg.srt fun x hx => (hg.cell x hx).1
    refine (ps.with_any p q cp cq l d wx (hl.below h) (by have := hf.len; omega) hcap (hd.below h) (by omega)).mono ?_
    rintro e w' ⟨⟨v, rfl, ho⟩, hb⟩
    rw [ps.wl_ap hf.srt (fun x hx => (hf.cell x hx).2.1) hg.srt] at ho
    have hv : RV fL wx v (ps.ap l d) w' := ⟨ho, hb⟩
    obtain ⟨p', c', rfl, -⟩ := hv.form
    exact ⟨p', c', rfl, hv.lower h⟩
  obtain ⟨nl, hnl⟩ : ∃ n, l.length = n := ⟨_, rfl⟩
  obtain ⟨nd, hnd⟩ : ∃ n, d.length = n := ⟨_, rfl⟩
  obtain ⟨N, hN⟩ : ∃ n, (ps.ap l d).length = n := ⟨_, rfl⟩
  have HN : Hid ((ps.ap l d).length = N) := hN
  rw [hnl] at HC HW ⊢
  rw [hnd] at HD HW ⊢
  rw [hN] at HW
  clear hl hd hE hnl hnd hN hcap hdl
  go_enter Tryz.func14, Tryz.ntmps14
  go_upto_region 2 with (first | (go_at_call 31; refine HC.out.mono ?_; rintro e w1 ⟨⟨t, rfl, ht⟩, hb1⟩))
  have HT : Hid (ps.Told l t) := ht
  have HB1 : Hid (Bw w w1) := hb1
  clear ht hb1 HC
  by_cases h0 : t = 0
  · subst h0
    rw [ps.errV_zero]
    have HD1 : Hid (Calls Tryz.prog 32 #[.slice q nd cq] w1 fun e w' => (∃ t, e = .returned (ps.errV t) ∧ CdT d t) ∧ Bw w1 w') := HD.out w1 HB1.out
    clear HD
    go_upto_region 5 with (first | (go_at_call 32; refine HD1.out.mono ?_; rintro e w2 ⟨⟨t, rfl, ht⟩, hb2⟩))
    have HT2 : Hid (CdT d t) := ht
    have HB2 : Hid (Bw w w2) := HB1.out.tr hb2
    clear ht hb2 HD1
    by_cases h0 : t = 0
    · subst h0
      rw [ps.errV_zero]
      have HW2 : Hid (Calls Tryz.prog 33 #[.slice p nl cp, .slice q nd cq] w2 fun e w' => ∃ p' c', e = .returned (.slice p' N c') ∧ RV fL w (.slice p' N c') (ps.ap l d) w') := HW.out HT.out HT2.out w2 HB2.out
      clear HW
      go_upto_region 8 with (first | (go_at_call 33; refine HW2.out.mono ?_; rintro e w3 ⟨p', c', rfl, hv⟩))
      have HV : Hid (RV fL w (.slice p' N c') (ps.ap l d) w3) := hv
      clear hv HW2
      by_cases h200 : 200 < N
      · have h200' : (200 : Int) < (N : Int) := by omega
        go_wp2_with fail
        exact bodyPost_ret (v := .tuple #[.slice none 0 0, .iface 67 (.int .i64 4)]) (by simp [results, Tryz.results14, go_sem]) rfl ⟨4, .inr ⟨HT.out, .inr ⟨HT2.out, .inl ⟨by rw [HN.out]; exact h200, rfl⟩⟩⟩, .inl ⟨by decide, rfl, HV.out.below⟩⟩
      · have h200' : ¬ (200 : Int) < (N : Int) := by omega
        go_wp2_with fail
        exact bodyPost_ret (v := .tuple #[.slice p' N c', .nilIface]) (by simp [results, Tryz.results14, go_sem]) rfl ⟨0, .inr ⟨HT.out, .inr ⟨HT2.out, .inr ⟨by rw [HN.out]; omega, rfl⟩⟩⟩, .inr ⟨rfl, _, rfl, HV.out⟩⟩
    · have HN2 : Hid (t ≠ 0) := h0
      rw [ps.errV_some h0]
      clear h0
      go_wp2_with fail
      exact bodyPost_ret (v := .tuple #[.slice none 0 0, .iface 67 (.int .i64 t)]) (by simp [results, Tryz.results14, go_sem]) rfl ⟨t, .inr ⟨HT.out, .inl ⟨HT2.out, HN2.out⟩⟩, .inl ⟨HN2.out, by rw [ps.errV_some HN2.out], HB2.out⟩⟩
  · have HN2 : Hid (t ≠ 0) := h0
    rw [ps.errV_some h0]
    clear h0
    go_wp2_with fail
    exact bodyPost_ret (v := .tuple #[.slice none 0 0, .iface 67 (.int .i64 t)]) (by simp [results, Tryz.results14, go_sem]) rfl ⟨t, .inl ⟨HT.out, HN2.out⟩, .inl ⟨HN2.out, by rw [ps.errV_some HN2.out], HB1.out⟩⟩
end Go.Proofs.YtomgjjngkffbbaaGreatDoor.fw

/- What the laws of Merge ask: the answers in one form, the fact's sheet, sccsame.Sheets at two lists that are the same. Conditions: as each theorem says. -/
namespace Go.Proofs.YtomgjjngkffbbaaGreatDoor.ps
open Go.RowKit
open adr (isC)
theorem told_good {xs : List Fl} (hs : Srt xs) (hl : xs.length ≤ 200) (hg : ∀ x ∈ xs, isC x.c x.r = true ∧ ckT x.s = 0) : Told xs 0 := by
  refine .inr ⟨hl, .inl ⟨rfl, fun i hi => ?_⟩⟩
  have hx : xs[i]? = some xs[i] := List.getElem?_eq_getElem hi
  obtain ⟨h1, h2⟩ := hg _ (List.getElem_mem hi)
  have ho : ordB xs i xs[i] = false := by
    unfold ordB
    cases i with
    | zero => rfl
    | succ k =>
      have hk : k < xs.length := by omega
      simp only
      rw [List.getElem?_eq_getElem hk]
      have := List.pairwise_iff_getElem.1 hs k (k + 1) hk hi (Nat.lt_succ_self _)
      simp only
      rw [this]
      rfl
  rw [cd_text hx h1 ho]
  exact h2
theorem told_ex (xs : List Fl) : ∃ t, Told xs t := by
  by_cases hl : 200 < xs.length
  · exact ⟨4, .inl ⟨hl, rfl⟩⟩
  · have key : ∀ n, n ≤ xs.length → (∀ i, i < n → cd xs i = 0) ∨ ∃ i, i < n ∧ cd xs i ≠ 0 ∧ ∀ j, j < i → cd xs j = 0 := by
      intro n
      induction n with
      | zero => intro _; exact .inl fun i hi => absurd hi (Nat.not_lt_zero _)
      | succ n ih =>
        intro hn
        rcases ih (by omega) with h | ⟨i, h1, h2, h3⟩
        · by_cases h0 : cd xs n = 0
          · exact .inl fun i hi => by
              by_cases e : i = n
              · subst e; exact h0
              · exact h i (by omega)
          · exact .inr ⟨n, by omega, h0, h⟩
        · exact .inr ⟨i, by omega, h2, h3⟩
    rcases key xs.length (Nat.le_refl _) with h | ⟨i, h1, h2, h3⟩
    · exact ⟨0, .inr ⟨by omega, .inl ⟨rfl, h⟩⟩⟩
    · exact ⟨cd xs i, .inr ⟨by omega, .inr ⟨h2, i, h1, rfl, h3⟩⟩⟩
theorem told_ck {xs : List Fl} (h : Told xs 0) {x : Fl} (hx : x ∈ xs) : ckT x.s = 0 := by
  rcases h with ⟨_, h2⟩ | ⟨h1, h2⟩
  · cases h2
  · rcases h2 with ⟨-, h3⟩ | ⟨h3, -⟩
    · obtain ⟨i, hi⟩ := List.getElem?_of_mem hx
      exact (cd_zero hi (h3 i (List.getElem?_eq_some_iff.1 hi).1)).2.2
    · exact absurd rfl h3
theorem Fine.ful {xs : List Fl} (h : Fine xs) : Ful xs := fun x hx => (h.cell x hx).2.1
theorem Fine.ing {xs : List Fl} (h : Fine xs) : InG xs := fun x hx => adr.isC_iff.1 (h.cell x hx).1
theorem told_nil : Told [] 0 := .inr ⟨Nat.zero_le _, .inl ⟨rfl, fun _ hi => absurd hi (Nat.not_lt_zero _)⟩⟩
end Go.Proofs.YtomgjjngkffbbaaGreatDoor.ps
namespace Go.Proofs.YtomgjjngkffbbaaGreatDoor.fw
open Go Go.RowKit Go.Sort
theorem eqF (c r : Int) (s : ByteArray) (m : Nat) (W : World) : (Op.equalIn (m + 4) 45 (.agg #[.int .i64 c, .int .i64 r, .string s]) (.agg #[.int .i64 c, .int .i64 r, .string s])).run Tryz.prog W = .ok true W := by
  have hS : Tryz.prog.underlying 45 = some (.struct (Tryz.prog.fieldsOf 45)) := by kernel_rfl
  have hp : Tryz.prog.stoodInHeld 45 = false := by kernel_rfl
  rw [run_equalIn_struct W (m + 3) 45 _ _ hS hp]
  simp only [Program.fieldsOf, Tryz.underlying45]
  simp [Op.eqFields, go_sem, ps.eqIn30]
theorem neqF (c r : Int) (s : ByteArray) (W : World) : (binOp BinOp.neq 45 (.agg #[.int .i64 c, .int .i64 r, .string s]) (.agg #[.int .i64 c, .int .i64 r, .string s])).run Tryz.prog W = .ok (.bool false) W := by
  rw [run_neq_struct, show (10000 : Nat) = 9996 + 4 from rfl, eqF]; rfl

set_option maxRecDepth 1000000 in
set_option maxHeartbeats 4000000 in
/-- sccsame.Sheets at a list of cells that lies in memory twice. -/
theorem rsheets_fm (X : List ps.Fl) (p p' : Option Addr) (c c' : Nat) (w : World) (hv : ps.FM w p X) (hv' : ps.FM w p' X) (hl : X.length ≤ 100000) :
    Calls Tryz.prog 21 #[.slice p X.length c, .slice p' X.length c'] w fun e w' => e = .returned (.bool true) ∧ Bw w w' := by
  have HV : Hid (ps.FM w p X) := hv
  have HV' : Hid (ps.FM w p' X) := hv'
  have hl9 : (X.length : Int) ≤ 100000 := by omega
  clear hv hl hv'
  go_enter Tryz.func21, Tryz.ntmps21
  go_upto_block 0 with fail
  go_cut [] (fun wx => Hid (Bw w wx))
  case first =>
    go_wp2_with fail
    go_loopw [5] (fun s5 wr => ∃ i : Nat, s5 = .int .i64 (i : Int) ∧ i ≤ X.length ∧ Hid (Bw w wr)) (fun s5 _ => X.length - (intOf s5).toNat)
    case atStart => exact ⟨0, rfl, Nat.zero_le _, Below.refl _ _⟩
    case round =>
      obtain ⟨i, rfl, hi, HR⟩ := hrel
      by_cases hlt : i < X.length
      · have hlt' : (i : Int) < (X.length : Int) := by omega
        have hi0 : (0 : Int) ≤ (i : Int) := by omega
        have hx : X[i]? = some X[i] := List.getElem?_eq_getElem hlt
        obtain ⟨x, ex⟩ : ∃ x, X[i] = x := ⟨_, rfl⟩
        rw [ex] at hx
        obtain ⟨gX, oX, rfl, -, q0, q1, q2⟩ := fm_at (fm_next HV.out HR.out) hx
        obtain ⟨gY, oY, rfl, -, r0, r1, r2⟩ := fm_at (fm_next HV'.out HR.out) hx
        have e30 := fun W => neqF x.c x.r x.s W
        clear hx ex
        obtain ⟨xc, xr, xs⟩ := x
        dsimp only at q0 q1 q2 r0 r1 r2 e30
        go_wp2_with fail
        go_cut [25] (fun s25 wx => s25 = .bool false ∧ wx = wr.drew)
        case first =>
          go_region
          all_goals
            go_wp2_with fail
            go_meet
            case rel => exact ⟨rfl, rfl⟩
        case rest =>
        obtain ⟨rfl, rfl⟩ := hcut
        apply_assumption
        clear q0 q1 q2 r0 r1 r2 e30
        have HR2 : Hid (Bw w wr.drew) := HR.out.drew
        go_wp2_with fail
        exact ⟨⟨i + 1, rfl, hlt, HR2⟩, by simp [intOf]; omega⟩
      · have hlt' : ¬ (i : Int) < (X.length : Int) := by omega
        go_wp2_with fail
        go_meet
        case rel => exact HR
  case rest =>
  have HC := hcut
  clear hcut
  apply_assumption
  go_wp2_with fail
  go_ret
  exact ⟨rfl, HC.out⟩
/-- A list that lies somewhere, with its room. -/
def FC (w : World) (p : Option Addr) (c : Nat) (xs : List ps.Fl) : Prop := ps.FM w p xs ∧ xs.length ≤ c
theorem FC.next {w w' : World} {p : Option Addr} {c : Nat} {xs : List ps.Fl} (h : FC w p c xs) (hb : Bw w w') : FC w' p c xs := ⟨h.1.below hb, h.2⟩
theorem RV.fc {w : World} {v : Value} {X : List ps.Fl} {wx : World} (h : RV fL w v X wx) : ∃ p c, v = .slice p X.length c ∧ FC wx p c X := by
  have hF : ps.FB wx v X := by
    have := ps.own_base h.own (Nat.zero_le _)
    exact this
  obtain ⟨p, c, rfl, hm⟩ := hF.shape
  refine ⟨p, c, rfl, hm, ?_⟩
  obtain ⟨p2, c2, e, h2⟩ := h.form
  injection e with e1 e2 e3
  subst e1 e3
  rcases h2 with ⟨h3, -, h4⟩ | ⟨g, -, h3⟩
  · omega
  · exact h3
theorem shT_two {p q : Option Addr} {cp cq : Nat} {a b : List ps.Fl} {t : Int} (h : ShT [⟨p, cp, a⟩, ⟨q, cq, b⟩] t) (ha : ps.Told a 0) (hb : ps.Told b 0) : t = 0 := by
  rcases h with ⟨h1, h2⟩ | ⟨-, ⟨h1, h2⟩ | ⟨-, h1⟩⟩
  · exact absurd (h1.one ha) h2
  · exact absurd (h1.one hb) h2
  · exact h1
/-- Diff at two sheets without a fault. -/
theorem diff_good (p q : Option Addr) (cp cq : Nat) (a b : List ps.Fl) (w : World) (ha : ps.FM w p a) (hb : ps.FM w q b) (hE : ps.EnvP w) (hTa : ps.Told a 0) (hTb : ps.Told b 0) :
    Calls Tryz.prog 11 #[.slice p a.length cp, .slice q b.length cq] w fun e w' => ∃ p' c', e = .returned (.tuple #[.slice p' (ps.df a b 2574).length c', .nilIface]) ∧ FC w' p' c' (ps.df a b 2574) ∧ Bw w w' := by
  refine (diff_any p q cp cq a b w ha hb hE).mono fun e w' ⟨t, h1, h2⟩ => ?_
  obtain rfl := shT_two h1 hTa hTb
  rcases h2 with ⟨h2, -⟩ | ⟨-, v, rfl, hv⟩
  · exact absurd rfl h2
  · obtain ⟨p', c', rfl, hf⟩ := hv.fc
    exact ⟨p', c', rfl, hf, hv.below⟩
/-- Diff where one of two sheets has a fault. -/
theorem diff_bad (p q : Option Addr) (cp cq : Nat) (a b : List ps.Fl) (w : World) (ha : ps.FM w p a) (hb : ps.FM w q b) (hE : ps.EnvP w) (hn : ¬ (ps.Told a 0 ∧ ps.Told b 0)) :
    Calls Tryz.prog 11 #[.slice p a.length cp, .slice q b.length cq] w fun e w' => ∃ z, e = .returned (.tuple #[.slice none 0 0, .iface 67 (.int .i64 z)]) ∧ Bw w w' := by
  refine (diff_any p q cp cq a b w ha hb hE).mono fun e w' ⟨t, h1, h2⟩ => ?_
  have h0 : t ≠ 0 := by
    rintro rfl
    rcases h1 with ⟨-, h1⟩ | ⟨h3, h1⟩
    · exact absurd rfl h1
    · rcases h1 with ⟨-, h1⟩ | ⟨h4, -⟩
      · exact absurd rfl h1
      · exact hn ⟨h3, h4⟩
  rcases h2 with ⟨-, rfl, hb⟩ | ⟨h2, -⟩
  · exact ⟨t, by rw [ps.errV_some h0], hb⟩
  · exact absurd h2 h0
/-- The texts that differ are texts that a sheet may have. -/
theorem cdt_df (a : List ps.Fl) {b : List ps.Fl} (hT : ps.Told b 0) {n : Nat} (hn : n ≤ 2574) : CdT (ps.df a b n) 0 := by
  refine .inl ⟨rfl, fun i hi => ?_⟩
  obtain ⟨x, hx⟩ : ∃ x, (ps.df a b n)[i]? = some x := ⟨_, List.getElem?_eq_getElem hi⟩
  obtain ⟨t, ht, rfl, -⟩ := ps.df_mem (List.mem_of_getElem? hx)
  have ho : ps.ordB (ps.df a b n) i ⟨ps.kc t, ps.kr t, ps.txt b (ps.kc t) (ps.kr t)⟩ = false := by
    unfold ps.ordB
    cases i with
    | zero => rfl
    | succ k =>
      have hk : k < (ps.df a b n).length := by omega
      simp only
      rw [List.getElem?_eq_getElem hk]
      have := List.pairwise_iff_getElem.1 (ps.df_srt a b n) k (k + 1) hk hi (Nat.lt_succ_self _)
      rw [(List.getElem?_eq_some_iff.1 hx).2] at this
      simp only
      rw [this]
      rfl
  rw [cdd_text hx (adr.isC_iff.2 ⟨by dsimp only; unfold ps.kc; omega, by dsimp only; unfold ps.kr; omega⟩) ho]
  dsimp only
  unfold ftx
  split
  · rfl
  · rename_i hs
    have hm : ∃ y ∈ b, ps.txt b (ps.kc t) (ps.kr t) = y.s := by
      refine Classical.byContradiction fun hno => hs ?_
      have : ps.txt b (ps.kc t) (ps.kr t) = nul := ps.txt_none fun y hy => by
        rw [ps.at_no]
        rintro ⟨e1, e2⟩
        refine hno ⟨y, hy, ?_⟩
        rw [← e1, ← e2]
        obtain ⟨j, hj⟩ := List.getElem?_of_mem hy
        exact ps.txt_at hT.fine.srt hj
      rw [this]
      rfl
    obtain ⟨y, hy, e⟩ := hm
    rw [e]
    exact ps.told_ck hT hy
/-- Apply where nothing is wrong. -/
theorem apply_good (p q : Option Addr) (cp cq : Nat) (l d : List ps.Fl) (w : World) (hl : FC w p cp l) (hd : ps.FM w q d) (hE : ps.EnvP w) (hT : ps.Told l 0) (hC : CdT d 0) (hdl : d.length ≤ 4398046511104) (hn : (ps.ap l d).length ≤ 200) :
    Calls Tryz.prog 14 #[.slice p l.length cp, .slice q d.length cq] w fun e w' => ∃ p' c', e = .returned (.tuple #[.slice p' (ps.ap l d).length c', .nilIface]) ∧ FC w' p' c' (ps.ap l d) ∧ Bw w w' := by
  refine (apply_any p q cp cq l d w hl.1 hl.2 hd hdl hE).mono fun e w' ⟨t, h1, h2⟩ => ?_
  have h0 : t = 0 := by
    rcases h1 with ⟨h3, h4⟩ | ⟨-, ⟨h3, h4⟩ | ⟨-, ⟨h3, -⟩ | ⟨-, h3⟩⟩⟩
    · exact absurd (h3.one hT) h4
    · exact absurd (h3.one hC) h4
    · omega
    · exact h3
  subst h0
  rcases h2 with ⟨h2, -⟩ | ⟨-, v, rfl, hv⟩
  · exact absurd rfl h2
  · obtain ⟨p', c', rfl, hf⟩ := hv.fc
    exact ⟨p', c', rfl, hf, hv.below⟩
theorem df_len {a b : List ps.Fl} {n : Nat} : (ps.df a b n).length ≤ n := by
  unfold ps.df
  rw [List.length_map]
  refine Nat.le_trans (List.length_filter_le _ _) ?_
  rw [List.length_range]
  exact Nat.le_refl _
/-- From nothing to a sheet: that sheet. -/
theorem df_nil {l : List ps.Fl} (h : ps.Fine l) : ps.df [] l 2574 = l := by
  refine ord_ext (R := fun x y : ps.Fl => ps.lt x y.c y.r = true) (fun x y => lt_asym) (ps.df_srt _ _ _) h.srt fun x => ?_
  constructor
  · intro hx
    obtain ⟨t, ht, rfl, hne⟩ := ps.df_mem hx
    dsimp only at hne
    refine Classical.byContradiction fun hno => hne ?_
    rw [ps.txt_nil]
    refine (ps.txt_none fun y hy => ?_).symm
    rw [ps.at_no]
    rintro ⟨e1, e2⟩
    refine hno ?_
    obtain ⟨j, hj⟩ := List.getElem?_of_mem hy
    have := ps.txt_at h.srt hj
    rw [← e1, ← e2, this]
    exact hy
  · intro hx
    obtain ⟨t, ht, e1, e2⟩ := grid_no (h.ing x hx)
    obtain ⟨j, hj⟩ := List.getElem?_of_mem hx
    have e3 := ps.txt_at h.srt hj
    have := ps.df_in (a := []) (b := l) ht (by rw [e1, e2, e3, ps.txt_nil]; exact (ps.size_of_ne (h.ful x hx)).symm)
    rw [e1, e2, e3] at this
    exact this
theorem fm_of_block {w : World} {g : Nat} {cs : Array Value} {t : TypeId} {xs : List ps.Fl} (h : w.heap[g]? = some (.cells cs t (0, 0))) (he : cs.toList = ps.flF xs) : ps.FM w (some ⟨g, 0, none⟩) xs :=
  .inr ⟨g, 0, rfl, fm.lt_blk h, fun t u hu => by
    rw [← he] at hu
    simp only [World.cell?, h, Nat.zero_add]
    simpa using hu⟩
def smL : List ps.Fl := [⟨1, 1, ⟨#[50]⟩⟩, ⟨2, 1, ⟨#[61, 65, 49, 43, 49]⟩⟩]
theorem told_sm : ps.Told smL 0 := by
  refine ps.told_good (List.pairwise_cons.2 ⟨fun y hy => by obtain rfl := List.mem_singleton.1 hy; decide, List.pairwise_singleton _ _⟩) (by decide) fun x hx => ?_
  rcases List.mem_cons.1 hx with rfl | hx
  · exact ⟨by decide, by decide +kernel⟩
  · obtain rfl := List.mem_singleton.1 hx
    exact ⟨by decide, by decide +kernel⟩
theorem cell_any (c r : Int) (w : World) :
    Calls Tryz.prog 38 #[.int .i64 c, .int .i64 r] w fun e w' => e = .returned (.agg #[.int .i64 c, .int .i64 r]) ∧ Bw w w' := by
  go_enter Tryz.func38, Tryz.ntmps38
  go_wp2_with fail
  exact bodyPost_ret (v := .agg #[.int .i64 c, .int .i64 r]) (by simp [results, Tryz.results38, go_sem]) rfl ⟨rfl, Bw.al _ _⟩
theorem at_any (c r : Int) (w : World) :
    Calls Tryz.prog 22 #[.int .i64 c, .int .i64 r] w fun e w' => e = .returned (.agg #[.int .i64 c, .int .i64 r]) ∧ Bw w w' := by
  go_enter Tryz.func22, Tryz.ntmps22
  go_wp2_with fail
  exact bodyPost_ret (v := .agg #[.int .i64 c, .int .i64 r]) (by simp [results, Tryz.results22, go_sem]) rfl ⟨rfl, Bw.al _ _⟩
set_option maxHeartbeats 4000000 in
theorem small_any (w : World) : Calls Tryz.prog 19 #[] w fun e w' => ∃ p, e = .returned (.slice p 2 2) ∧ FC w' p 2 smL ∧ Bw w w' := by
  go_enter Tryz.func19, Tryz.ntmps19
  go_wp2_with (first | (go_at_call 38; refine (cell_any _ _ _).mono ?_; rintro e w1 ⟨rfl, hb1⟩))
  all_goals
    exact bodyPost_ret (v := .slice (some ⟨w1.heap.size, 0, none⟩) 2 2) (by simp [results, Tryz.results19, go_sem]) rfl ⟨_, rfl, ⟨fm_of_block (heap_alloc_new w1 _) rfl, by decide⟩, (Bw.tr (by assumption) hb1).tr (Bw.al w1 _)⟩
end Go.Proofs.YtomgjjngkffbbaaGreatDoor.fw

/- Lists of cells that grow; sccsame.Cells at two lists that are the same. Conditions: as each theorem says. -/
namespace Go.Proofs.YtomgjjngkffbbaaGreatDoor.fw
open Go.RowKit Go.Sort
/-- How a cell lies. -/
def cL : EL (Int × Int) := ⟨43, 2, fun x => [.int .i64 x.1, .int .i64 x.2], fun _ => rfl, fun x u hu => by simp at hu; rcases hu with rfl | rfl <;> rfl⟩
theorem infoC : (Tryz.prog.info? 43).map (fun i => (i.zero, i.size, i.bytes)) = some (some (.agg #[.int .i64 0, .int .i64 0]), 2, 16) := by kernel_rfl
theorem RV.cell {w : World} {v : Value} {xs : List (Int × Int)} {wx : World} (h : RV cL w v xs wx) (hl : xs.length ≤ 10000) (c r : Int) :
    ∃ g k w', (Builtin.append_ #[33, 33] 33 #[v, .slice (some ⟨wx.heap.size, 0, none⟩) 1 1]).run Tryz.prog (wx.alloc (.cells #[.int .i64 c, .int .i64 r] 43)) = .ok (.slice (some ⟨g, 0, none⟩) (xs.length + 1) k) w' ∧ RV cL w (.slice (some ⟨g, 0, none⟩) (xs.length + 1) k) (xs ++ [(c, r)]) w' :=
  h.one 33 (b := 16) Tryz.underlying33 infoC rfl (by decide) (by omega) (by omega) (c, r) _ rfl
theorem neq28 (a b c d : Int) (W : World) : (binOp BinOp.neq 43 (.agg #[.int .i64 a, .int .i64 b]) (.agg #[.int .i64 c, .int .i64 d])).run Tryz.prog W = .ok (.bool (!(decide (a = c) && decide (b = d)))) W := by
  rw [run_neq_struct, show (10000 : Nat) = 9998 + 2 from rfl, ps.eqIn30]; rfl
theorem RV.two {w : World} {v : Value} {X : List (Int × Int)} {wx : World} (h : RV cL w v X wx) {i : Nat} {x : Int × Int} (hx : X[i]? = some x) : ∃ g c, v = .slice (some ⟨g, 0, none⟩) X.length c ∧ wx.cell? ⟨g, i * 2, none⟩ = some (.int .i64 x.1) ∧ wx.cell? ⟨g, i * 2 + 1, none⟩ = some (.int .i64 x.2) := by
  obtain ⟨g, c, e1, -, -, hc⟩ := h.at hx
  exact ⟨g, c, e1, hc 0 _ rfl, hc 1 _ rfl⟩
set_option maxRecDepth 1000000 in
set_option maxHeartbeats 4000000 in
theorem rcells_any (X : List (Int × Int)) (v v' : Value) (w0 w0' w : World) (hv : RV cL w0 v X w) (hv' : RV cL w0' v' X w) (hl : X.length ≤ 100000) :
    Calls Tryz.prog 17 #[v, v'] w fun e w' => e = .returned (.bool true) ∧ Bw w w' := by
  have HV : Hid (RV cL w0 v X w) := hv
  have HV' : Hid (RV cL w0' v' X w) := hv'
  have hl9 : (X.length : Int) ≤ 100000 := by omega
  obtain ⟨pX, cX, eV, -⟩ := hv.form
  subst eV
  obtain ⟨pX', cX', eV', -⟩ := hv'.form
  subst eV'
  clear hv hl hv'
  go_enter Tryz.func17, Tryz.ntmps17
  go_upto_block 0 with fail
  go_cut [] (fun wx => Hid (Bw w wx))
  case first =>
    go_wp2_with fail
    go_loopw [5] (fun s5 wr => ∃ i : Nat, s5 = .int .i64 (i : Int) ∧ i ≤ X.length ∧ Hid (Bw w wr)) (fun s5 _ => X.length - (intOf s5).toNat)
    case atStart => exact ⟨0, rfl, Nat.zero_le _, Below.refl _ _⟩
    case round =>
      obtain ⟨i, rfl, hi, HR⟩ := hrel
      by_cases hlt : i < X.length
      · have hlt' : (i : Int) < (X.length : Int) := by omega
        have hi0 : (0 : Int) ≤ (i : Int) := by omega
        have hx : X[i]? = some X[i] := List.getElem?_eq_getElem hlt
        obtain ⟨x, ex⟩ : ∃ x, X[i] = x := ⟨_, rfl⟩
        rw [ex] at hx
        obtain ⟨gX, k9, e1, q0, q1⟩ := (HV.out.next HR.out).two hx
        injection e1 with e2 e3 e4
        subst e2
        obtain ⟨gY, k8, e1', r0, r1⟩ := (HV'.out.next HR.out).two hx
        injection e1' with e2' e3' e4'
        subst e2'
        have e28 : ∀ W, (binOp BinOp.neq 43 (.agg #[.int .i64 x.1, .int .i64 x.2]) (.agg #[.int .i64 x.1, .int .i64 x.2])).run Tryz.prog W = .ok (.bool false) W := fun W => by rw [neq28]; simp
        clear hx ex e3 e4 e3' e4'
        obtain ⟨xc, xr⟩ := x
        dsimp only at q0 q1 r0 r1 e28
        go_wp2_with fail
        go_cut [25] (fun s25 wx => s25 = .bool false ∧ wx = wr.drew)
        case first =>
          go_region
          all_goals
            go_wp2_with fail
            go_meet
            case rel => exact ⟨rfl, rfl⟩
        case rest =>
        obtain ⟨rfl, rfl⟩ := hcut
        apply_assumption
        clear q0 q1 r0 r1 e28
        have HR2 : Hid (Bw w wr.drew) := HR.out.drew
        go_wp2_with fail
        exact ⟨⟨i + 1, rfl, hlt, HR2⟩, by simp [intOf]; omega⟩
      · have hlt' : ¬ (i : Int) < (X.length : Int) := by omega
        go_wp2_with fail
        go_meet
        case rel => exact HR
  case rest =>
  have HC := hcut
  clear hcut
  apply_assumption
  go_wp2_with fail
  go_ret
  exact ⟨rfl, HC.out⟩
end Go.Proofs.YtomgjjngkffbbaaGreatDoor.fw

/- Package merge: what two hands made of a base, row by row; plain. Conditions: as each theorem says. -/
namespace Go.Proofs.YtomgjjngkffbbaaGreatDoor.ps
open Go.RowKit
open adr (isC)
/-- A text that a cell has stands in a row. -/
theorem txt_some {a : List Fl} (hs : Srt a) {c r : Int} (h : txt a c r ≠ nul) : ∃ y ∈ a, y.c = c ∧ y.r = r ∧ txt a c r = y.s := by
  refine Classical.byContradiction fun hno => h (txt_none fun y hy => ?_)
  rw [at_no]
  rintro ⟨rfl, rfl⟩
  obtain ⟨j, hj⟩ := List.getElem?_of_mem hy
  exact hno ⟨y, hy, rfl, rfl, txt_at hs hj⟩
theorem th_txt {s a b : List Fl} (hs : Fine s) (ha : Fine a) (hb : Fine b) (c r : Int) : txt (th s a b) c r = if txt s c r ≠ txt a c r then txt a c r else txt b c r := txt_ap_df hb.srt hs.ing ha.ing c r
theorem th_srt {s a b : List Fl} (hb : Fine b) : Srt (th s a b) := ap_srt _ hb.srt
theorem th_ful {s a b : List Fl} (hb : Fine b) : Ful (th s a b) := ap_ful _ hb.ful
/-- What both made is a sheet, if it has not too many cells. -/
theorem th_told {s a b : List Fl} (hs : Told s 0) (ha : Told a 0) (hb : Told b 0) (hl : (th s a b).length ≤ 200) : Told (th s a b) 0 := by
  refine told_good (th_srt hb.fine) hl fun x hx => ?_
  obtain ⟨j, hj⟩ := List.getElem?_of_mem hx
  have e1 := txt_at (th_srt (s := s) (a := a) hb.fine) hj
  have e2 := th_txt hs.fine ha.fine hb.fine x.c x.r
  have hne := size_of_ne (th_ful (s := s) (a := a) hb.fine x hx)
  rw [e1] at e2
  split at e2
  · obtain ⟨y, hy, h1, h2, h3⟩ := txt_some (c := x.c) (r := x.r) ha.fine.srt (by rw [← e2]; exact hne)
    have h4 : x.s = y.s := e2.trans h3
    rw [h4, ← h1, ← h2]
    exact ⟨(ha.fine.cell y hy).1, told_ck ha hy⟩
  · obtain ⟨y, hy, h1, h2, h3⟩ := txt_some (c := x.c) (r := x.r) hb.fine.srt (by rw [← e2]; exact hne)
    have h4 : x.s = y.s := e2.trans h3
    rw [h4, ← h1, ← h2]
    exact ⟨(hb.fine.cell y hy).1, told_ck hb hy⟩
end Go.Proofs.YtomgjjngkffbbaaGreatDoor.ps
namespace Go.Proofs.YtomgjjngkffbbaaGreatDoor.fw
open Go Go.RowKit Go.Sort Go.Maps
/-- The text that a cell comes to have of what two made of a base. -/
def bth (x : Tr) : ByteArray := if x.s1 = x.s0 then x.s2 else x.s1
/-- Whether they made two things of it. -/
def clB (x : Tr) : Bool := decide (x.s1 ≠ x.s0) && decide (x.s2 ≠ x.s0) && decide (x.s2 ≠ x.s1)
def cz (x : Tr) : Int × Int := (x.c, x.r)
def thY (l : List Tr) : List ps.Fl := (l.filter fun x => decide ((bth x).size ≠ 0)).map fun x => ⟨x.c, x.r, bth x⟩
def clY (l : List Tr) : List (Int × Int) := (l.filter clB).map cz
theorem thY_snoc (l : List Tr) (x : Tr) : thY (l ++ [x]) = thY l ++ if (bth x).size ≠ 0 then [⟨x.c, x.r, bth x⟩] else [] := by
  unfold thY
  rw [List.filter_append, List.map_append]
  congr 1
  by_cases h : (bth x).size = 0
  · rw [if_neg (fun e => e h), List.filter_cons_of_neg (by simp [h])]; rfl
  · rw [if_pos h, List.filter_cons_of_pos (by simp [h])]; rfl
theorem clY_snoc (l : List Tr) (x : Tr) : clY (l ++ [x]) = clY l ++ if clB x = true then [cz x] else [] := by
  unfold clY
  rw [List.filter_append, List.map_append]
  congr 1
  by_cases h : clB x = true <;> simp [h]
theorem thY_len (l : List Tr) : (thY l).length ≤ l.length := by
  unfold thY
  rw [List.length_map]
  exact List.length_filter_le _ _
theorem clY_len (l : List Tr) : (clY l).length ≤ l.length := by
  unfold clY
  rw [List.length_map]
  exact List.length_filter_le _ _
theorem thY_srt {Y : List Tr} (hs : Y.Pairwise ltT) : ps.Srt (thY Y) := by
  unfold thY ps.Srt
  rw [List.pairwise_map]
  refine (List.Pairwise.filter _ hs).imp fun {x y} h => ?_
  rw [ps.lt_iff]
  exact h
theorem thY_ful (Y : List Tr) : ps.Ful (thY Y) := fun x hx => by
  unfold thY at hx
  obtain ⟨y, hy, rfl⟩ := List.mem_map.1 hx
  exact of_decide_eq_true (List.mem_filter.1 hy).2
theorem thY_txt {Y : List Tr} {A : Nat → List ps.Fl} (hs : Y.Pairwise ltT) (h : TB Y A) (c r : Int) : ps.txt (thY Y) c r = if ps.txt (A 1) c r = ps.txt (A 0) c r then ps.txt (A 2) c r else ps.txt (A 1) c r := by
  by_cases he : ∃ y ∈ Y, y.c = c ∧ y.r = r
  · obtain ⟨y, hy, rfl, rfl⟩ := he
    obtain ⟨t0, t1, t2⟩ := h.txt y hy
    rw [← t0, ← t1, ← t2]
    show _ = bth y
    by_cases h0 : (bth y).size = 0
    · rw [ps.size_nul h0]
      refine ps.txt_none fun f hf => ?_
      rw [ps.at_no]
      rintro ⟨e1, e2⟩
      unfold thY at hf
      obtain ⟨z, hz, rfl⟩ := List.mem_map.1 hf
      obtain ⟨hz1, hz2⟩ := List.mem_filter.1 hz
      have e : z = y := h.one z hz1 y hy e1 e2
      subst e
      exact of_decide_eq_true hz2 h0
    · have hm : (⟨y.c, y.r, bth y⟩ : ps.Fl) ∈ thY Y := by
        unfold thY
        exact List.mem_map.2 ⟨y, List.mem_filter.2 ⟨hy, decide_eq_true h0⟩, rfl⟩
      obtain ⟨j, hj⟩ := List.getElem?_of_mem hm
      exact ps.txt_at (thY_srt hs) hj
  · have hn : ∀ y ∈ Y, ¬ (y.c = c ∧ y.r = r) := fun y hy e => he ⟨y, hy, e⟩
    rw [h.no hn (j := 0) (by decide), h.no hn (j := 1) (by decide), h.no hn (j := 2) (by decide), if_pos rfl]
    refine ps.txt_none fun f hf => ?_
    rw [ps.at_no]
    rintro ⟨e1, e2⟩
    unfold thY at hf
    obtain ⟨z, hz, rfl⟩ := List.mem_map.1 hf
    exact hn z (List.mem_filter.1 hz).1 ⟨e1, e2⟩
theorem thY_is {Y : List Tr} {A : Nat → List ps.Fl} (hs : Y.Pairwise ltT) (h : TB Y A) (h0 : ps.Fine (A 0)) (h1 : ps.Fine (A 1)) (h2 : ps.Fine (A 2)) : thY Y = ps.th (A 0) (A 1) (A 2) := by
  refine ps.srt_ext (thY_srt hs) (thY_ful Y) (ps.th_srt h2) (ps.th_ful h2) fun c r => ?_
  rw [thY_txt hs h, ps.th_txt h0 h1 h2]
  by_cases e : ps.txt (A 1) c r = ps.txt (A 0) c r
  · rw [if_pos e, if_neg (by simp [e])]
  · rw [if_neg e, if_pos (fun e2 => e e2.symm)]
/-- The cells of which two made two things, as they stand. -/
def boT (s a b : List ps.Fl) : List (Int × Int) := ((List.range 2574).filter (ps.bo s a b)).map fun t => (ps.kc t, ps.kr t)
def ltP (x y : Int × Int) : Prop := x.2 < y.2 ∨ (x.2 = y.2 ∧ x.1 < y.1)
theorem ltP_asym {x y : Int × Int} (h : ltP x y) : ¬ ltP y x := by
  unfold ltP at *
  omega
theorem boT_srt (s a b : List ps.Fl) : (boT s a b).Pairwise ltP := by
  unfold boT
  rw [List.pairwise_map]
  refine (List.Pairwise.filter _ List.pairwise_lt_range).imp fun {x y} h => ?_
  unfold ltP
  exact ps.kk_lt h
theorem clY_srt {Y : List Tr} (hs : Y.Pairwise ltT) : (clY Y).Pairwise ltP := by
  unfold clY
  rw [List.pairwise_map]
  exact (List.Pairwise.filter _ hs).imp fun {x y} h => h
theorem clY_is {Y : List Tr} {A : Nat → List ps.Fl} (hs : Y.Pairwise ltT) (h : TB Y A) : clY Y = boT (A 0) (A 1) (A 2) := by
  refine ord_ext (R := ltP) (fun x y => ltP_asym) (clY_srt hs) (boT_srt _ _ _) fun x => ?_
  constructor
  · intro hx
    unfold clY at hx
    obtain ⟨y, hy, rfl⟩ := List.mem_map.1 hx
    obtain ⟨hy1, hy2⟩ := List.mem_filter.1 hy
    obtain ⟨t, ht, e1, e2⟩ := grid_no (h.grid y hy1)
    obtain ⟨t0, t1, t2⟩ := h.txt y hy1
    unfold boT
    refine List.mem_map.2 ⟨t, List.mem_filter.2 ⟨List.mem_range.2 ht, ?_⟩, by unfold cz; rw [e1, e2]⟩
    unfold clB at hy2
    rw [t0, t1, t2] at hy2
    unfold ps.bo ps.ne2
    rw [e1, e2]
    simp only [Bool.and_eq_true, decide_eq_true_eq] at hy2 ⊢
    exact ⟨⟨fun e => hy2.1.1 e.symm, fun e => hy2.1.2 e.symm⟩, fun e => hy2.2 e.symm⟩
  · intro hx
    unfold boT at hx
    obtain ⟨t, ht, rfl⟩ := List.mem_map.1 hx
    obtain ⟨ht1, ht2⟩ := List.mem_filter.1 ht
    unfold ps.bo ps.ne2 at ht2
    simp only [Bool.and_eq_true, decide_eq_true_eq] at ht2
    have hy : ∃ y ∈ Y, y.c = ps.kc t ∧ y.r = ps.kr t := by
      refine Classical.byContradiction fun hn => ht2.1.1 ?_
      have hn' : ∀ y ∈ Y, ¬ (y.c = ps.kc t ∧ y.r = ps.kr t) := fun y hy e => hn ⟨y, hy, e⟩
      rw [h.no hn' (j := 0) (by decide), h.no hn' (j := 1) (by decide)]
    obtain ⟨y, hy, e1, e2⟩ := hy
    obtain ⟨t0, t1, t2⟩ := h.txt y hy
    rw [e1, e2] at t0 t1 t2
    unfold clY
    refine List.mem_map.2 ⟨y, List.mem_filter.2 ⟨hy, ?_⟩, by unfold cz; rw [e1, e2]⟩
    unfold clB
    rw [t0, t1, t2]
    simp only [Bool.and_eq_true, decide_eq_true_eq]
    exact ⟨⟨fun e => ht2.1.1 e.symm, fun e => ht2.1.2 e.symm⟩, fun e => ht2.2 e.symm⟩
theorem boT_first (s b : List ps.Fl) : boT s s b = [] := by
  unfold boT
  rw [List.filter_eq_nil_iff.2 fun t _ => by simp [ps.bo, ps.ne2]]
  rfl
theorem boT_alike (s a : List ps.Fl) : boT s a a = [] := by
  unfold boT
  rw [List.filter_eq_nil_iff.2 fun t _ => by simp [ps.bo, ps.ne2]]
  rfl
theorem boT_turned (s a b : List ps.Fl) : boT s a b = boT s b a := by
  unfold boT
  rw [show ps.bo s a b = ps.bo s b a from funext fun t => ps.bo_turned s a b t]
theorem boT_len (s a b : List ps.Fl) : (boT s a b).length ≤ 2574 := by
  unfold boT
  rw [List.length_map]
  refine Nat.le_trans (List.length_filter_le _ _) ?_
  rw [List.length_range]
  exact Nat.le_refl _
/-- Whoever is first: the cells in which the two differ are those that are told. -/
theorem df_boT {s a b : List ps.Fl} (hs : ps.Fine s) (ha : ps.Fine a) (hb : ps.Fine b) : (ps.df (ps.th s a b) (ps.th s b a) 2574).map (fun x => (x.c, x.r)) = boT s a b := by
  unfold ps.df boT
  rw [show ps.ne2 (ps.th s a b) (ps.th s b a) = ps.bo s a b from funext fun t => ps.th_turned hs.ing ha.srt ha.ing hb.srt hb.ing t, List.map_map]
  rfl
end Go.Proofs.YtomgjjngkffbbaaGreatDoor.fw
namespace Go.Proofs.YtomgjjngkffbbaaGreatDoor.fw
open Go Go.RowKit Go.Sort
theorem own_kept {w w' : World} {base t s n : Nat} {v : Value} {xs : List Value} (h : w.ownsRow base t s v n xs) (hk : ∀ b, v.ownBlock = some b → w'.heap[b]? = w.heap[b]?) : w'.ownsRow base t s v n xs := by
  obtain ⟨h0, h | ⟨g, cap, cur, h1, h2, h3, h4⟩⟩ := h
  · exact ⟨h0, Or.inl h⟩
  · exact ⟨h0, Or.inr ⟨g, cap, cur, h1, h2, by rw [hk g (by rw [h1]; rfl)]; exact h3, h4⟩⟩
theorem own_blk {w : World} {base t s n : Nat} {v : Value} {xs : List Value} (h : w.ownsRow base t s v n xs) {b : Nat} (hb : v.ownBlock = some b) : ∃ cs, w.heap[b]? = some (.cells cs t (0, 0)) := by
  obtain ⟨-, ⟨rfl, -⟩ | ⟨g, cap, cur, rfl, -, h3, -⟩⟩ := h
  · cases hb
  · obtain rfl : g = b := by simpa [Value.ownBlock] using hb
    exact ⟨_, h3⟩
/-- What lies elsewhere stays where a list gets one element more. -/
theorem RV.one2 {α β : Type} {L : EL α} {M : EL β} (ht : L.ty ≠ M.ty) {w : World} {v u : Value} {xs : List α} {ys : List β} {wx : World} (h : RV L w v xs wx) (h2 : RV M w u ys wx) (S : TypeId) {z : Value} {b : Nat} (hu : Tryz.prog.underlying S = some (.slice L.ty)) (hin : (Tryz.prog.info? L.ty).map (fun i => (i.zero, i.size, i.bytes)) = some (some z, L.k, b)) (hz : z.cells.size = L.k) (hk : 0 < L.k) (hl : (xs.length + 1) * b ≤ 140737488355328) (hm : xs.length + 1 ≤ 9223372036854775807) (y : α) (vs : Array Value) (hy : vs.toList = L.enc y) :
    ∃ g c w', (Builtin.append_ #[S, S] S #[v, .slice (some ⟨wx.heap.size, 0, none⟩) 1 1]).run Tryz.prog (wx.alloc (.cells vs L.ty)) = .ok (.slice (some ⟨g, 0, none⟩) (xs.length + 1) c) w' ∧ RV L w (.slice (some ⟨g, 0, none⟩) (xs.length + 1) c) (xs ++ [y]) w' ∧ RV M w u ys w' ∧ ∀ (q : Nat) (cs : Array Value) (t : TypeId), t ≠ L.ty → wx.heap[q]? = some (.cells cs t (0, 0)) → w'.heap[q]? = some (.cells cs t (0, 0)) := by
  obtain ⟨i0, hi, hz0, hz1, hz2⟩ := info_parts hin
  have hmax : maxLen = 9223372036854775807 := rfl
  have h1 := h.next (Bw.al wx (.cells vs L.ty))
  have h3 := h2.next (Bw.al wx (.cells vs L.ty))
  obtain ⟨g, c, w', r1, r2, r3, -, -⟩ := run_append_lies (P := Tryz.prog) (w := wx.alloc (.cells vs L.ty)) S S w.heap.size L.ty i0 z L.k b hu hi hz0 hz1 hz2 hz hk v xs.length (L.cs xs) h1.own ⟨wx.heap.size, 0, none⟩ 1 1 (L.enc y) (by rw [L.len, Nat.one_mul]) (by rw [← hy]; exact World.news_of_block (heap_alloc_new wx _)) (L.one y) (by decide) (by omega) hl h1.below.size _ rfl
  have hb : Bw w w' := h1.below.grown r3 h1.below.size (fun q hq => (h1.own.lt q hq).1)
  refine ⟨g, c, w', r1, ⟨?_, hb⟩, ⟨own_kept h3.own fun q hq => ?_, hb⟩, fun q cs t hne hq => ?_⟩
  · rw [L.cs_app, L.cs_one, List.length_append]
    exact r2
  · refine r3.block q (h3.own.lt q hq).2 fun e => ?_
    obtain ⟨c1, g1⟩ := own_blk h1.own e.symm
    obtain ⟨c2, g2⟩ := own_blk h3.own hq
    rw [g1] at g2
    injection g2 with e1
    injection e1 with e2 e3
    exact ht e3
  · have hlt : q < wx.heap.size := (Array.getElem?_eq_some_iff.1 hq).1
    rw [r3.block q (by simp; omega) fun e => ?_]
    · rw [heap_alloc_old wx _ hlt]
      exact hq
    · obtain ⟨c1, g1⟩ := own_blk h.own e.symm
      rw [hq] at g1
      injection g1 with e1
      injection e1 with e2 e3
      exact hne e3
theorem ty_fc : fL.ty ≠ cL.ty := by decide
theorem RV.fill2 {w : World} {v u : Value} {xs : List ps.Fl} {ys : List (Int × Int)} {wx : World} (h : RV fL w v xs wx) (h2 : RV cL w u ys wx) (hl : xs.length ≤ 10000) (c r : Int) (s : ByteArray) :
    ∃ g k w', (Builtin.append_ #[22, 22] 22 #[v, .slice (some ⟨wx.heap.size, 0, none⟩) 1 1]).run Tryz.prog (wx.alloc (.cells #[.int .i64 c, .int .i64 r, .string s] 45)) = .ok (.slice (some ⟨g, 0, none⟩) (xs.length + 1) k) w' ∧ RV fL w (.slice (some ⟨g, 0, none⟩) (xs.length + 1) k) (xs ++ [⟨c, r, s⟩]) w' ∧ RV cL w u ys w' ∧ ∀ (q : Nat) (cs : Array Value) (t : TypeId), t ≠ fL.ty → wx.heap[q]? = some (.cells cs t (0, 0)) → w'.heap[q]? = some (.cells cs t (0, 0)) :=
  h.one2 ty_fc h2 22 (b := 32) Tryz.underlying22 infoF rfl (by decide) (by omega) (by omega) ⟨c, r, s⟩ _ rfl
theorem RV.cell2 {w : World} {v u : Value} {xs : List ps.Fl} {ys : List (Int × Int)} {wx : World} (h : RV fL w v xs wx) (h2 : RV cL w u ys wx) (hl : ys.length ≤ 10000) (c r : Int) :
    ∃ g k w', (Builtin.append_ #[33, 33] 33 #[u, .slice (some ⟨wx.heap.size, 0, none⟩) 1 1]).run Tryz.prog (wx.alloc (.cells #[.int .i64 c, .int .i64 r] 43)) = .ok (.slice (some ⟨g, 0, none⟩) (ys.length + 1) k) w' ∧ RV fL w v xs w' ∧ RV cL w (.slice (some ⟨g, 0, none⟩) (ys.length + 1) k) (ys ++ [(c, r)]) w' := by
  obtain ⟨g, k, w', e1, e2, e3, -⟩ := h2.one2 ty_fc.symm h 33 (b := 16) Tryz.underlying33 infoC rfl (by decide) (by omega) (by omega) (c, r) _ rfl
  exact ⟨g, k, w', e1, e3, e2⟩
end Go.Proofs.YtomgjjngkffbbaaGreatDoor.fw
