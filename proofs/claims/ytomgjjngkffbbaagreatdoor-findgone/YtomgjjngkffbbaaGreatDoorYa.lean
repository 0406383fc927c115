
/- Small facts on lists of cells in memory; what a text of a cell and a sheet are told, in plain words; what the package variables hold; package graph: a text as a formula, its fault told. Conditions: as each theorem says. -/
import Derived.Test.YtomgjjngkffbbaaGreatDoorZd
import Derived.Test.YtomgjjngkffbbaaGreatDoorFz
import Derived.BigQuiet
namespace Go.Proofs.YtomgjjngkffbbaaGreatDoor.ps
open Go.RowKit
open adr (C isC ckc)
theorem eqIn30 (a b c d : Int) (m : Nat) (W : World) : (Op.equalIn (m + 2) 43 (.agg #[.int .i64 a, .int .i64 b]) (.agg #[.int .i64 c, .int .i64 d])).run Tryz.prog W = .ok (decide (a = c) && decide (b = d)) W := by
  have hS : Tryz.prog.underlying 43 = some (.struct (Tryz.prog.fieldsOf 43)) := by kernel_rfl
  have hp : Tryz.prog.stoodInHeld 43 = false := by kernel_rfl
  rw [run_equalIn_struct W (m + 1) 43 _ _ hS hp]
  simp only [Program.fieldsOf, Tryz.underlying43]
  by_cases h1 : a = c
  · by_cases h2 : b = d
    · subst h1 h2; simp [Op.eqFields, go_sem]
    · subst h1; simp [Op.eqFields, go_sem, h2]
  · simp [Op.eqFields, go_sem, h1]
theorem eql30 (a b c d : Int) (W : World) : (binOp BinOp.eql 43 (.agg #[.int .i64 a, .int .i64 b]) (.agg #[.int .i64 c, .int .i64 d])).run Tryz.prog W = .ok (.bool (decide (a = c) && decide (b = d))) W := by
  rw [run_eql_struct, show (10000 : Nat) = 9998 + 2 from rfl, eqIn30]; rfl
theorem FM.some {w : World} {p : Option Addr} {x : Fl} {l : List Fl} (h : FM w p (x :: l)) : ∃ gx ox, p = .some ⟨gx, ox, none⟩ ∧ gx < w.heap.size := by
  rcases h with h | ⟨g, o, h1, h2, -⟩
  · cases h
  · exact ⟨g, o, h1, h2⟩
theorem fm_new (W : World) (x : Fl) : FM (W.alloc (.cells #[.int .i64 x.c, .int .i64 x.r, .string x.s] 45)) (.some ⟨W.heap.size, 0, none⟩) [x] := by
  have h := heap_alloc_new W (.cells #[.int .i64 x.c, .int .i64 x.r, .string x.s] 45)
  refine .inr ⟨W.heap.size, 0, rfl, fm.lt_blk h, fun t u hu => ?_⟩
  obtain ⟨b0, b1, b2⟩ := cells3 h
  have hu' : (fl3 x)[t]? = .some u := by simpa [flF] using hu
  match t, hu' with
  | 0, e => simp at e; subst e; exact b0
  | 1, e => simp at e; subst e; exact b1
  | 2, e => simp at e; subst e; exact b2
  | t + 3, e => simp at e
theorem emp_yes {s : ByteArray} (h : s.toList.isEmpty = true) : s.size = 0 := by
  rw [toList_nil h]; rfl
theorem emp_no {s : ByteArray} (h : s.toList.isEmpty = false) : s.size ≠ 0 := fun e => by
  rw [size_nul e] at h
  have : (nul.toList.isEmpty) = true := by decide +kernel
  rw [this] at h
  cases h
theorem drewN_below (W : World) (k : Nat) : Below W.heap.size W (W.drewN k) := ⟨rfl, rfl, rfl, Nat.le_refl _, fun _ _ => rfl⟩
theorem FM.at {w : World} {p : Option Addr} {xs : List Fl} (h : FM w p xs) {i : Nat} {x : Fl} (hx : xs[i]? = .some x) : ∃ g o, p = .some ⟨g, o, none⟩ ∧ g < w.heap.size := by
  rcases h with h | ⟨g, o, h1, h2, -⟩
  · subst h; simp at hx
  · exact ⟨g, o, h1, h2⟩
theorem srt_get {xs : List Fl} (hs : Srt xs) {a b : Nat} {x y : Fl} (hx : xs[a]? = some x) (hy : xs[b]? = some y) (h : a < b) : lt x y.c y.r = true := by
  obtain ⟨h1, rfl⟩ := List.getElem?_eq_some_iff.1 hx
  obtain ⟨h2, rfl⟩ := List.getElem?_eq_some_iff.1 hy
  exact List.pairwise_iff_getElem.1 hs a b h1 h2 h
theorem FB.full {w : World} {v : Value} {xs : List Fl} (h : FB w v xs) : ∃ p c, v = .slice p xs.length c ∧ FM w p xs ∧ xs.length ≤ c ∧ (p = none → c = 0) := by
  obtain ⟨p, c, rfl, hm⟩ := h.shape
  refine ⟨p, c, rfl, hm, ?_⟩
  rcases h.2 with ⟨e, h0⟩ | ⟨g, cap, cur, e, -, hg, hc, -⟩
  · injection e with e1 e2 e3
    subst e3
    exact ⟨by omega, fun _ => rfl⟩
  · injection e with e1 e2 e3
    subst e3
    exact ⟨hc, fun h => by rw [h] at e1; cases e1⟩
theorem froz {W : World} {b : Nat} {cs : Array Value} {t : TypeId} (h : W.heap[b]? = some (.cells cs t (0, 0))) (o : Nat) : W.frozen? ⟨b, o, none⟩ = false := by simp [World.frozen?, h]
/-- What the package variables hold. -/
structure EnvP (w : World) : Prop where
  size : 10 < w.heap.size
  tab : Lib.TabIs Tryz.prog w "internal/strconv.uint64pow10" .u64 Lib.pow10Tab
  syn : ∃ (tp : TypeId) (p : Value), w.var? Tryz.prog "strconv.ErrSyntax" = some #[.iface tp p]
  ran : ∃ (tp : TypeId) (p : Value), w.var? Tryz.prog "strconv.ErrRange" = some #[.iface tp p]
  bads : w.var? Tryz.prog "sccsettle/value.badTexts" = some #[.string bt0, .string bt1, .string bt2, .string bt3, .string bt4, .string bt5]
  ops : w.var? Tryz.prog "sccsettle/formula.operators" = some fm.opTab
theorem EnvP.below {w w' : World} {B : Nat} (h : EnvP w) (hb : Below B w w') (hB : 10 < B) : EnvP w' :=
  ⟨Nat.lt_of_lt_of_le h.size hb.size, var?_below hb gPow (by omega) h.tab,
    h.syn.elim fun tp e => e.elim fun p e => ⟨tp, p, var?_below hb gSyn (by omega) e⟩,
    h.ran.elim fun tp e => e.elim fun p e => ⟨tp, p, var?_below hb gRan (by omega) e⟩,
    var?_below hb gBad (by omega) h.bads, var?_below hb fm.gOps (by omega) h.ops⟩
theorem EnvP.full {w : World} (h : EnvP w) (hz : 10 < w.heap.size) : fm.EnvF w := ⟨⟨hz, h.tab, h.syn, h.ran, h.bads⟩, h.ops⟩
/-- It begins with the sign of a formula. -/
def eqS (s : ByteArray) : Bool := (s.extract 0 1).toList == [61]
set_option maxHeartbeats 1600000 in
theorem slite_any (s : ByteArray) (w : World) (hs : 1 ≤ s.size) (hz : s.size ≤ 200) : Calls Tryz.prog 129 #[.string s, .string ⟨#[61]⟩] w fun e w' => e = .returned (.bool (eqS s)) ∧ w' = w := by
  have h1 : (1 : Int) ≤ (s.size : Int) := by omega
  have h2 : (s.size : Int) ≤ 200 := by omega
  obtain ⟨b, hb⟩ : ∃ b, eqS s = b := ⟨_, rfl⟩
  have hb' : ((s.extract 0 1).toList == [61]) = b := hb
  rw [hb]
  clear hb
  go_enter Tryz.func129, Tryz.ntmps129
  go_wp2_with fail
  go_ret
  exact ⟨rfl, rfl⟩
set_option maxHeartbeats 1600000 in
theorem prefix_any (s : ByteArray) (w : World) (hs : 1 ≤ s.size) (hz : s.size ≤ 200) : Calls Tryz.prog 111 #[.string s, .string ⟨#[61]⟩] w fun e w' => e = .returned (.bool (eqS s)) ∧ w' = w := by
  have H : Hid (Calls Tryz.prog 129 #[.string s, .string ⟨#[61]⟩] w fun e w' => e = .returned (.bool (eqS s)) ∧ w' = w) := slite_any s w hs hz
  go_enter Tryz.func111, Tryz.ntmps111
  go_wp2_with fail
  refine H.out.mono ?_
  rintro e w1 ⟨rfl, rfl⟩
  go_wp2_with fail
  go_ret
  exact ⟨rfl, rfl⟩
set_option maxHeartbeats 1600000 in
theorem constant_any (s : ByteArray) (w : World) (hs : 1 ≤ s.size) (hz : s.size ≤ 200) : Calls Tryz.prog 83 #[.string s] w fun e w' => e = .returned (.bool (!eqS s)) ∧ w' = w := by
  have H : Hid (Calls Tryz.prog 111 #[.string s, .string ⟨#[61]⟩] w fun e w' => e = .returned (.bool (eqS s)) ∧ w' = w) := prefix_any s w hs hz
  go_enter Tryz.func83, Tryz.ntmps83
  go_wp2_with fail
  refine H.out.mono ?_
  rintro e w1 ⟨rfl, rfl⟩
  go_wp2_with fail
  go_ret
  exact ⟨rfl, rfl⟩
theorem lt_trans {x y : Fl} {c r : Int} (h1 : lt x y.c y.r = true) (h2 : lt y c r = true) : lt x c r = true := by
  rw [lt_iff] at *
  omega
theorem srt_snoc {l : List Fl} {x : Fl} (hs : Srt l) (h : ∀ y, l.getLast? = some y → lt y x.c x.r = true) : Srt (l ++ [x]) := by
  refine List.pairwise_append.2 ⟨hs, by simp, fun a ha b hb => ?_⟩
  have e : b = x := by simpa using hb
  subst e
  obtain ⟨i, hi⟩ := List.getElem?_of_mem ha
  have hl : l.length ≠ 0 := fun e => by rw [List.length_eq_zero_iff.1 e] at ha; cases ha
  have hlast : l.getLast? = l[l.length - 1]? := by rw [List.getLast?_eq_getElem?]
  obtain ⟨y, hy⟩ : ∃ y, l[l.length - 1]? = some y := ⟨_, List.getElem?_eq_getElem (by omega)⟩
  have hy' := h y (by rw [hlast, hy])
  have hlt := (List.getElem?_eq_some_iff.1 hi).1
  by_cases e : i = l.length - 1
  · subst e
    rw [hi] at hy
    injection hy with hy
    subst hy
    exact hy'
  · exact lt_trans (srt_get hs hi hy (by omega)) hy'
theorem srt_take {xs : List Fl} {i : Nat} {x : Fl} (hs : Srt (xs.take i)) (hx : xs[i]? = some x) (h : ∀ y, 0 < i → xs[i - 1]? = some y → lt y x.c x.r = true) : Srt (xs.take (i + 1)) := by
  have hlt := (List.getElem?_eq_some_iff.1 hx).1
  rw [List.take_add_one, hx]
  refine srt_snoc hs (fun y hy => ?_)
  rw [List.getLast?_eq_getElem?, List.length_take, Nat.min_eq_left (by omega)] at hy
  by_cases e : i = 0
  · subst e; simp at hy
  · exact h y (by omega) (by rw [List.getElem?_take] at hy; rw [if_pos (by omega)] at hy; exact hy)
def zr12 (n : Nat) : Array Value := madeCells fm.NZ (n * 12)
theorem zr12_size (n : Nat) : (zr12 n).size = n * 12 := by
  unfold zr12
  simp [madeCells]
theorem info65 : (Tryz.prog.info? 77).map (fun i => (i.zero, i.size, i.bytes)) = some (some (.agg fm.NZ), 12, 104) := by kernel_rfl
theorem make65 (n : Nat) (hn : n ≤ 100000) (w : World) : (Instr.makeSlice 75 (.int .i64 (n : Int)) (.int .i64 (n : Int))).run Tryz.prog w = .ok (.slice (some ⟨w.heap.size, 0, none⟩) n n) (w.alloc (.cells (zr12 n) 77)) := by
  obtain ⟨i0, hi, hz0, hz1, hz2⟩ := info_parts info65
  have := run_make (P := Tryz.prog) w 75 77 i0 _ Tryz.underlying75 hi hz0 .i64 .i64 (n : Int) (n : Int) (by omega) (by omega) (by rw [hz2]; omega) (by omega)
  rw [this, hz1]
  simp [zr12, Value.cells]
/-- The nodes' block of the walk, whatever is in it. -/
def LW (w : World) (n : Nat) (wr : World) : Prop := Below w.heap.size w wr ∧ ∃ cs, wr.heap[w.heap.size]? = some (.cells cs 77 (0, 0)) ∧ cs.size = n * 12
theorem LW.next {w : World} {n : Nat} {wr wx : World} (h : LW w n wr) (hb : Below wr.heap.size wr wx) : LW w n wx := by
  obtain ⟨h1, cs, h2, h3⟩ := h
  exact ⟨bnext h1 hb h1.size, cs, (hb.block _ (fm.lt_blk h2)).trans h2, h3⟩
theorem LW.set {w : World} {n : Nat} {wr : World} (h : LW w n wr) (o : Nat) (u : Value) : LW w n (wr.setCell ⟨w.heap.size, o, none⟩ u) := by
  obtain ⟨h1, cs, h2, h3⟩ := h
  exact ⟨h1.setCell (Nat.le_refl _) _, _, fm.blk_set h2, by simp [h3]⟩
theorem LW.at {w : World} {n : Nat} {wr : World} (h : LW w n wr) {i j : Nat} (hi : i < n) (hj : j < 12) : (∃ u, wr.cell? ⟨w.heap.size, i * 12 + j, none⟩ = some u) ∧ wr.frozen? ⟨w.heap.size, i * 12 + j, none⟩ = false := by
  obtain ⟨h1, cs, h2, h3⟩ := h
  refine ⟨⟨cs[i * 12 + j]'(by omega), ?_⟩, froz h2 _⟩
  rw [fm.cell_blk h2]
  exact Array.getElem?_eq_getElem _
theorem LW.make (w : World) (n : Nat) : LW w n (w.alloc (.cells (zr12 n) 77)) := ⟨(Below.refl _ _).alloc (Nat.le_refl _) _, _, heap_alloc_new _ _, zr12_size n⟩
theorem LW.ahead {w : World} {n : Nat} {wr : World} (h : LW w n wr) : Below w.heap.size w wr := h.1
/-- Is a text that begins with the sign no formula? -/
def isE : fm.Rs fm.T → Bool
  | .ok _ _ => false
  | .err _ _ => true
def isBadF (s : ByteArray) : Bool := isE (fm.parse fm.lexP s)
/-- The fault of a text of a cell; 0, if it has none. -/
def ckT (s : ByteArray) : Int := if s.size = 0 then 3 else if 200 < s.size then 4 else if eqS s = true then (if isBadF s = true then 2 else 0) else 0
theorem ckT_emp {s : ByteArray} (h : s.size = 0) : ckT s = 3 := if_pos h
theorem ckT_long {s : ByteArray} (h : 200 < s.size) : ckT s = 4 := by unfold ckT; rw [if_neg (by omega), if_pos h]
theorem ckT_const {s : ByteArray} (h : s.size ≠ 0) (h2 : s.size ≤ 200) (h3 : eqS s = false) : ckT s = 0 := by unfold ckT; rw [if_neg h, if_neg (by omega), if_neg (by simp [h3])]
theorem ckT_good {s : ByteArray} (h : s.size ≠ 0) (h2 : s.size ≤ 200) (h3 : eqS s = true) (h4 : isBadF s = false) : ckT s = 0 := by unfold ckT; rw [if_neg h, if_neg (by omega), if_pos h3, if_neg (by simp [h4])]
theorem ckT_bad {s : ByteArray} (h : s.size ≠ 0) (h2 : s.size ≤ 200) (h3 : eqS s = true) (h4 : isBadF s = true) : ckT s = 2 := by unfold ckT; rw [if_neg h, if_neg (by omega), if_pos h3, if_pos h4]
theorem ckT_zero {s : ByteArray} (h : ckT s = 0) : s.size ≠ 0 ∧ s.size ≤ 200 := by
  unfold ckT at h
  split at h
  · cases h
  · split at h
    · cases h
    · exact ⟨by assumption, by omega⟩
/-- An error by its number. -/
def errV (e : Int) : Value := if e = 0 then .nilIface else .iface 67 (.int .i64 e)
theorem errV_zero : errV 0 = .nilIface := rfl
theorem errV_some {e : Int} (h : e ≠ 0) : errV e = .iface 67 (.int .i64 e) := if_neg h
set_option maxRecDepth 100000 in
set_option maxHeartbeats 8000000 in
theorem formulaOf_any (s : ByteArray) (w : World) (hE : EnvP w) (hz : 9 < w.heap.size) :
    Calls Tryz.prog 62 #[.string s] w fun e w' => (∃ k n z r t kd m c v, e = .returned (.tuple #[fm.NV k n z r t (.slice kd m c), v]) ∧ v = errV (ckT s)) ∧ Below w.heap.size w w' := by
  have HE : Hid (EnvP w ∧ 9 < w.heap.size) := ⟨hE, hz⟩
  clear hE hz
  go_enter Tryz.func62, Tryz.ntmps62
  cases h0 : s.toList.isEmpty with
  | true =>
    have HE0 : Hid (s.size = 0) := emp_yes h0
    go_wp2_with fail
    exact bodyPost_ret (v := .tuple #[fm.NV 0 0 nul .z .z (.slice none 0 0), .iface 67 (.int .i64 3)]) (by simp [results, Tryz.results62, go_sem]) rfl ⟨⟨_, _, _, _, _, _, _, _, _, rfl, by rw [ckT_emp HE0.out]; rfl⟩, (Below.refl _ _).alloc (Nat.le_refl _) _⟩
  | false =>
    have HE0 : Hid (s.size ≠ 0) := emp_no h0
    by_cases h2 : s.size ≤ 200
    · have hl : ¬ (200 : Int) < (s.size : Int) := by omega
      have HC : Hid (∀ wx, Calls Tryz.prog 83 #[.string s] wx fun e w' => e = .returned (.bool (!eqS s)) ∧ w' = wx) := fun wx => constant_any s wx (by have := HE0.out; omega) h2
      go_wp2_with fail
      refine (HC.out _).mono ?_
      rintro e w1 ⟨rfl, rfl⟩
      cases hq : eqS s with
      | false =>
        go_wp2_with fail
        exact bodyPost_ret (v := .tuple #[fm.NV 0 0 nul .z .z (.slice none 0 0), .nilIface]) (by simp [results, Tryz.results62, go_sem]) rfl ⟨⟨_, _, _, _, _, _, _, _, _, rfl, by rw [ckT_const HE0.out h2 hq]; rfl⟩, (Below.refl _ _).alloc (Nat.le_refl _) _⟩
      | true =>
        have HQ : Hid (eqS s = true) := hq
        have hb0 : Below w.heap.size w (w.alloc (.cells fm.NZ 77)) := (Below.refl _ _).alloc (Nat.le_refl _) _
        have hr0 := heap_alloc_new w (.cells fm.NZ 77)
        obtain ⟨RR, hRR⟩ : ∃ RR, fm.parse fm.lexP s = RR := ⟨_, rfl⟩
        have HPa : Hid (Calls Tryz.prog 84 #[.string s] (w.alloc (.cells fm.NZ 77)) (fm.OutP (w.alloc (.cells fm.NZ 77)) RR)) := fm.parse_any s _ ((HE.out.1.below hb0 HE.out.1.size).full (by have := HE.out.2; simp; omega)) (by omega) RR hRR
        have HRR : Hid (isBadF s = isE RR) := by unfold Hid isBadF; rw [hRR]
        clear hRR
        go_wp2_with fail
        refine HPa.out.mono ?_
        intro e w1 hO
        cases RR with
        | ok t k =>
          obtain ⟨v, rfl, hN, hb⟩ := hO
          have hr1 := (hb.block _ (fm.lt_blk hr0)).trans hr0
          have hlt := fm.lt_blk hr1
          have HB1 : Hid (Below w.heap.size w w1 ∧ w1.heap[w.heap.size]? = some (.cells fm.NZ 77 (0, 0))) := ⟨bnext hb0 hb hb0.size, hr1⟩
          cases hN with
          | @mk a1 n1 s1 r1 t1 p1 m1 e1 us ts hk hl' hs' =>
          clear hk hl' hs' hb hb0 hr0
          obtain ⟨⟨b0, b1, b2, b3, b4, b5, b6, b7, b8, b9, b10, b11⟩, bf⟩ := fm.cells12 hr1
          clear hr1
          go_wp2_with fail
          refine fm.fin12 HB1.out.2 (Q := fun W => bodyPost _ _ _ _ _ (W.alloc _)) ?_
          intro w2 hr2 hk2
          have hq := fun O => (fm.cells12 ((Below.heap_alloc w2 O _ (fm.lt_blk hr2)).trans hr2)).1
          have hB2 : Below w.heap.size w w2 := HB1.out.1.trans (hk2.toBelow (B := w.heap.size) HB1.out.1.size (fun n hn e => by omega))
          exact bodyPost_ret (v := .tuple #[fm.NV a1 n1 s1 r1 t1 (.slice p1 m1 e1), .nilIface]) (by simp [results, Tryz.results62, go_sem, hq]) rfl ⟨⟨_, _, _, _, _, _, _, _, _, rfl, by rw [ckT_good HE0.out h2 HQ.out HRR.out]; rfl⟩, hB2.alloc hB2.size _⟩
        | err k c =>
          obtain ⟨rfl, hb⟩ := hO
          have hr1 := (hb.block _ (fm.lt_blk hr0)).trans hr0
          have hlt := fm.lt_blk hr1
          have HB1 : Hid (Below w.heap.size w w1 ∧ w1.heap[w.heap.size]? = some (.cells fm.NZ 77 (0, 0))) := ⟨bnext hb0 hb hb0.size, hr1⟩
          clear hb hb0 hr0
          obtain ⟨⟨b0, b1, b2, b3, b4, b5, b6, b7, b8, b9, b10, b11⟩, bf⟩ := fm.cells12 hr1
          clear hr1
          go_wp2_with fail
          refine fm.fin12 HB1.out.2 (Q := fun W => bodyPost _ _ _ _ _ (W.alloc _)) ?_
          intro w2 hr2 hk2
          have hq := fun O => (fm.cells12 ((Below.heap_alloc w2 O _ (fm.lt_blk hr2)).trans hr2)).1
          have hB2 : Below w.heap.size w w2 := HB1.out.1.trans (hk2.toBelow (B := w.heap.size) HB1.out.1.size (fun n hn e => by omega))
          exact bodyPost_ret (v := .tuple #[fm.NV 0 0 nul .z .z (.slice none 0 0), .iface 67 (.int .i64 2)]) (by simp [results, Tryz.results62, go_sem, hq]) rfl ⟨⟨_, _, _, _, _, _, _, _, _, rfl, by rw [ckT_bad HE0.out h2 HQ.out HRR.out]; rfl⟩, hB2.alloc hB2.size _⟩
    · have hl : (200 : Int) < (s.size : Int) := by omega
      go_wp2_with fail
      exact bodyPost_ret (v := .tuple #[fm.NV 0 0 nul .z .z (.slice none 0 0), .iface 67 (.int .i64 4)]) (by simp [results, Tryz.results62, go_sem]) rfl ⟨⟨_, _, _, _, _, _, _, _, _, rfl, by rw [ckT_long (by omega)]; rfl⟩, (Below.refl _ _).alloc (Nat.le_refl _) _⟩
end Go.Proofs.YtomgjjngkffbbaaGreatDoor.ps
