
/- slices.SortFunc at a list of values; package pick: eachOnce. Conditions: as each theorem says. -/
import Derived.Test.YtbiikodnfaeceaaGreatDoorHa
import Derived.Test.YtbiikodnfaeceaaGreatDoorOq
import Derived.Lib.SliceRun
import Derived.Deep.CutBlock
import Derived.Shelf.SlSortCmp.WholeK
import Derived.Shelf.SlSortCmp.NoneTotal
import Derived.Test.YtbiikodnfaeceaaGreatDoorProg
import Derived.Test.YtbiikodnfaeceaaGreatDoorKm
import Derived.OneCell
import Derived.Test.YtbiikodnfaeceaaGreatDoorKh

/- slices.Compact at a list of values: of those that are the same, side by side, the first is left. Conditions: as each theorem says. -/
namespace Go.Proofs.YtbiikodnfaeceaaGreatDoor.so
open Go.RowKit Go.Sort Go.Shelf
theorem blkS {w : World} {b o : Nat} {cs : Array Value} {t : TypeId} {fr : Nat × Nat} {u : Value} (h : w.heap[b]? = some (.cells cs t fr)) : (w.setCell ⟨b, o, none⟩ u).heap[b]? = some (.cells (cs.setIfInBounds o u) t fr) := by
  show (w.heap.modify b _)[b]? = _
  rw [Array.getElem?_modify, if_pos rfl, h]
  rfl
theorem cellB {w : World} {g t : Nat} {cur : Array Value} {ty : TypeId} {fr : Nat × Nat} (h : w.heap[g]? = some (.cells cur ty fr)) : w.cell? ⟨g, t, none⟩ = cur[t]? := by simp only [World.cell?, h]; rfl
theorem valsv_at {l : List Vl} {i j : Nat} {x : Vl} {u : Value} (h : l[i]? = some x) (hj : (v3 x)[j]? = some u) : (vals l)[i * 3 + j]? = some u := by
  obtain ⟨a, b, c⟩ := vals_at h
  have h3 : j < 3 := (List.getElem?_eq_some_iff.1 hj).1
  match j, h3, hj with
  | 0, _, hj => rw [Nat.add_zero, a]; exact hj
  | 1, _, hj => rw [b]; exact hj
  | 2, _, hj => rw [c]; exact hj
theorem eqInW (k n : Int) (s : ByteArray) (k' n' : Int) (s' : ByteArray) (W : World) : (binOp BinOp.eql 36 (V k n s) (V k' n' s')).run Tryz.prog W = .ok (.bool (k == k' && n == n' && s.toList == s'.toList)) W := by
  rw [run_eql_struct, eqInV]; rfl
/-- Is it the first of its cell? -/
def keepB (l : List Vl) (j : Nat) : Bool := match j with
  | 0 => true
  | i + 1 => match l[i]?, l[i + 1]? with
    | some x, some y => !vlEq y x
    | _, _ => false
/-- What is left of the first ones. -/
def cmN (l : List Vl) : Nat → List Vl
  | 0 => []
  | j + 1 => cmN l j ++ (if keepB l j = true then (l[j]?).toList else [])
theorem cmN_len (l : List Vl) (j : Nat) : (cmN l j).length ≤ j := by
  induction j with
  | zero => simp [cmN]
  | succ j ih =>
    unfold cmN
    rw [List.length_append]
    split
    · cases l[j]? <;> simp <;> omega
    · simp; omega
theorem cmN_yes {l : List Vl} {j : Nat} {x : Vl} (h : keepB l j = true) (hx : l[j]? = some x) : cmN l (j + 1) = cmN l j ++ [x] := by
  show _ ++ _ = _
  rw [if_pos h, hx]
  rfl
theorem cmN_no {l : List Vl} {j : Nat} (h : keepB l j = false) : cmN l (j + 1) = cmN l j := by
  show _ ++ _ = _
  rw [if_neg (by simp [h]), List.append_nil]
theorem cmN_all {l : List Vl} {j : Nat} (hj : j ≤ l.length) (h : ∀ i, i < j → keepB l i = true) : cmN l j = l.take j := by
  induction j with
  | zero => rfl
  | succ j ih =>
    rw [cmN_yes (h j (by omega)) (List.getElem?_eq_getElem (by omega)), ih (by omega) (fun i hi => h i (by omega)), List.take_add_one, List.getElem?_eq_getElem (by omega)]
    rfl
theorem keep_at {l : List Vl} {i : Nat} {x y : Vl} (hx : l[i]? = some x) (hy : l[i + 1]? = some y) : keepB l (i + 1) = !vlEq y x := by
  unfold keepB
  simp only [hx, hy]
theorem vals_inv2 {xs : List Vl} {t : Nat} {u : Value} (h : (vals xs)[t]? = some u) : ∃ i j x, t = i * 3 + j ∧ j < 3 ∧ xs[i]? = some x ∧ (v3 x)[j]? = some u := by
  have hl := (List.getElem?_eq_some_iff.1 h).1
  rw [vals_len] at hl
  have hi : t / 3 < xs.length := by omega
  have hx : xs[t / 3]? = some (xs[t / 3]) := List.getElem?_eq_getElem hi
  have hj : t % 3 < 3 := Nat.mod_lt _ (by decide)
  have e : t = t / 3 * 3 + t % 3 := by omega
  obtain ⟨v, hv⟩ : ∃ v, (v3 (xs[t / 3]))[t % 3]? = some v := ⟨_, List.getElem?_eq_getElem (show t % 3 < (v3 (xs[t / 3])).length from hj)⟩
  have := valsv_at hx hv
  rw [← e, h] at this
  injection this with this
  subst this
  exact ⟨t / 3, t % 3, _, e, hj, hx, hv⟩
/-- A list at the head of a block of its own. -/
structure OB (base : Nat) (w : World) (g cap : Nat) (M : List Vl) : Prop where
  cells : ∀ (t : Nat) u, (vals M)[t]? = some u → w.cell? ⟨g, t, none⟩ = some u
  blk : ∃ cur : Array Value, w.heap[g]? = some (.cells cur 36 (0, 0)) ∧ cur.size = cap * 3
  le : M.length ≤ cap
  max : cap ≤ maxLen
  ge : base ≤ g
theorem OB.of {base : Nat} {w : World} {g n cap : Nat} {M : List Vl} (h : w.ownsRow base 36 3 (.slice (some ⟨g, 0, none⟩) n cap) n (vals M)) (hn : M.length = n) : OB base w g cap M := by
  rcases h.2 with ⟨e, _⟩ | ⟨g', cap', cur, e, hb, hg, hc, hm, hz, ht⟩
  · cases e
  · injection e with e1 _ e3'
    injection e1 with e1
    injection e1 with e1
    subst e1 e3'
    refine ⟨fun t u hu => ?_, ⟨cur, hg, hz⟩, by omega, hm, hb⟩
    rw [← ht, List.getElem?_take] at hu
    split at hu
    · simp [World.cell?, hg]; simpa using hu
    · cases hu
theorem OB.own {base : Nat} {w : World} {g cap : Nat} {M : List Vl} (h : OB base w g cap M) : w.ownsRow base 36 3 (.slice (some ⟨g, 0, none⟩) M.length cap) M.length (vals M) := by
  obtain ⟨cur, hg, hz⟩ := h.blk
  refine ⟨vals_len M, .inr ⟨g, cap, cur, rfl, h.ge, hg, h.le, h.max, hz, ?_⟩⟩
  apply List.ext_getElem?
  intro t
  rw [List.getElem?_take]
  by_cases ht : t < M.length * 3
  · rw [if_pos ht]
    obtain ⟨u, hu⟩ : ∃ u, (vals M)[t]? = some u := ⟨_, List.getElem?_eq_getElem (by rw [vals_len]; exact ht)⟩
    have := h.cells t u hu
    rw [cellB hg] at this
    rw [hu, Array.getElem?_toList]
    exact this
  · rw [if_neg ht, List.getElem?_eq_none (by rw [vals_len]; omega)]
theorem OB.next {base : Nat} {w w' : World} {g cap : Nat} {M : List Vl} (h : OB base w g cap M) (hb : Below w.heap.size w w') : OB base w' g cap M := by
  obtain ⟨cur, hg, hz⟩ := h.blk
  exact ⟨fun t u hu => by rw [hb.cell (p := ⟨g, _, none⟩) (lt_of_blk hg)]; exact h.cells t u hu, ⟨cur, (hb.block g (lt_of_blk hg)).trans hg, hz⟩, h.le, h.max, h.ge⟩
theorem OB.at {base : Nat} {w : World} {g cap : Nat} {M : List Vl} (h : OB base w g cap M) {i : Nat} {x : Vl} (hx : M[i]? = some x) : w.cell? ⟨g, i * 3, none⟩ = some (.int .i64 x.k) ∧ w.cell? ⟨g, i * 3 + 1, none⟩ = some (.int .i64 x.n) ∧ w.cell? ⟨g, i * 3 + 2, none⟩ = some (.string x.s) := by
  obtain ⟨a, b, c⟩ := vals_at hx
  exact ⟨h.cells _ _ a, h.cells _ _ b, h.cells _ _ c⟩
theorem OB.cut {base : Nat} {w : World} {g cap : Nat} {M : List Vl} (h : OB base w g cap M) (i : Nat) : OB base w g cap (M.take i) := by
  refine ⟨fun t u hu => h.cells t u ?_, h.blk, by rw [List.length_take]; have := h.le; omega, h.max, h.ge⟩
  have e : vals M = vals (M.take i) ++ vals (M.drop i) := by rw [← vals_app, List.take_append_drop]
  rw [e, List.getElem?_append_left (List.getElem?_eq_some_iff.1 hu).1]
  exact hu
theorem OB.set {base : Nat} {w : World} {g cap : Nat} {M : List Vl} (h : OB base w g cap M) {i : Nat} (hi : i < M.length) (y : Vl) : OB base (((w.setCell ⟨g, i * 3, none⟩ (.int .i64 y.k)).setCell ⟨g, i * 3 + 1, none⟩ (.int .i64 y.n)).setCell ⟨g, i * 3 + 2, none⟩ (.string y.s)) g cap (M.set i y) := by
  obtain ⟨cur, hg, hz⟩ := h.blk
  have b1 := blkS (o := i * 3) (u := .int .i64 y.k) hg
  have b2 := blkS (o := i * 3 + 1) (u := .int .i64 y.n) b1
  have b3 := blkS (o := i * 3 + 2) (u := .string y.s) b2
  refine ⟨fun t u hu => ?_, ⟨_, b3, by simp [hz]⟩, by rw [List.length_set]; exact h.le, h.max, h.ge⟩
  have hic : i * 3 + 2 < cur.size := by rw [hz]; have := h.le; omega
  rw [cellB b3]
  obtain ⟨q, j, x, rfl, hj, hx, hu'⟩ := vals_inv2 hu
  by_cases e : q = i
  · subst e
    have ex : x = y := by
      rw [List.getElem?_set_self hi] at hx
      injection hx with hx
      exact hx.symm
    subst ex
    match j, hj, hu' with
    | 0, _, hu' => obtain rfl := Option.some.inj (show some (Value.int .i64 x.k) = some u from hu'); simp [Array.getElem?_setIfInBounds]; omega
    | 1, _, hu' => obtain rfl := Option.some.inj (show some (Value.int .i64 x.n) = some u from hu'); simp [Array.getElem?_setIfInBounds]; omega
    | 2, _, hu' => obtain rfl := Option.some.inj (show some (Value.string x.s) = some u from hu'); simp [Array.getElem?_setIfInBounds]; omega
  · rw [List.getElem?_set_ne (fun e' => e e'.symm)] at hx
    have h1 := h.cells _ u (valsv_at hx hu')
    rw [cellB hg] at h1
    rw [Array.getElem?_setIfInBounds_ne (by omega), Array.getElem?_setIfInBounds_ne (by omega), Array.getElem?_setIfInBounds_ne (by omega)]
    exact h1
def zs3 (n : Nat) : List Value := (Builtin.zeroCells #[.int .i64 0, .int .i64 0, .string nul] n).toList
theorem zs3_len (n : Nat) : (zs3 n).length = n * 3 := by unfold zs3; simp [size_zeroCells]
theorem zs3_one (n : Nat) : ∀ v ∈ zs3 n, v.oneCell' = true := by
  intro v hv
  unfold zs3 Builtin.zeroCells at hv
  simp at hv
  obtain ⟨i, -, rfl⟩ := hv
  have h3 : i % 3 < 3 := Nat.mod_lt _ (by decide)
  generalize i % 3 = j at h3 ⊢
  match j, h3 with
  | 0, _ => rfl
  | 1, _ => rfl
  | 2, _ => rfl
theorem run_clear3 (w : World) (ty : TypeId) (b o n c : Nat) (hn : 0 < n) (hc : ∀ j, j < n * 3 → (w.cell? ⟨b, o + j, none⟩).isSome = true) (hf : ∀ j, j < n * 3 → w.frozen? ⟨b, o + j, none⟩ = false) :
    (Builtin.clear_ #[34] ty #[.slice (some ⟨b, o, none⟩) n c]).run Tryz.prog w = .ok (.tuple #[]) (w.setCells b o (zs3 n)) := by
  have hst := run_storeCells_cells (P := Tryz.prog) b o (zs3 n) 0 w (by rw [zs3_len]; simpa using hc) (by rw [zs3_len]; simpa using hf) (zs3_one n)
  simp only [Nat.add_zero] at hst
  obtain ⟨m, rfl⟩ : ∃ m, n = m + 1 := ⟨n - 1, by omega⟩
  have hz : ∀ w, (zeroValue 36).run Tryz.prog w = .ok (.agg #[.int .i64 0, .int .i64 0, .string nul]) w := Tryz.zeroValue36
  have e : (Builtin.zeroCells (Value.agg #[.int .i64 0, .int .i64 0, .string nul]).cells (m + 1)).toList = zs3 (m + 1) := rfl
  simp [Builtin.clear_, run_underlying Tryz.underlying34, hz, e, hst]
theorem blk_setCells {g : Nat} {t : TypeId} {fr : Nat × Nat} : ∀ (Z : List Value) (o : Nat) (w : World) (cur : Array Value), w.heap[g]? = some (.cells cur t fr) → ∃ cur' : Array Value, (w.setCells g o Z).heap[g]? = some (.cells cur' t fr) ∧ cur'.size = cur.size
  | [], _, _, cur, h => ⟨cur, h, rfl⟩
  | v :: r, o, w, cur, h => by
    obtain ⟨cur', h1, h2⟩ := blk_setCells r (o + 1) (w.setCell ⟨g, o, none⟩ v) _ (blkS h)
    exact ⟨cur', h1, by rw [h2]; simp⟩
theorem below_setCells {base g : Nat} (hg : base ≤ g) : ∀ (Z : List Value) (o : Nat) (w0 w : World), Below base w0 w → Below base w0 (w.setCells g o Z)
  | [], _, _, _, h => h
  | v :: r, o, w0, _, h => below_setCells hg r (o + 1) w0 _ (h.setCell hg v)
theorem OB.clear {base : Nat} {w : World} {g cap : Nat} {M : List Vl} (h : OB base w g cap M) {i : Nat} (hi : i ≤ M.length) (Z : List Value) : OB base (w.setCells g (i * 3) Z) g cap (M.take i) := by
  obtain ⟨cur, hg, hz⟩ := h.blk
  obtain ⟨cur', hg', hz'⟩ := blk_setCells Z (i * 3) w cur hg
  have hcut := h.cut i
  refine ⟨fun t u hu => ?_, ⟨cur', hg', by rw [hz', hz]⟩, hcut.le, h.max, h.ge⟩
  have ht := (List.getElem?_eq_some_iff.1 hu).1
  rw [vals_len, List.length_take] at ht
  rw [World.cell?_setCells_out g _ _ _ _ (fun _ _ => .inl (by show t < i * 3; omega))]
  exact hcut.cells t u hu
/-- What Compact answers. -/
def CmO (base : Nat) (w : World) (v : Value) (l : List Vl) (w' : World) : Prop := w'.ownsRow base 36 3 v (cmN l l.length).length (vals (cmN l l.length)) ∧ Below base w w'
set_option maxRecDepth 100000 in
set_option maxHeartbeats 4000000 in
theorem compact_any (v : Value) (l : List Vl) (base : Nat) (w : World) (hown : w.ownsRow base 36 3 v l.length (vals l)) (hbase : base ≤ w.heap.size) (hl : l.length ≤ 4398046511104) :
    Calls Tryz.prog 42 #[v] w fun e w' => ∃ u, e = .returned u ∧ CmO base w u l w' := by
  by_cases h2 : l.length < 2
  · have e : cmN l l.length = l := by
      rw [cmN_all (Nat.le_refl _) (fun i hi => by rw [show i = 0 by omega]; rfl), List.take_length]
    have HC : Hid (CmO base w v l w) := ⟨by rw [e]; exact hown, Below.refl _ _⟩
    obtain ⟨p, c, rfl⟩ : ∃ p c, v = .slice p l.length c := by
      rcases hown.2 with ⟨rfl, h0⟩ | ⟨g, cap, cur, rfl, -⟩
      · exact ⟨none, 0, by rw [h0]⟩
      · exact ⟨_, _, rfl⟩
    have hi : (l.length : Int) < 2 := by omega
    generalize l.length = n at *
    clear hown e
    go_enter Tryz.func42, Tryz.ntmps42
    go_wp2_with fail
    go_ret
    exact ⟨_, rfl, HC.out⟩
  · obtain ⟨g, cap, rfl⟩ : ∃ g cap, v = .slice (some ⟨g, 0, none⟩) l.length cap := by
      rcases hown.2 with ⟨-, h0⟩ | ⟨g, cap, cur, rfl, -⟩
      · omega
      · exact ⟨g, cap, rfl⟩
    have O0 : Hid (OB base w g cap l) := OB.of hown rfl
    obtain ⟨n, hn⟩ : ∃ n, l.length = n := ⟨_, rfl⟩
    have HN : Hid (l.length = n) := hn
    have mixed := mixed
    have tM := tM
    have hn2 : ¬ (n : Int) < 2 := by omega
    have hn3 : (n : Int) ≤ 4398046511104 := by omega
    have hn1 : 1 ≤ n := by omega
    have hnc : n ≤ cap := by have := O0.out.le; omega
    rw [hn]
    clear hown hl hn h2
    go_enter Tryz.func42, Tryz.ntmps42
    go_wp2_with fail
    go_loopw [3] (fun s5 wr => ∃ k : Nat, s5 = .int .i64 k ∧ 1 ≤ k ∧ k ≤ n ∧ Hid ((∀ i, i < k → keepB l i = true) ∧ OB base wr g cap l ∧ Below base w wr)) (fun s5 _ => n - (intOf s5).toNat)
    case atStart => exact ⟨1, rfl, Nat.le_refl _, hn1, ⟨fun i hi => by rw [show i = 0 by omega]; rfl, O0.out, Below.refl _ _⟩⟩
    case round =>
      clear O0
      generalize wr = wo at *
      obtain ⟨k, rfl, hk1, hkn, HK⟩ := hrel
      by_cases hin : k < n
      · obtain ⟨q, rfl⟩ : ∃ q, k = q + 1 := ⟨k - 1, by omega⟩
        obtain ⟨x, hx⟩ : ∃ x, l[q + 1]? = some x := ⟨_, List.getElem?_eq_getElem (by rw [HN.out]; exact hin)⟩
        obtain ⟨y, hy⟩ : ∃ y, l[q]? = some y := ⟨_, List.getElem?_eq_getElem (by rw [HN.out]; omega)⟩
        have HXY : Hid (keepB l (q + 1) = !vlEq x y) := keep_at hy hx
        obtain ⟨x0, x1, x2⟩ := HK.out.2.1.at hx
        obtain ⟨y0, y1, y2⟩ := HK.out.2.1.at hy
        have hgl : g < wo.heap.size := lt_of_blk HK.out.2.1.blk.choose_spec.1
        obtain ⟨B, hB⟩ : ∃ B, vlEq x y = B := ⟨_, rfl⟩
        have HB : Hid (vlEq x y = B) := hB
        have heq : ∀ W, (binOp BinOp.eql 36 (V x.k x.n x.s) (V y.k y.n y.s)).run Tryz.prog W = .ok (.bool B) W := fun W => by rw [eqInW, ← hB]; rfl
        have x0q : ∀ m, (wo.drewN m).cell? ⟨g, (q + 1) * 3, none⟩ = some (.int .i64 x.k) := fun m => x0
        have x1q : ∀ m, (wo.drewN m).cell? ⟨g, (q + 1) * 3 + 1, none⟩ = some (.int .i64 x.n) := fun m => x1
        have x2q : ∀ m, (wo.drewN m).cell? ⟨g, (q + 1) * 3 + 2, none⟩ = some (.string x.s) := fun m => x2
        have y0q : ∀ m, (wo.drewN m).cell? ⟨g, q * 3, none⟩ = some (.int .i64 y.k) := fun m => y0
        have y1q : ∀ m, (wo.drewN m).cell? ⟨g, q * 3 + 1, none⟩ = some (.int .i64 y.n) := fun m => y1
        have y2q : ∀ m, (wo.drewN m).cell? ⟨g, q * 3 + 2, none⟩ = some (.string y.s) := fun m => y2
        clear hB
        have e1 : ((q + 1 : Nat) : Int) = (q : Int) + 1 := rfl
        have hq0 : (0 : Int) ≤ (q : Int) := by omega
        have hqN : (q : Int) < (n : Int) := by omega
        have hq1 : (q : Int) + 1 < (n : Int) := by omega
        have hq2 : (0 : Int) ≤ (q : Int) + 1 := by omega
        have hqt : ((q : Int) + 1).toNat = q + 1 := by omega
        have hw1 : IntKind.i64.wrap ((q : Int) + 1 - 1) = (q : Int) := by rw [Int.add_sub_cancel, IntKind.wrap_i64]; omega
        have hw2 : IntKind.i64.wrap (q : Int) = (q : Int) := by rw [IntKind.wrap_i64]; omega
        have hw3 : (q : Int) + 1 - 1 = (q : Int) := by omega
        rw [e1]
        clear hx hy e1
        go_upto_region 6 with fail
        go_cut [25] (fun s wx => s = .bool B ∧ Below wo.heap.size wo wx)
        case first =>
          go_quiet (fail)
          have HW : Hid (Bw wo (wo.drewN nq)) := Bw.drewN _ _
          clear x0q x1q x2q y0q y1q y2q heq x0 x1 x2 y0 y1 y2
          generalize wo.drewN nq = w2 at *
          go_wp2_with fail
          go_meet
          case rel => exact ⟨rfl, HW.out⟩
        case rest =>
        obtain ⟨rfl, hb2⟩ := hcut
        have HK2 : Hid ((∀ i, i < q + 1 → keepB l i = true) ∧ OB base wc g cap l ∧ Below base w wc) := ⟨HK.out.1, HK.out.2.1.next hb2, HK.out.2.2.trans (hb2.mono (by have := HK.out.2.2.size; omega))⟩
        clear hb2 x0 x1 x2 y0 y1 y2 x0q x1q x2q y0q y1q y2q heq HK hgl
        have hsm := HB.out
        cases B with
        | false =>
          have HS : Hid (keepB l (q + 1) = true) := by show _ = _; rw [HXY.out, hsm]; rfl
          clear hsm
          go_wp2_with fail
          refine ⟨⟨q + 1 + 1, rfl, by omega, by omega, ⟨fun i hi => ?_, HK2.out.2⟩⟩, by simp [intOf]; omega⟩
          by_cases e : i = q + 1
          · subst e; exact HS.out
          · exact HK2.out.1 i (by omega)
        | true =>
          have HS : Hid (keepB l (q + 1) = false) := by show _ = _; rw [HXY.out, hsm]; rfl
          clear hsm
          obtain ⟨k0, hk0⟩ : ∃ k0, q + 1 = k0 := ⟨_, rfl⟩
          obtain ⟨m2, hm2⟩ : ∃ m2, n - k0 = m2 := ⟨_, rfl⟩
          have hki : (q : Int) + 1 = (k0 : Int) := by omega
          have hki0 : (0 : Int) ≤ (k0 : Int) := by omega
          have hkin : (k0 : Int) ≤ (n : Int) := by omega
          have hkic : (k0 : Int) ≤ (cap : Int) := by omega
          have hkcap : ¬ cap = k0 := by omega
          have HK3 : Hid (k0 + m2 = n ∧ 1 ≤ m2 ∧ keepB l k0 = false ∧ (∀ i, i < k0 → keepB l i = true) ∧ OB base wc g cap l ∧ Below base w wc ∧ 1 ≤ k0) := by
            have h1 := HK2.out
            have h2 := HS.out
            rw [hk0] at h1 h2
            exact ⟨by omega, by omega, h2, h1.1, h1.2.1, h1.2.2, by omega⟩
          have hm2n : n - k0 = m2 := hm2
          have hm2' : (n : Int) - (k0 : Int) = (m2 : Int) := by have := HK3.out.1; omega
          have hm2b : m2 ≤ n := by omega
          clear HK2 HS hk0 HXY hw1 hw2 hw3 hqt hq0 hqN hq1 hq2
          rw [hki]
          clear hki
          go_wp2_with fail
          go_loopw [3, 5] (fun s5 s7 wr => ∃ (i j : Nat) (M : List Vl), s5 = .int .i64 i ∧ s7 = .int .i64 j ∧ 1 ≤ j ∧ j ≤ m2 ∧ i < n ∧ Hid (M.length = n ∧ M.take i = cmN l (k0 + j) ∧ i = (cmN l (k0 + j)).length ∧ i + 1 ≤ k0 + j ∧ (∀ t, k0 + j ≤ t + 1 → M[t]? = l[t]?) ∧ OB base wr g cap M ∧ Below base w wr)) (fun _ s7 _ => m2 - (intOf s7).toNat)
          case atStart =>
            obtain ⟨a1, a2, a3, a4, a5, a6, a7⟩ := HK3.out
            have ek : cmN l (k0 + 1) = l.take k0 := by rw [cmN_no a3, cmN_all (by rw [HN.out]; omega) a4]
            exact ⟨k0, 1, l, rfl, rfl, Nat.le_refl _, a2, by omega, ⟨HN.out, ek.symm, by rw [ek, List.length_take, HN.out]; omega, Nat.le_refl _, fun _ _ => rfl, a5, a6⟩⟩
          case round =>
            obtain ⟨i, j, M, rfl, rfl, hj1, hjm, hin2, HL⟩ := hrel
            have hkm := HK3.out.1
            by_cases hjl : j < m2
            · obtain ⟨p, rfl⟩ : ∃ p, j = p + 1 := ⟨j - 1, by omega⟩
              obtain ⟨c1, c2, c3, c4, c5, c6, c7⟩ := HL.out
              obtain ⟨x, hx⟩ : ∃ x, l[k0 + p + 1]? = some x := ⟨_, List.getElem?_eq_getElem (by rw [HN.out]; omega)⟩
              obtain ⟨y, hy⟩ : ∃ y, l[k0 + p]? = some y := ⟨_, List.getElem?_eq_getElem (by rw [HN.out]; omega)⟩
              have HXY : Hid (keepB l (k0 + p + 1) = !vlEq x y ∧ l[k0 + p + 1]? = some x) := ⟨keep_at hy hx, hx⟩
              obtain ⟨x0, x1, x2⟩ := c6.at ((c5 (k0 + p + 1) (by omega)).trans hx)
              obtain ⟨y0, y1, y2⟩ := c6.at ((c5 (k0 + p) (by omega)).trans hy)
              rw [show (k0 + p + 1) * 3 = k0 * 3 + (p + 1) * 3 by omega] at x0 x1 x2
              rw [show (k0 + p) * 3 = k0 * 3 + p * 3 by omega] at y0 y1 y2
              have hgl : g < wr.heap.size := lt_of_blk c6.blk.choose_spec.1
              obtain ⟨B, hB⟩ : ∃ B, vlEq x y = B := ⟨_, rfl⟩
              have HB : Hid (vlEq x y = B) := hB
              have heq : ∀ W, (binOp BinOp.neq 36 (V x.k x.n x.s) (V y.k y.n y.s)).run Tryz.prog W = .ok (.bool (!B)) W := fun W => by rw [neqV, ← hB]; rfl
              have x0q : ∀ m, (wr.drewN m).cell? ⟨g, k0 * 3 + (p + 1) * 3, none⟩ = some (.int .i64 x.k) := fun m => x0
              have x1q : ∀ m, (wr.drewN m).cell? ⟨g, k0 * 3 + (p + 1) * 3 + 1, none⟩ = some (.int .i64 x.n) := fun m => x1
              have x2q : ∀ m, (wr.drewN m).cell? ⟨g, k0 * 3 + (p + 1) * 3 + 2, none⟩ = some (.string x.s) := fun m => x2
              have y0q : ∀ m, (wr.drewN m).cell? ⟨g, k0 * 3 + p * 3, none⟩ = some (.int .i64 y.k) := fun m => y0
              have y1q : ∀ m, (wr.drewN m).cell? ⟨g, k0 * 3 + p * 3 + 1, none⟩ = some (.int .i64 y.n) := fun m => y1
              have y2q : ∀ m, (wr.drewN m).cell? ⟨g, k0 * 3 + p * 3 + 2, none⟩ = some (.string y.s) := fun m => y2
              clear hB
              have e1 : ((p + 1 : Nat) : Int) = (p : Int) + 1 := rfl
              have hq0 : (0 : Int) ≤ (p : Int) := by omega
              have hqN : (p : Int) < (m2 : Int) := by omega
              have hq1 : (p : Int) + 1 < (m2 : Int) := by omega
              have hq2 : (0 : Int) ≤ (p : Int) + 1 := by omega
              have hqt : ((p : Int) + 1).toNat = p + 1 := by omega
              have hw1 : IntKind.i64.wrap ((p : Int) + 1 - 1) = (p : Int) := by rw [Int.add_sub_cancel, IntKind.wrap_i64]; omega
              have hw2 : IntKind.i64.wrap (p : Int) = (p : Int) := by rw [IntKind.wrap_i64]; omega
              have hw3 : (p : Int) + 1 - 1 = (p : Int) := by omega
              rw [e1]
              clear hx hy e1 c1 c2 c3 c4 c5 c6 c7 hkm
              go_upto_region 11 with fail
              go_cut [44] (fun s wx => s = .bool (!B) ∧ Below wr.heap.size wr wx)
              case first =>
                go_quiet (fail)
                have HW : Hid (Bw wr (wr.drewN nq)) := Bw.drewN _ _
                clear x0q x1q x2q y0q y1q y2q heq x0 x1 x2 y0 y1 y2
                generalize wr.drewN nq = w2 at *
                go_wp2_with fail
                go_meet
                case rel => exact ⟨rfl, HW.out⟩
              case rest =>
              obtain ⟨rfl, hb2⟩ := hcut
              have HM : Hid (M.length = n ∧ M.take i = cmN l (k0 + p + 1) ∧ i = (cmN l (k0 + p + 1)).length ∧ i + 1 ≤ k0 + p + 1 ∧ (∀ t, k0 + p + 1 ≤ t + 1 → M[t]? = l[t]?) ∧ OB base wc g cap M ∧ Below base w wc) := by
                obtain ⟨c1, c2, c3, c4, c5, c6, c7⟩ := HL.out
                exact ⟨c1, c2, c3, c4, c5, c6.next hb2, c7.trans (hb2.mono (by have := c7.size; omega))⟩
              clear hb2 x0 x1 x2 y0 y1 y2 x0q x1q x2q y0q y1q y2q heq HL hgl
              have hsm := HB.out
              cases B with
              | true =>
                have HC : Hid (cmN l (k0 + p + 1 + 1) = cmN l (k0 + p + 1)) := cmN_no (by rw [HXY.out.1, hsm]; rfl)
                clear hsm
                rw [show (!true) = false from rfl]
                go_wp2_with fail
                refine ⟨⟨i, p + 1 + 1, M, rfl, rfl, by omega, by omega, hin2, ?_⟩, by simp [intOf]; omega⟩
                obtain ⟨c1, c2, c3, c4, c5, c6, c7⟩ := HM.out
                rw [show k0 + (p + 1 + 1) = k0 + p + 1 + 1 by omega]
                exact ⟨c1, by rw [HC.out]; exact c2, by rw [HC.out]; exact c3, by omega, fun t ht => c5 t (by omega), c6, c7⟩
              | false =>
                have HC : Hid (cmN l (k0 + p + 1 + 1) = cmN l (k0 + p + 1) ++ [x]) := cmN_yes (by rw [HXY.out.1, hsm]; rfl) HXY.out.2
                clear hsm
                rw [show (!false) = true from rfl]
                have hii : (i : Int) < (n : Int) := by omega
                have hii0 : (0 : Int) ≤ (i : Int) := by omega
                obtain ⟨x0, x1, x2⟩ := HM.out.2.2.2.2.2.1.at ((HM.out.2.2.2.2.1 (k0 + p + 1) (by omega)).trans HXY.out.2)
                rw [show (k0 + p + 1) * 3 = k0 * 3 + (p + 1) * 3 by omega] at x0 x1 x2
                obtain ⟨o, ho⟩ : ∃ o, M[i]? = some o := ⟨_, List.getElem?_eq_getElem (by rw [HM.out.1]; exact hin2)⟩
                obtain ⟨o0, o1, o2⟩ := HM.out.2.2.2.2.2.1.at ho
                have hblk := HM.out.2.2.2.2.2.1.blk.choose_spec.1
                have f0 := ofrz hblk (i * 3)
                have f1 := ofrz hblk (i * 3 + 1)
                have f2 := ofrz hblk (i * 3 + 2)
                clear hblk ho
                go_wp2_with fail
                refine ⟨⟨i + 1, p + 1 + 1, M.set i x, rfl, rfl, by omega, by omega, ?_, ?_⟩, by simp [intOf]; omega⟩
                · have h4 := HM.out.2.2.2.1; have := HK3.out.1; omega
                · obtain ⟨c1, c2, c3, c4, c5, c6, c7⟩ := HM.out
                  rw [show k0 + (p + 1 + 1) = k0 + p + 1 + 1 by omega]
                  refine ⟨by rw [List.length_set]; exact c1, ?_, ?_, by omega, fun t ht => ?_, c6.set (by omega) x, ((c7.setCell c6.ge _).setCell c6.ge _).setCell c6.ge _⟩
                  · rw [HC.out, ← c2, List.take_add_one, List.getElem?_set_self (by omega)]
                    rw [List.take_set_of_le (Nat.le_refl _)]
                    rfl
                  · rw [HC.out, List.length_append, ← c3]; rfl
                  · rw [List.getElem?_set_ne (by omega)]; exact c5 t (by omega)
            · have hjl' : ¬ (j : Int) < (m2 : Int) := by omega
              have e : j = m2 := by omega
              subst e
              have hiin : (i : Int) ≤ (n : Int) := by omega
              have hii0 : (0 : Int) ≤ (i : Int) := by omega
              have hiic : (i : Int) ≤ (cap : Int) := by omega
              have hicap : ¬ cap = i := by omega
              have HCl : Hid ((Builtin.clear_ #[34] 0 #[.slice (some ⟨g, i * 3, none⟩) (n - i) (cap - i)]).run Tryz.prog wr = .ok (.tuple #[]) (wr.setCells g (i * 3) (zs3 (n - i)))) := by
                obtain ⟨c1, c2, c3, c4, c5, c6, c7⟩ := HL.out
                obtain ⟨cur, hg, hz⟩ := c6.blk
                refine run_clear3 wr 0 g (i * 3) (n - i) (cap - i) (by omega) (fun t ht => ?_) (fun t ht => ofrz hg _)
                have hc : (vals M)[i * 3 + t]? = some ((vals M)[i * 3 + t]'(by rw [vals_len, c1]; omega)) := List.getElem?_eq_getElem _
                have := c6.cells _ _ hc
                rw [this]; rfl
              have HF : Hid (CmO base w (.slice (some ⟨g, 0, none⟩) i cap) l (wr.setCells g (i * 3) (zs3 (n - i)))) := by
                obtain ⟨c1, c2, c3, c4, c5, c6, c7⟩ := HL.out
                have hkm := HK3.out.1
                have hO := (c6.clear (i := i) (by omega) (zs3 (n - i))).own
                rw [hkm] at c2 c3
                rw [c2, ← c3] at hO
                refine ⟨?_, below_setCells c6.ge _ _ _ _ c7⟩
                rw [HN.out, ← c3]
                exact hO
              have hcl := HCl.out
              generalize hwz : wr.setCells g (i * 3) (zs3 (n - i)) = wz at *
              clear HL HCl hwz
              go_wp2_with fail
              go_ret
              exact ⟨_, rfl, HF.out⟩
      · have hin' : ¬ (k : Int) < (n : Int) := by omega
        have e : k = n := by omega
        subst e
        have HC : Hid (CmO base w (.slice (some ⟨g, 0, none⟩) k cap) l wo) := by
          have e : cmN l l.length = l := by rw [cmN_all (Nat.le_refl _) (fun i hi => HK.out.1 i (by have := HN.out; omega)), List.take_length]
          exact ⟨by rw [e]; have := HK.out.2.1.own; rwa [HN.out] at this ⊢, HK.out.2.2⟩
        go_wp2_with fail
        go_ret
        exact ⟨_, rfl, HC.out⟩
end Go.Proofs.YtbiikodnfaeceaaGreatDoor.so
/- The contract of slices.SortFunc at this program's values, laid out of the shelf in plain words. Nothing is walked here. -/
namespace Go.Proofs
open Go.Shelf
def Tryz.sortV_ren : Go.Shelf.Ren := ⟨fun | 6 => 40 | 15 => 60 | 14 => 59 | 28 => 90 | 29 => 91 | 20 => 82 | 21 => 83 | 22 => 84 | 23 => 85 | 24 => 86 | 25 => 87 | 26 => 88 | 27 => 89 | 46 => 118 | 47 => 119 | 48 => 120 | 49 => 121 | 50 => 122 | 57 => 142 | n => n, fun | 22 => 34 | 24 => 36 | 25 => 76 | 3 => 3 | 39 => 104 | 0 => 0 | 53 => 139 | 55 => 141 | 4 => 4 | 46 => 132 | 45 => 131 | 50 => 136 | 5 => 5 | 9 => 9 | 66 => 158 | 70 => 162 | 76 => 176 | 77 => 177 | n => n, fun | n => n⟩
theorem Tryz.sortV : Go.Proofs.SlLaysF0.n6 Tryz.prog Tryz.sortV_ren := {
  mixed := by kernel_rfl
  f6 := ⟨Tryz.f40.name, by decide, Tryz.func40.trans (congrArg some (by kernel_rfl))⟩
  f14 := ⟨Tryz.f59.name, by decide, Tryz.func59.trans (congrArg some (by kernel_rfl))⟩
  f15 := Tryz.func60.trans (congrArg some (by kernel_rfl))
  f20 := ⟨Tryz.f82.name, by decide, Tryz.func82.trans (congrArg some (by kernel_rfl))⟩
  f21 := ⟨Tryz.f83.name, by decide, Tryz.func83.trans (congrArg some (by kernel_rfl))⟩
  f22 := ⟨Tryz.f84.name, by decide, Tryz.func84.trans (congrArg some (by kernel_rfl))⟩
  f23 := ⟨Tryz.f85.name, by decide, Tryz.func85.trans (congrArg some (by kernel_rfl))⟩
  f24 := ⟨Tryz.f86.name, by decide, Tryz.func86.trans (congrArg some (by kernel_rfl))⟩
  f25 := ⟨Tryz.f87.name, by decide, Tryz.func87.trans (congrArg some (by kernel_rfl))⟩
  f26 := ⟨Tryz.f88.name, by decide, Tryz.func88.trans (congrArg some (by kernel_rfl))⟩
  f27 := ⟨Tryz.f89.name, by decide, Tryz.func89.trans (congrArg some (by kernel_rfl))⟩
  f28 := Tryz.func90.trans (congrArg some (by kernel_rfl))
  f29 := Tryz.func91.trans (congrArg some (by kernel_rfl))
  f46 := ⟨Tryz.f118.name, by decide, Tryz.func118.trans (congrArg some (by kernel_rfl))⟩
  f47 := Tryz.func119.trans (congrArg some (by kernel_rfl))
  f48 := Tryz.func120.trans (congrArg some (by kernel_rfl))
  f49 := ⟨Tryz.f121.name, by decide, Tryz.func121.trans (congrArg some (by kernel_rfl))⟩
  f50 := ⟨Tryz.f122.name, by decide, Tryz.func122.trans (congrArg some (by kernel_rfl))⟩
  f57 := ⟨Tryz.f142.name, by decide, Tryz.func142.trans (congrArg some (by kernel_rfl))⟩
  t0 := Tryz.underlying0
  a0 := Tryz.isAgg0
  z0 := Tryz.sizeOf0
  v0 := Tryz.zeroValue0
  t3 := Tryz.underlying3
  a3 := Tryz.isAgg3
  z3 := Tryz.sizeOf3
  v3 := Tryz.zeroValue3
  t4 := Tryz.underlying4
  a4 := Tryz.isAgg4
  z4 := Tryz.sizeOf4
  v4 := Tryz.zeroValue4
  t5 := Tryz.underlying5
  a5 := Tryz.isAgg5
  z5 := Tryz.sizeOf5
  v5 := Tryz.zeroValue5
  t9 := Tryz.underlying9
  a9 := Tryz.isAgg9
  z9 := Tryz.sizeOf9
  v9 := Tryz.zeroValue9
  t22 := Tryz.underlying34
  a22 := Tryz.isAgg34
  z22 := Tryz.sizeOf34
  v22 := Tryz.zeroValue34
  t25 := Tryz.underlying76
  a25 := Tryz.isAgg76
  z25 := Tryz.sizeOf76
  v25 := Tryz.zeroValue76
  t39 := Tryz.underlying104
  a39 := Tryz.isAgg104
  z39 := Tryz.sizeOf104
  v39 := Tryz.zeroValue104
  t45 := Tryz.underlying131
  a45 := Tryz.isAgg131
  z45 := Tryz.sizeOf131
  v45 := Tryz.zeroValue131
  t46 := Tryz.underlying132
  a46 := Tryz.isAgg132
  z46 := Tryz.sizeOf132
  v46 := Tryz.zeroValue132
  t50 := Tryz.underlying136
  a50 := Tryz.isAgg136
  z50 := Tryz.sizeOf136
  v50 := Tryz.zeroValue136
  t53 := Tryz.underlying139
  a53 := Tryz.isAgg139
  z53 := Tryz.sizeOf139
  v53 := Tryz.zeroValue139
  t55 := Tryz.underlying141
  a55 := Tryz.isAgg141
  z55 := Tryz.sizeOf141
  v55 := Tryz.zeroValue141
  t66 := Tryz.underlying158
  a66 := Tryz.isAgg158
  z66 := Tryz.sizeOf158
  v66 := Tryz.zeroValue158
  t70 := Tryz.underlying162
  a70 := Tryz.isAgg162
  z70 := Tryz.sizeOf162
  v70 := Tryz.zeroValue162
  t76 := Tryz.underlying176
  a76 := Tryz.isAgg176
  z76 := Tryz.sizeOf176
  v76 := Tryz.zeroValue176
  t77 := Tryz.underlying177
  a77 := Tryz.isAgg177
  z77 := Tryz.sizeOf177
  v77 := Tryz.zeroValue177 }
end Go.Proofs

/- A group that is being made, in memory: its key and the values of its column are lists that grow. Nothing is walked here. Conditions: as each theorem says. -/
namespace Go.Proofs.YtbiikodnfaeceaaGreatDoor.so
open Go.RowKit Go.Sort Go.Shelf
theorem own_vm {b : Nat} {v : Value} {xs : List Vl} {wx : World} (h : wx.ownsRow b 36 3 v xs.length (vals xs)) : ∃ p c, v = .slice p xs.length c ∧ VM wx p xs.length (nthV xs) ∧ (0 < xs.length → ∃ g, p = some ⟨g, 0, none⟩ ∧ b ≤ g ∧ g < wx.heap.size) := by
  rcases h.2 with ⟨rfl, h0⟩ | ⟨g, cap, cur, rfl, hb, hg, hc, hm, hz, ht⟩
  · exact ⟨none, 0, by rw [h0], .inl h0, fun h' => by omega⟩
  · refine ⟨_, _, rfl, .inr ⟨g, 0, rfl, (Array.getElem?_eq_some_iff.1 hg).1, fun i hi => ?_⟩, fun _ => ⟨g, rfl, hb, (Array.getElem?_eq_some_iff.1 hg).1⟩⟩
    have hx : xs[i]? = some (nthV xs i) := by
      unfold nthV
      rw [List.getD_eq_getElem?_getD, List.getElem?_eq_getElem hi]
      rfl
    obtain ⟨a, b, c⟩ := vals_at hx
    have key : ∀ t u, t < xs.length * 3 → (vals xs)[t]? = some u → wx.cell? ⟨g, t, none⟩ = some u := fun t u ht' hu => by
      have e : (cur.toList.take (xs.length * 3))[t]? = (vals xs)[t]? := by rw [ht]
      rw [List.getElem?_take, if_pos ht', Array.getElem?_toList, hu] at e
      simp only [World.cell?, hg]
      exact e
    simp only [Nat.zero_add]
    exact ⟨key _ _ (by omega) a, key _ _ (by omega) b, key _ _ (by omega) c⟩
/-- One value more. -/
theorem own_push {b : Nat} {v : Value} {xs : List Vl} {wx : World} (h : wx.ownsRow b 36 3 v xs.length (vals xs)) (hb : b ≤ wx.heap.size) (hl : xs.length < 1000000) (y : Vl) :
    ∃ g c w', (Builtin.append_ #[34, 34] 34 #[v, .slice (some ⟨wx.heap.size, 0, none⟩) 1 1]).run Tryz.prog (wx.alloc (.cells #[.int .i64 y.k, .int .i64 y.n, .string y.s] 36)) = .ok (.slice (some ⟨g, 0, none⟩) (xs.length + 1) c) w' ∧ w'.ownsRow b 36 3 (.slice (some ⟨g, 0, none⟩) (xs.length + 1) c) (xs ++ [y]).length (vals (xs ++ [y])) ∧ (wx.alloc (.cells #[.int .i64 y.k, .int .i64 y.n, .string y.s] 36)).grownBy w' v.ownBlock := by
  obtain ⟨i0, hi, hz0, hz1, hz2⟩ := info_parts infoV
  have hmax : maxLen = 9223372036854775807 := rfl
  have h1 := own_next h (Bw.al wx (.cells #[.int .i64 y.k, .int .i64 y.n, .string y.s] 36))
  obtain ⟨g, c, w', r1, r2, r3, -, -⟩ := run_append_lies (P := Tryz.prog) (w := wx.alloc (.cells #[.int .i64 y.k, .int .i64 y.n, .string y.s] 36)) 34 34 b 36 i0 (.agg #[.int .i64 0, .int .i64 0, .string nul]) 3 32 Tryz.underlying34 hi hz0 hz1 hz2 rfl (by decide) v xs.length (vals xs) h1 ⟨wx.heap.size, 0, none⟩ 1 1 (v3 y) rfl (World.news_of_block (heap_alloc_new wx _)) (by simp [Value.oneCell', v3]) (by decide) (by omega) (by omega) (by simp; omega) _ rfl
  refine ⟨g, c, w', r1, ?_, r3⟩
  have e : vals (xs ++ [y]) = vals xs ++ v3 y := by rw [vals_app]; simp [vals]
  rw [e, List.length_append]
  exact r2
/-- A block of another type is no list's. -/
theorem own_ne {W : World} {B b k : Nat} {cs : Array Value} {t : TypeId} {v : Value} {xs : List Value} (h : W.heap[B]? = some (.cells cs t (0, 0))) (ht : t ≠ 36) (hr : W.ownsRow b 36 3 v k xs) : v.ownBlock ≠ some B := by
  rcases hr.2 with ⟨rfl, -⟩ | ⟨g, cap, cur, rfl, -, hg, -⟩
  · simp [Value.ownBlock]
  · intro e
    have : g = B := by simpa [Value.ownBlock] using e
    subst this
    rw [h] at hg
    injection hg with hg
    injection hg with _ h2 _
    exact ht h2
abbrev GBk (vk : Value) (cnt sk sn : Int) (ss : ByteArray) : Obj := .cells #[vk, .int .i64 cnt, .int .i64 sk, .int .i64 sn, .string ss] 38 (0, 0)
/-- A group that is being made, with its key so far. -/
structure KY (w0 : World) (vk : Value) (xs : List Vl) (cnt : Int) (wx : World) : Prop where
  blk : wx.heap[w0.heap.size]? = some (GBk vk cnt 0 0 nul)
  own : wx.ownsRow w0.heap.size 36 3 vk xs.length (vals xs)
  below : Bw w0 wx
theorem KY.start (w : World) : KY w (.slice none 0 0) [] 0 (w.alloc (.cells #[.slice none 0 0, .int .i64 0, .int .i64 0, .int .i64 0, .string nul] 38)) := ⟨heap_alloc_new _ _, ⟨rfl, .inl ⟨rfl, rfl⟩⟩, Bw.al _ _⟩
theorem KY.next {w0 : World} {vk : Value} {xs : List Vl} {cnt : Int} {wx wy : World} (h : KY w0 vk xs cnt wx) (hb : Bw wx wy) : KY w0 vk xs cnt wy := ⟨bk h.blk hb, own_next h.own hb, h.below.tr hb⟩
theorem gcells {w : World} {b : Nat} {vk : Value} {cnt sk sn : Int} {ss : ByteArray} (h : w.heap[b]? = some (GBk vk cnt sk sn ss)) : w.cell? ⟨b, 0, none⟩ = some vk ∧ w.cell? ⟨b, 1, none⟩ = some (.int .i64 cnt) ∧ w.cell? ⟨b, 2, none⟩ = some (.int .i64 sk) ∧ w.cell? ⟨b, 3, none⟩ = some (.int .i64 sn) ∧ w.cell? ⟨b, 4, none⟩ = some (.string ss) := by simp [World.cell?, h]
theorem blk_setC {w : World} {b o : Nat} {cs : Array Value} {t : TypeId} (h : w.heap[b]? = some (.cells cs t (0, 0))) (u : Value) : (w.setCell ⟨b, o, none⟩ u).heap[b]? = some (.cells (cs.setIfInBounds o u) t (0, 0)) := by
  show (w.heap.modify b _)[b]? = _
  rw [Array.getElem?_modify, if_pos rfl, h]
  rfl
/-- One more value of its key. -/
theorem KY.put {w0 : World} {vk : Value} {xs : List Vl} {cnt : Int} {wx w' : World} (h : KY w0 vk xs cnt wx) {v' : Value} {ys : List Vl} (hg : wx.grownBy w' vk.ownBlock) (ho : w'.ownsRow w0.heap.size 36 3 v' ys.length (vals ys)) : KY w0 v' ys cnt (w'.setCell ⟨w0.heap.size, 0, none⟩ v') := by
  have hne := own_ne h.blk (by decide) h.own
  have hlt := lt_of_blk h.blk
  have hb7 : w'.heap[w0.heap.size]? = some (GBk vk cnt 0 0 nul) := (hg.block _ hlt (fun e => hne e.symm)).trans h.blk
  have hbw : Bw w0 w' := h.below.grown hg h.below.size (fun q hq => (h.own.lt q hq).1)
  refine ⟨by rw [blk_setC hb7]; rfl, ownsRow_setCell_other ho (own_ne hb7 (by decide) ho) _, hbw.setCell (Nat.le_refl _) _⟩
/-- The group's count, and the values of its column so far. -/
structure RY (w0 : World) (b1 : Nat) (vk : Value) (xs : List Vl) (cnt : Int) (va : Value) (ys : List Vl) (wx : World) : Prop where
  ky : KY w0 vk xs cnt wx
  lo : ∀ b, vk.ownBlock = some b → b < b1
  gt : w0.heap.size < b1 ∧ b1 ≤ wx.heap.size
  own : wx.ownsRow b1 36 3 va ys.length (vals ys)
theorem RY.start {w0 : World} {vk : Value} {xs : List Vl} {cnt : Int} {wx : World} (h : KY w0 vk xs cnt wx) : RY w0 wx.heap.size vk xs cnt (.slice none 0 0) [] wx := ⟨h, fun b hb => (h.own.lt b hb).2, ⟨lt_of_blk h.blk, Nat.le_refl _⟩, ⟨rfl, .inl ⟨rfl, rfl⟩⟩⟩
theorem RY.next {w0 : World} {b1 : Nat} {vk : Value} {xs : List Vl} {cnt : Int} {va : Value} {ys : List Vl} {wx wy : World} (h : RY w0 b1 vk xs cnt va ys wx) (hb : Bw wx wy) : RY w0 b1 vk xs cnt va ys wy := ⟨h.ky.next hb, h.lo, ⟨h.gt.1, Nat.le_trans h.gt.2 hb.size⟩, own_next h.own hb⟩
theorem RY.inc {w0 : World} {b1 : Nat} {vk : Value} {xs : List Vl} {cnt : Int} {va : Value} {ys : List Vl} {wx : World} (h : RY w0 b1 vk xs cnt va ys wx) (m : Int) : RY w0 b1 vk xs m va ys (wx.setCell ⟨w0.heap.size, 1, none⟩ (.int .i64 m)) :=
  ⟨⟨by rw [blk_setC h.ky.blk]; rfl, ownsRow_setCell_other h.ky.own (own_ne h.ky.blk (by decide) h.ky.own) _, h.ky.below.setCell (Nat.le_refl _) _⟩, h.lo, ⟨h.gt.1, by rw [World.size_setCell]; exact h.gt.2⟩, ownsRow_setCell_other h.own (own_ne h.ky.blk (by decide) h.own) _⟩
theorem RY.push {w0 : World} {b1 : Nat} {vk : Value} {xs : List Vl} {cnt : Int} {va : Value} {ys : List Vl} {wx : World} (h : RY w0 b1 vk xs cnt va ys wx) (hl : ys.length < 1000000) (y : Vl) :
    ∃ g c w', (Builtin.append_ #[34, 34] 34 #[va, .slice (some ⟨wx.heap.size, 0, none⟩) 1 1]).run Tryz.prog (wx.alloc (.cells #[.int .i64 y.k, .int .i64 y.n, .string y.s] 36)) = .ok (.slice (some ⟨g, 0, none⟩) (ys.length + 1) c) w' ∧ RY w0 b1 vk xs cnt (.slice (some ⟨g, 0, none⟩) (ys.length + 1) c) (ys ++ [y]) w' := by
  obtain ⟨g, c, w', r1, r2, r3⟩ := own_push h.own h.gt.2 hl y
  have h1 := h.next (Bw.al wx (.cells #[.int .i64 y.k, .int .i64 y.n, .string y.s] 36))
  have hlow : ∀ b, b < b1 → w'.heap[b]? = (wx.alloc (.cells #[.int .i64 y.k, .int .i64 y.n, .string y.s] 36)).heap[b]? := fun b hb => r3.block b (Nat.lt_of_lt_of_le hb h1.gt.2) (fun e => by have := (h1.own.lt b e.symm).1; omega)
  refine ⟨g, c, w', r1, ⟨⟨(hlow _ h.gt.1).trans h1.ky.blk, ?_, h1.ky.below.grown r3 h1.ky.below.size (fun q hq => by have := (h1.own.lt q hq).1; have := h.gt.1; omega)⟩, h.lo, ⟨h.gt.1, Nat.le_trans h1.gt.2 r3.size⟩, r2⟩⟩
  obtain ⟨q0, q1⟩ := h1.ky.own
  refine ⟨q0, ?_⟩
  rcases q1 with q1 | ⟨g', cap', cur', e1, e2, e3, e4⟩
  · exact .inl q1
  · exact .inr ⟨g', cap', cur', e1, e2, (hlow g' (h.lo g' (by rw [e1]; rfl))).trans e3, e4⟩
end Go.Proofs.YtbiikodnfaeceaaGreatDoor.so
namespace Go.Proofs.YtbiikodnfaeceaaGreatDoor.so
open Go.RowKit Go.Sort Go.Shelf
def cfV (x y : Vl) : Int := x.cmp y
theorem ltV (x y : Vl) : ltOf cfV x y = decide (x.cmp y < 0) := rfl
theorem swoV : SWO (ltOf cfV) where
  irrefl x := by rw [ltV]; have := Vl.cmp_self x; simp; omega
  trans x y z h1 h2 := by
    rw [ltV] at *
    simp only [decide_eq_true_eq] at *
    have k1 := Vl.cmp_trans (x := x) (y := y) (z := z) (by omega) (by omega)
    have k2 := Vl.cmp_neg x z
    have k3 := Vl.cmp_neg x y
    have k4 := Vl.cmp_neg y z
    by_cases h : x.cmp z = 0
    · have k5 := Vl.cmp_trans (x := z) (y := x) (z := y) (by omega) (by omega)
      omega
    · omega
  ntrans x y z h1 h2 := by
    rw [ltV] at *
    simp only [decide_eq_false_iff_not, Int.not_lt] at *
    have k2 := Vl.cmp_neg x z
    have k3 := Vl.cmp_neg x y
    have k4 := Vl.cmp_neg y z
    have k1 := Vl.cmp_trans (x := z) (y := y) (z := x) (by omega) (by omega)
    omega
theorem laysV [Inhabited Vl] (blk off size : Nat) (w : World) : CmpLays Tryz.prog 41 #[] v3 3 cfV blk off size w :=
  fun _ _ _ _ x y => vcmp_gr x y _
theorem below_sorted {α : Type} [Inhabited α] (enc : α → List Value) (k : Nat) (w : World) (blk off m : Nat) (d : Array α) (os : Array Obj) {base : Nat} (h : base ≤ blk) (hw : base ≤ w.heap.size) : Below base w (sortWorldK enc k w blk off m d os) := by
  refine ⟨rfl, rfl, rfl, size_sortWorldK_c enc k w blk off m d os, fun i hi => ?_⟩
  unfold sortWorldK putRowK putRow mapBlock Go.Sort.ahead grow
  have hs : i < w.heap.size := Nat.lt_of_lt_of_le hi hw
  simp only
  rw [Array.getElem?_append_left (by simpa using hs), Array.getElem?_modify, if_neg (by omega)]
theorem blk_sorted {α : Type} [Inhabited α] (enc : α → List Value) (k : Nat) (w : World) (blk off m : Nat) (d : Array α) (os : Array Obj) {cur : Array Value} {t : TypeId} {fr : Nat × Nat} (h : w.heap[blk]? = some (.cells cur t fr)) : ∃ cur' : Array Value, (sortWorldK enc k w blk off m d os).heap[blk]? = some (.cells cur' t fr) ∧ cur'.size = cur.size := by
  have hs := lt_of_blk h
  unfold sortWorldK putRowK putRow mapBlock Go.Sort.ahead grow
  simp only
  rw [Array.getElem?_append_left (by simpa using hs), Array.getElem?_modify, if_pos rfl, h]
  refine ⟨_, rfl, ?_⟩
  unfold putCells
  simp
theorem PermIn_list {α : Type} [Inhabited α] {d d' : Array α} (h : PermIn 0 d.size d d') : d.toList.Perm d'.toList := by
  have h2 := h.2.2
  rw [Array.extract_size, show d.size = d'.size from h.1.symm, Array.extract_size] at h2
  exact h2.symm
theorem get_bang {α : Type} [Inhabited α] {l : List α} {i : Nat} (h : i < l.length) : l[i]? = some l[i]! := by
  rw [List.getElem?_eq_getElem h, getElem!_pos l i h]
theorem vals_one (l : List Vl) : ∀ v ∈ vals l, v.oneCell' = true := by
  intro v hv
  obtain ⟨x, -, hx⟩ := List.mem_flatMap.1 hv
  unfold v3 at hx
  simp at hx
  rcases hx with rfl | rfl | rfl <;> rfl
/-- What SortFunc leaves. -/
def SVO (base : Nat) (v : Value) (l : List Vl) (w : World) (w' : World) : Prop := ∃ Z : List Vl, Z.Perm l ∧ Z.Pairwise (fun a b => a.cmp b ≤ 0) ∧ w'.ownsRow base 36 3 v Z.length (vals Z) ∧ Below base w w'
set_option maxHeartbeats 1000000 in
theorem sortV_any (v : Value) (l : List Vl) (base : Nat) (w : World) (hown : w.ownsRow base 36 3 v l.length (vals l)) (hbase : base ≤ w.heap.size) (hl : l.length ≤ 1000) :
    Calls Tryz.prog 40 #[v, .func (.func 41) #[] #[]] w fun e w' => e = .returned (.tuple #[]) ∧ SVO base v l w w' := by
  haveI : Inhabited Vl := ⟨⟨0, 0, nul⟩⟩
  rcases hown.2 with ⟨rfl, h0⟩ | ⟨g, cap, cur, rfl, hbg, hg, hcap, hm, hz, ht⟩
  · have hcon := AnyF.slices_SortFunc_none Tryz.sortV none 0 (.func (.func 41) #[] #[]) w
    change Calls Tryz.prog 40 _ _ _ at hcon
    refine hcon.mono ?_
    rintro e w' ⟨rfl, rfl⟩
    have e0 : l = [] := List.length_eq_zero_iff.1 h0
    subst e0
    exact ⟨rfl, [], List.Perm.refl _, List.Pairwise.nil, hown, Below.refl _ _⟩
  · have hO : OB base w g cap l := OB.of hown rfl
    have hlt := lt_of_blk hg
    have hH : HoldsK v3 3 w g 0 l.toArray := by
      intro j hj
      rw [size_flatK] at hj
      have hj' : j < l.length * 3 := by simpa using hj
      have hi : j / 3 < l.length := by omega
      refine ⟨?_, ofrz hg _⟩
      rw [get_flatK v3 3 l.toArray j hj, Nat.zero_add]
      refine hO.cells j _ ?_
      have hx : l[j / 3]? = some l[j / 3] := List.getElem?_eq_getElem hi
      have hj3 : j % 3 < 3 := Nat.mod_lt _ (by decide)
      have hv : (v3 l[j / 3])[j % 3]? = some (v3 l[j / 3])[j % 3]! := get_bang (show j % 3 < (v3 l[j / 3]).length from hj3)
      have := valsv_at hx hv
      rw [show j / 3 * 3 + j % 3 = j by omega] at this
      rw [this]
      have e5 : l.toArray[j / 3]! = l[j / 3] := by rw [getElem!_pos _ _ (by simpa using hi)]; simp
      rw [e5]
      rfl
    have hcon := AnyQ.slices_SortFunc Tryz.sortV 3 Tryz.isAgg36 Tryz.sizeOf36 v3 (fun _ => rfl) (fun x v hv => vals_one [x] v (by simpa [vals] using hv)) cfV swoV 41 #[] g 0 cap l.toArray w (enters_of Tryz.func41 (by kernel_rfl) rfl) (laysV g 0 _ w) hH hlt (by simp; omega)
    change Calls Tryz.prog 40 _ _ _ at hcon
    have e6 : l.toArray.size = l.length := by simp
    rw [e6] at hcon
    refine hcon.mono ?_
    rintro e w' ⟨rfl, d', n, os, hp, hs, rfl⟩
    rw [← e6] at hp hs
    have hsz : d'.size = l.length := by have := hp.1; simpa using this
    have hperm : l.Perm d'.toList := by have := PermIn_list hp; simpa using this
    have hpw : d'.toList.Pairwise (fun a b => a.cmp b ≤ 0) := by
      rw [List.pairwise_iff_getElem]
      intro i j hi hj hij
      have hj' : j < d'.size := by simpa using hj
      have h1 := hs i j (Nat.zero_le _) hij (by rw [hsz] at hj'; simpa using hj')
      have ex : d'[i]! = d'.toList[i] := by rw [getElem!_pos _ i (by omega)]; simp
      have ey : d'[j]! = d'.toList[j] := by rw [getElem!_pos _ j hj']; simp
      rw [ex, ey, ltV] at h1
      simp only [decide_eq_false_iff_not, Int.not_lt] at h1
      have := Vl.cmp_neg d'.toList[i] d'.toList[j]
      omega
    have hH' : HoldsK v3 3 (sortWorldK v3 3 w g 0 n d' os) g 0 d' := holdsK_sortWorldK v3 3 w g 0 n l.toArray d' os hlt hH (by simpa using hsz)
    obtain ⟨cur', hg', hz'⟩ := blk_sorted v3 3 w g 0 n d' os hg
    have hlen : d'.toList.length = l.length := by simpa using hsz
    have hOB : OB base (sortWorldK v3 3 w g 0 n d' os) g cap d'.toList := by
      refine ⟨fun t u hu => ?_, ⟨cur', hg', by rw [hz', hz]⟩, by rw [hlen]; exact hO.le, hO.max, hO.ge⟩
      have htl := (List.getElem?_eq_some_iff.1 hu).1
      rw [vals_len] at htl
      have hi : t / 3 < d'.size := by simp at htl; omega
      have hc := (HoldsK.cell hH' hi (c := t % 3) (Nat.mod_lt _ (by decide))).1
      rw [show 0 + t / 3 * 3 + t % 3 = t by omega] at hc
      rw [hc]
      have hx : d'.toList[t / 3]? = some d'[t / 3]! := by rw [getElem!_pos d' (t / 3) hi]; simp
      have hj3 : t % 3 < 3 := Nat.mod_lt _ (by decide)
      have hv : (v3 d'[t / 3]!)[t % 3]? = some (v3 d'[t / 3]!)[t % 3]! := get_bang (show t % 3 < (v3 d'[t / 3]!).length from hj3)
      have := valsv_at hx hv
      rw [show t / 3 * 3 + t % 3 = t by omega, hu] at this
      exact this.symm
    have hown' := hOB.own
    rw [← hlen]
    exact ⟨rfl, d'.toList, hperm.symm, hpw, hown', below_sorted v3 3 w g 0 n d' os hbg hbase⟩
theorem ddL_last (l : List Vl) : (ddL l).getLast? = l.getLast? := by
  obtain ⟨r, rfl⟩ : ∃ r : List Vl, l = r.reverse := ⟨l.reverse, by simp⟩
  induction r with
  | nil => simp [ddL]
  | cons v r ih =>
    rw [List.reverse_cons, ddL_snoc]
    cases hl : (ddL r.reverse).getLast? with
    | none =>
      have e0 : ddL r.reverse = [] := List.getLast?_eq_none_iff.1 hl
      rw [e0, ddS_nil]
      simp
    | some t =>
      cases e : vlEq t v with
      | true => rw [ddS_yes hl e, hl, vlEq_iff.1 e]; simp
      | false => rw [ddS_no hl e]; simp
theorem vlEq_comm (x y : Vl) : vlEq x y = vlEq y x := by rw [Bool.eq_iff_iff, vlEq_iff, vlEq_iff]; exact ⟨fun h => h.symm, fun h => h.symm⟩
theorem cmN_dd (l : List Vl) : ∀ j, j ≤ l.length → cmN l j = ddL (l.take j)
  | 0, _ => rfl
  | j + 1, h => by
    have ih := cmN_dd l j (by omega)
    have hx : l[j]? = some l[j] := List.getElem?_eq_getElem (by omega)
    rw [List.take_succ_eq_append_getElem (by omega), ddL_snoc, ← ih]
    cases j with
    | zero =>
      rw [cmN_yes (x := l[0]) rfl hx]
      rfl
    | succ i =>
      have hy : l[i]? = some l[i] := List.getElem?_eq_getElem (by omega)
      have hk := keep_at hy hx
      have hlast : (cmN l (i + 1)).getLast? = some l[i] := by
        rw [ih, ddL_last, List.take_succ_eq_append_getElem (by omega)]
        exact List.getLast?_concat
      cases e : vlEq l[i + 1] l[i] with
      | true =>
        rw [cmN_no (by rw [hk, e]; rfl), ddS_yes hlast (by rw [vlEq_comm]; exact e)]
      | false =>
        rw [cmN_yes (by rw [hk, e]; rfl) hx, ddS_no hlast (by rw [vlEq_comm]; exact e)]
set_option maxRecDepth 100000 in
set_option maxHeartbeats 4000000 in
theorem eachOnce_any (T : Tb) (p : Option Addr) (cp k : Nat) (w : World) (hT : TM w p T) (hS : Snd T) (hx : colOk T (k : Int)) :
    Calls Tryz.prog 25 #[.slice p T.q cp, .int .i64 (k : Int)] w fun e w' => ECO T k w e w' := by
  have HT : Hid (TM w p T) := hT
  have HS : Hid (Snd T) := hS
  have HX : Hid (colOk T (k : Int)) := hx
  have hq60 := hS.few
  obtain ⟨q, eq⟩ : ∃ q, T.q = q := ⟨_, rfl⟩
  have HEQ : Hid (T.q = q) := eq
  rw [eq] at hq60 ⊢
  clear hT hS hx eq
  go_enter Tryz.func25, Tryz.ntmps25
  go_wp2_with fail
  go_loopw [5, 10] (fun s5 s10 wr => ∃ j : Nat, s10 = .int .i64 j ∧ j ≤ q ∧ Hid (VV w s5 (uptoV (fun i => T.v i k) j) wr)) (fun _ s10 _ => q - (intOf s10).toNat)
  case atStart => exact ⟨0, rfl, Nat.zero_le _, VV.nil w⟩
  case round =>
    obtain ⟨j, rfl, hj, HV⟩ := hrel
    by_cases hlt : j < q
    · have hlt' : (j : Int) < (q : Int) := by omega
      have hj0 : (0 : Int) ≤ (j : Int) := by omega
      have hjT : j < T.q := by rw [HEQ.out]; exact hlt
      have hkL := (HS.out.col HX.out hjT).2.2.1
      rw [Int.toNat_natCast] at hkL
      rcases HT.out.next HV.out.below with h | ⟨gt, ot, rfl, hgt, ht3⟩
      · omega
      obtain ⟨y0, hvm⟩ := ht3 j hjT
      rcases hvm with h | ⟨g1, o1, e1, hg1, hv3⟩
      · omega
      rw [e1] at y0
      obtain ⟨y1, y2, y3⟩ := hv3 k hkL
      have hk0 : (0 : Int) ≤ (k : Int) := by omega
      have hk1 : (k : Int) < (T.L j : Int) := by omega
      generalize T.L j = lj at *
      generalize T.C j = cj at *
      have hlen := uptoV_len (fun i => T.v i k) j
      obtain ⟨pv, cv, e5, -⟩ := HV.out.vm
      rw [hlen] at e5
      subst e5
      obtain ⟨g2, cc2, w3, hr, hV3⟩ := HV.out.one (by rw [hlen]; omega) (T.v j k)
      rw [hlen] at hr hV3
      have HV3 : Hid (VV w (.slice (some ⟨g2, 0, none⟩) (j + 1) cc2) (uptoV (fun i => T.v i k) (j + 1)) w3) := by
        show VV _ _ _ _
        rw [uptoV_succ]
        exact hV3
      obtain ⟨x, hx⟩ : ∃ x, T.v j k = x := ⟨_, rfl⟩
      rw [hx] at hr y1 y2 y3
      clear hx hV3 ht3 hv3 e1 hgt hg1 hkL
      obtain ⟨xk, xn, xs⟩ := x
      dsimp only at hr y1 y2 y3
      have HR : Hid ((Builtin.append_ #[34, 34] 34 #[.slice pv j cv, .slice (some ⟨wr.heap.size, 0, none⟩) 1 1]).run Tryz.prog (wr.alloc (.cells #[.int .i64 xk, .int .i64 xn, .string xs] 36)) = .ok (.slice (some ⟨g2, 0, none⟩) (j + 1) cc2) w3) := hr
      clear HV hr hlen
      go_wp2_with (first | (at_builtin; refine wpList_append_eq rfl _ _ 34 rfl _ _ _ _ rfl rfl HR.out ?_))
      exact ⟨⟨j + 1, by simp, hlt, HV3⟩, by simp [intOf]; omega⟩
    · have hlt' : ¬ (j : Int) < (q : Int) := by omega
      have hjq : j = q := by omega
      subst hjq
      have hlen := uptoV_len (fun i => T.v i k) j
      have hso := sortV_any u5 (uptoV (fun i => T.v i k) j) w.heap.size wr HV.out.own HV.out.below.size (by rw [hlen]; omega)
      have HB0 : Hid (Bw w wr) := HV.out.below
      clear HV
      go_wp2_with fail
      refine hso.mono ?_
      clear hso
      rintro e w1 ⟨rfl, Z, hp, hpw, hown, hbel⟩
      have hZl : Z.length = j := by rw [hp.length_eq, hlen]
      have HB1 : Hid (Bw w w1) := HB0.out.trans hbel
      have hcm := compact_any u5 Z w.heap.size w1 hown HB1.out.size (by omega)
      have HH : Hid (Hds T k (ddL Z)) := Hds.of (Z := List.range T.q) (List.Perm.refl _) (by rw [HEQ.out]; exact hp) hpw (fun i hi => HS.out.ok i hi k (by have := (HS.out.col HX.out hi).2.2.1; simpa using this))
      have HCD : Hid (cmN Z Z.length = ddL Z) := by show _ = _; rw [cmN_dd Z Z.length (Nat.le_refl _), List.take_length]
      clear hp hpw hown hbel hlen
      go_wp2_with fail
      refine hcm.mono ?_
      clear hcm
      rintro e w2 ⟨u, rfl, hou, hbu⟩
      rw [HCD.out] at hou
      obtain ⟨pv, cv, eu, hvm, -⟩ := own_vm hou
      subst eu
      have HE : Hid (ECO T k w (.returned (.slice pv (ddL Z).length cv)) w2) := ⟨ddL Z, pv, cv, rfl, HH.out, hvm, HB1.out.trans hbu⟩
      clear hou hbu hvm
      go_wp2_with fail
      go_ret
      exact HE.out
end Go.Proofs.YtbiikodnfaeceaaGreatDoor.so
