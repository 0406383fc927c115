
/- Package pick: keys that rise, the values of a row, the sum of a column. Conditions: as each theorem says. -/
import Derived.Test.YtbiikodnfaeceaaGreatDoorOw
import Derived.Test.YtbiikodnfaeceaaGreatDoorUb
namespace Go.Proofs.YtbiikodnfaeceaaGreatDoor.so
open Go.RowKit Go.Sort Go.Shelf
theorem infoK : (Tryz.prog.info? 48).map (fun i => (i.zero, i.size, i.bytes)) = some (some (.agg #[.int .i64 0, .bool false]), 2, 16) := by kernel_rfl
def k2 (x : Int) : List Value := [.int .i64 x, .bool false]
def keysL (l : List Int) : List Value := l.flatMap k2
theorem keysL_app (l m : List Int) : keysL (l ++ m) = keysL l ++ keysL m := by unfold keysL; rw [List.flatMap_append]
theorem keysL_at {l : List Int} {i : Nat} {x : Int} (h : l[i]? = some x) : (keysL l)[i * 2]? = some (.int .i64 x) ∧ (keysL l)[i * 2 + 1]? = some (.bool false) := by
  induction l generalizing i with
  | nil => simp at h
  | cons y l ih =>
    have e : keysL (y :: l) = k2 y ++ keysL l := by unfold keysL; rw [List.flatMap_cons]
    rw [e]
    cases i with
    | zero =>
      have e2 : y = x := by simpa using h
      subst e2
      exact ⟨rfl, rfl⟩
    | succ i =>
      have h' : l[i]? = some x := by simpa using h
      obtain ⟨a, b⟩ := ih h'
      have hl : (k2 y).length = 2 := rfl
      refine ⟨?_, ?_⟩
      · rw [List.getElem?_append_right (by rw [hl]; omega), hl, show (i + 1) * 2 - 2 = i * 2 by omega]; exact a
      · rw [List.getElem?_append_right (by rw [hl]; omega), hl, show (i + 1) * 2 + 1 - 2 = i * 2 + 1 by omega]; exact b
/-- A list of rising keys of one's own, and all that stood stands. -/
structure KV (w : World) (v : Value) (xs : List Int) (wx : World) : Prop where
  own : wx.ownsRow w.heap.size 48 2 v xs.length (keysL xs)
  below : Bw w wx
theorem KV.nil (w : World) : KV w (.slice none 0 0) [] w := ⟨⟨rfl, .inl ⟨rfl, rfl⟩⟩, Below.refl _ _⟩
theorem KV.next {w : World} {v : Value} {xs : List Int} {wx wy : World} (h : KV w v xs wx) (hb : Bw wx wy) : KV w v xs wy := ⟨own_next h.own hb, h.below.tr hb⟩
theorem KV.one {w : World} {v : Value} {xs : List Int} {wx : World} (h : KV w v xs wx) (hl : xs.length < 4398046511104) (y : Int) :
    ∃ g c w', (Builtin.append_ #[46, 46] 46 #[v, .slice (some ⟨wx.heap.size, 0, none⟩) 1 1]).run Tryz.prog (wx.alloc (.cells #[.int .i64 y, .bool false] 48)) = .ok (.slice (some ⟨g, 0, none⟩) (xs.length + 1) c) w' ∧ KV w (.slice (some ⟨g, 0, none⟩) (xs.length + 1) c) (xs ++ [y]) w' := by
  obtain ⟨i0, hi, hz0, hz1, hz2⟩ := info_parts infoK
  have hmax : maxLen = 9223372036854775807 := rfl
  have h1 := h.next (Bw.al wx (.cells #[.int .i64 y, .bool false] 48))
  obtain ⟨g, c, w', r1, r2, r3, -, -⟩ := run_append_lies (P := Tryz.prog) (w := wx.alloc (.cells #[.int .i64 y, .bool false] 48)) 46 46 w.heap.size 48 i0 (.agg #[.int .i64 0, .bool false]) 2 16 Tryz.underlying46 hi hz0 hz1 hz2 rfl (by decide) v xs.length (keysL xs) h1.own ⟨wx.heap.size, 0, none⟩ 1 1 (k2 y) rfl (World.news_of_block (heap_alloc_new wx _)) (by simp [Value.oneCell', k2]) (by decide) (by omega) (by omega) h1.below.size _ rfl
  refine ⟨g, c, w', r1, ⟨?_, h1.below.grown r3 h1.below.size (fun q hq => (h1.own.lt q hq).1)⟩⟩
  have e : keysL (xs ++ [y]) = keysL xs ++ k2 y := by rw [keysL_app]; simp [keysL]
  rw [e, List.length_append]
  exact r2
theorem KV.km {w : World} {v : Value} {xs : List Int} {wx : World} (h : KV w v xs wx) : ∃ p c, v = .slice p xs.length c ∧ KM wx p xs.length (fun i => xs.getD i 0) (fun _ => false) := by
  rcases h.own.2 with ⟨rfl, h0⟩ | ⟨g, cap, cur, rfl, hb, hg, hc, hm, hz, ht⟩
  · exact ⟨none, 0, by rw [h0], .inl h0⟩
  · refine ⟨_, _, rfl, .inr ⟨g, 0, rfl, (Array.getElem?_eq_some_iff.1 hg).1, fun i hi => ?_⟩⟩
    have hx : xs[i]? = some (xs.getD i 0) := by rw [List.getD_eq_getElem?_getD, List.getElem?_eq_getElem hi]; rfl
    obtain ⟨a, b⟩ := keysL_at hx
    have key : ∀ t u, t < xs.length * 2 → (keysL xs)[t]? = some u → wx.cell? ⟨g, t, none⟩ = some u := fun t u ht' hu => by
      have e : (cur.toList.take (xs.length * 2))[t]? = (keysL xs)[t]? := by rw [ht]
      rw [List.getElem?_take, if_pos ht', Array.getElem?_toList, hu] at e
      simp only [World.cell?, hg]
      exact e
    simp only [Nat.zero_add]
    exact ⟨key _ _ (by omega) a, key _ _ (by omega) b⟩
set_option maxRecDepth 100000 in
set_option maxHeartbeats 4000000 in
theorem rising_any (p : Option Addr) (n cc : Nat) (c : Nat → Int) (w : World) (hI : IM w p n c) (hn : n ≤ 4398046511104) :
    Calls Tryz.prog 19 #[.slice p n cc] w fun e w' => ∃ v, e = .returned v ∧ KV w v (colsL c n) w' := by
  have HI : Hid (IM w p n c) := hI
  clear hI
  go_enter Tryz.func19, Tryz.ntmps19
  go_wp2_with fail
  go_loopw [3, 8] (fun vl vi wr => ∃ j : Nat, vi = .int .i64 j ∧ j ≤ n ∧ Hid (KV w vl (colsL c j) wr)) (fun _ vi _ => n - (intOf vi).toNat)
  case atStart => exact ⟨0, rfl, Nat.zero_le _, KV.nil w⟩
  case round =>
    obtain ⟨j, rfl, hj, HV⟩ := hrel
    by_cases hlt : j < n
    · have hlt' : (j : Int) < (n : Int) := by omega
      have hj0 : (0 : Int) ≤ (j : Int) := by omega
      have hjm : (j : Int) ≤ 4398046511104 := by omega
      rcases HI.out.next HV.out.below with h | ⟨g, o, rfl, hg, h3⟩
      · omega
      have y0 := h3 j hlt
      clear h3 hg
      obtain ⟨x, hx⟩ : ∃ x, c j = x := ⟨_, rfl⟩
      have hlen := colsL_len c j
      obtain ⟨pv, cv, rfl, -⟩ := HV.out.km
      obtain ⟨g2, cc2, w3, hr, hV3⟩ := HV.out.one (by rw [hlen]; omega) (c j)
      rw [← colsL_succ] at hV3
      rw [hx] at hr y0
      clear hx
      have HV3 : Hid (KV w (.slice (some ⟨g2, 0, none⟩) ((colsL c j).length + 1) cc2) (colsL c (j + 1)) w3) := hV3
      rw [hlen] at hr HV3 ⊢
      have HR : Hid ((Builtin.append_ #[46, 46] 46 #[.slice pv j cv, .slice (some ⟨wr.heap.size, 0, none⟩) 1 1]).run Tryz.prog (wr.alloc (.cells #[.int .i64 x, .bool false] 48)) = .ok (.slice (some ⟨g2, 0, none⟩) (j + 1) cc2) w3) := hr
      clear hV3 HV hr hlen
      go_wp2_with (first | (at_builtin; refine wpList_append_eq rfl _ _ 46 rfl _ _ _ _ rfl rfl HR.out ?_))
      exact ⟨⟨j + 1, by simp, hlt, HV3⟩, by simp [intOf]; omega⟩
    · have hj2 : ¬ (j : Int) < (n : Int) := by omega
      have ej : j = n := by omega
      subst ej
      go_wp2_with fail
      go_ret
      exact ⟨_, rfl, HV.out⟩
/-- A row's values in some columns. -/
def keyL (r : Nat → Vl) (c : Nat → Int) (n : Nat) : List Vl := (List.range n).map fun i => r (c i).toNat
theorem keyL_succ (r : Nat → Vl) (c : Nat → Int) (n : Nat) : keyL r c (n + 1) = keyL r c n ++ [r (c n).toNat] := by simp [keyL, List.range_succ]
theorem keyL_len (r : Nat → Vl) (c : Nat → Int) (n : Nat) : (keyL r c n).length = n := by simp [keyL]
theorem keyL_at (r : Nat → Vl) (c : Nat → Int) {n i : Nat} (h : i < n) : nthV (keyL r c n) i = r (c i).toNat := by
  unfold nthV keyL
  rw [List.getD_eq_getElem?_getD, List.getElem?_map, List.getElem?_range h]
  rfl
set_option maxRecDepth 100000 in
set_option maxHeartbeats 4000000 in
theorem valuesIn_any (p1 : Option Addr) (l1 c1 : Nat) (r : Nat → Vl) (p : Option Addr) (n cc : Nat) (c : Nat → Int) (w : World) (hR : VM w p1 l1 r) (hI : IM w p n c) (hn : n ≤ 12) (hc : ∀ i, i < n → 0 ≤ c i ∧ c i < (l1 : Int)) :
    Calls Tryz.prog 22 #[.slice p1 l1 c1, .slice p n cc] w fun e w' => ∃ v, e = .returned v ∧ VV w v (keyL r c n) w' := by
  have HI : Hid (IM w p n c) := hI
  have HR1 : Hid (VM w p1 l1 r) := hR
  have HC : Hid (∀ i, i < n → 0 ≤ c i ∧ c i < (l1 : Int)) := hc
  clear hI hR hc
  go_enter Tryz.func22, Tryz.ntmps22
  go_wp2_with fail
  go_loopw [5, 10] (fun vl vi wr => ∃ j : Nat, vi = .int .i64 j ∧ j ≤ n ∧ Hid (VV w vl (keyL r c j) wr)) (fun _ vi _ => n - (intOf vi).toNat)
  case atStart => exact ⟨0, rfl, Nat.zero_le _, VV.nil w⟩
  case round =>
    obtain ⟨j, rfl, hj, HV⟩ := hrel
    by_cases hlt : j < n
    · have hlt' : (j : Int) < (n : Int) := by omega
      have hj0 : (0 : Int) ≤ (j : Int) := by omega
      rcases HI.out.next HV.out.below with h | ⟨g, o, rfl, hg, h3⟩
      · omega
      have y0 := h3 j hlt
      clear h3 hg
      obtain ⟨hx0, hx1⟩ := HC.out j hlt
      obtain ⟨t, ht⟩ : ∃ t : Nat, c j = (t : Int) := ⟨(c j).toNat, by omega⟩
      rw [ht] at y0 hx0 hx1
      rcases HR1.out.next HV.out.below with h | ⟨g1, o1, rfl, hg1, h1⟩
      · omega
      obtain ⟨z0, z1, z2⟩ := h1 t (by omega)
      clear h1 hg1
      have hlen := keyL_len r c j
      obtain ⟨pv, cv, rfl, -⟩ := HV.out.vm
      obtain ⟨g2, cc2, w3, hr, hV3⟩ := HV.out.one (by rw [hlen]; omega) (r t)
      have HV3 : Hid (VV w (.slice (some ⟨g2, 0, none⟩) ((keyL r c j).length + 1) cc2) (keyL r c (j + 1)) w3) := by
        show VV _ _ _ _
        rw [keyL_succ, ht]
        exact hV3
      rw [hlen] at hr HV3 ⊢
      obtain ⟨x, hx⟩ : ∃ x, r t = x := ⟨_, rfl⟩
      rw [hx] at hr z0 z1 z2
      clear hx hV3 ht
      obtain ⟨xk, xn, xs⟩ := x
      dsimp only at hr z0 z1 z2
      have HR : Hid ((Builtin.append_ #[34, 34] 34 #[.slice pv j cv, .slice (some ⟨wr.heap.size, 0, none⟩) 1 1]).run Tryz.prog (wr.alloc (.cells #[.int .i64 xk, .int .i64 xn, .string xs] 36)) = .ok (.slice (some ⟨g2, 0, none⟩) (j + 1) cc2) w3) := hr
      clear HV hr hlen
      go_wp2_with (first | (at_builtin; refine wpList_append_eq rfl _ _ 34 rfl _ _ _ _ rfl rfl HR.out ?_))
      exact ⟨⟨j + 1, by simp, hlt, HV3⟩, by simp [intOf]; omega⟩
    · have hj2 : ¬ (j : Int) < (n : Int) := by omega
      have ej : j = n := by omega
      subst ej
      go_wp2_with fail
      go_ret
      exact ⟨_, rfl, HV.out⟩
/-- The values of a column in some rows. -/
def colL (T : Tb) (k : Nat) (z : Nat → Nat) (m : Nat) : List Vl := (List.range m).map fun i => T.v (z i) k
theorem colL_succ (T : Tb) (k : Nat) (z : Nat → Nat) (m : Nat) : colL T k z (m + 1) = colL T k z m ++ [T.v (z m) k] := by simp [colL, List.range_succ]
theorem colL_len (T : Tb) (k : Nat) (z : Nat → Nat) (m : Nat) : (colL T k z m).length = m := by simp [colL]
set_option maxRecDepth 100000 in
set_option maxHeartbeats 4000000 in
theorem sumOf_any (T : Tb) (p : Option Addr) (cp : Nat) (p2 : Option Addr) (m c2 : Nat) (z : Nat → Nat) (k : Nat) (w : World) (hT : TM w p T) (hI : IM w p2 m (fun i => (z i : Int))) (hm : m ≤ 60) (_hq : T.q ≤ 60) (hz : ∀ i, i < m → z i < T.q ∧ k < T.L (z i)) (hk : k < 12) (hb : ∀ i, i < m → B64 (T.v (z i) k).n) :
    Calls Tryz.prog 23 #[.slice p T.q cp, .slice p2 m c2, .int .i64 (k : Int)] w fun e w' => e = .returned (V (sumV (colL T k z m) []).k (sumV (colL T k z m) []).n (sumV (colL T k z m) []).s) ∧ Bw w w' := by
  obtain ⟨r, hr⟩ : ∃ r, sumV (colL T k z m) [] = r := ⟨_, rfl⟩
  rw [hr]
  have HS : Hid (∀ p q c wx, q = m → VM wx p q (nthV (colL T k z m)) → Calls Tryz.prog 38 #[.slice p q c] wx fun e w' => e = .returned (V r.k r.n r.s) ∧ Bw wx w') := fun p q c wx eq hv => by
    subst eq
    have := esum_any p q c (by omega) _ wx hv (fun i hi => by
      unfold nthV colL
      rw [List.getD_eq_getElem?_getD, List.getElem?_map, List.getElem?_range hi]
      exact hb i hi)
    have e : uptoV (nthV (colL T k z q)) q = colL T k z q := by
      unfold uptoV colL
      refine List.map_congr_left fun i hi => ?_
      unfold nthV
      rw [List.getD_eq_getElem?_getD, List.getElem?_map, List.getElem?_range (List.mem_range.1 hi)]
      rfl
    rw [e, hr] at this
    exact this
  have HT : Hid (TM w p T) := hT
  have HI : Hid (IM w p2 m (fun i => (z i : Int))) := hI
  have HZ : Hid (∀ i, i < m → z i < T.q ∧ k < T.L (z i)) := hz
  clear hT hI hz hb hr
  obtain ⟨q, eq⟩ : ∃ q, T.q = q := ⟨_, rfl⟩
  rw [eq] at _hq HZ ⊢
  have HEQ : Hid (T.q = q) := eq
  clear eq
  obtain ⟨rk, rn, rs⟩ := r
  dsimp only at HS ⊢
  obtain ⟨W0, hW0⟩ : ∃ W, w.alloc (.cells #[.int .i64 0, .int .i64 0, .string nul] 36) = W := ⟨_, rfl⟩
  have HB0 : Hid (Bw w W0) := by rw [← hW0]; exact Bw.al _ _
  have HQ0 : Hid (W0.heap[w.heap.size]? = some (.cells #[.int .i64 0, .int .i64 0, .string nul] 36 (0, 0))) := by rw [← hW0]; exact heap_alloc_new _ _
  go_enter Tryz.func23, Tryz.ntmps23
  go_wp2_with fail
  go_loopw [7, 12] (fun vl vi wr => ∃ j : Nat, vi = .int .i64 j ∧ j ≤ m ∧ Hid (VV W0 vl (colL T k z j) wr)) (fun _ vi _ => m - (intOf vi).toNat)
  case atStart => exact ⟨0, rfl, Nat.zero_le _, VV.nil W0⟩
  case round =>
    obtain ⟨j, rfl, hj, HV⟩ := hrel
    clear hW0
    by_cases hlt : j < m
    · have hlt' : (j : Int) < (m : Int) := by omega
      have hj0 : (0 : Int) ≤ (j : Int) := by omega
      obtain ⟨hz1, hz2⟩ := HZ.out j hlt
      rcases HI.out.next (HB0.out.tr HV.out.below) with h | ⟨g, o, rfl, hg, h3⟩
      · omega
      have y0 := h3 j hlt
      dsimp only at y0
      clear h3 hg
      rcases HT.out.next (HB0.out.tr HV.out.below) with h | ⟨g1, o1, rfl, hg1, h1⟩
      · have := HEQ.out; omega
      obtain ⟨y1, hvm⟩ := h1 (z j) (by rw [HEQ.out]; exact hz1)
      clear h1 hg1
      obtain ⟨t, ht⟩ : ∃ t, z j = t := ⟨_, rfl⟩
      have HTT : Hid (z j = t) := ht
      rw [ht] at y0 y1 hz1 hz2 hvm
      clear ht
      have hz1' : (t : Int) < (q : Int) := by omega
      have ht0 : (0 : Int) ≤ (t : Int) := by omega
      obtain ⟨lj, hl⟩ : ∃ x, T.L t = x := ⟨_, rfl⟩
      rw [hl] at y1 hz2 hvm
      clear hl
      have hz2' : (k : Int) < (lj : Int) := by omega
      have hk0 : (0 : Int) ≤ (k : Int) := by omega
      generalize T.C t = ct at *
      generalize T.P t = pt at *
      rcases hvm with h | ⟨g4, o4, rfl, hg4, h4⟩
      · omega
      obtain ⟨z0, z1, z2⟩ := h4 k (by omega)
      clear h4 hg4
      have hlen := colL_len T k z j
      obtain ⟨pv, cv, rfl, -⟩ := HV.out.vm
      obtain ⟨g2, cc2, w3, hr, hV3⟩ := HV.out.one (by rw [hlen]; omega) (T.v t k)
      have HV3 : Hid (VV W0 (.slice (some ⟨g2, 0, none⟩) ((colL T k z j).length + 1) cc2) (colL T k z (j + 1)) w3) := by
        show VV _ _ _ _
        rw [colL_succ, HTT.out]
        exact hV3
      rw [hlen] at hr HV3 ⊢
      obtain ⟨x, hx⟩ : ∃ x, T.v t k = x := ⟨_, rfl⟩
      rw [hx] at hr z0 z1 z2
      clear hx hV3
      obtain ⟨xk, xn, xs⟩ := x
      dsimp only at hr z0 z1 z2
      have HR : Hid ((Builtin.append_ #[34, 34] 34 #[.slice pv j cv, .slice (some ⟨wr.heap.size, 0, none⟩) 1 1]).run Tryz.prog (wr.alloc (.cells #[.int .i64 xk, .int .i64 xn, .string xs] 36)) = .ok (.slice (some ⟨g2, 0, none⟩) (j + 1) cc2) w3) := hr
      clear HV hr hlen
      go_wp2_with (first | (at_builtin; refine wpList_append_eq rfl _ _ 34 rfl _ _ _ _ rfl rfl HR.out ?_))
      exact ⟨⟨j + 1, by simp, hlt, HV3⟩, by simp [intOf]; omega⟩
    · have hj2 : ¬ (j : Int) < (m : Int) := by omega
      have ej : j = m := by omega
      subst ej
      obtain ⟨pv, cv, rfl, hvm, -⟩ := HV.out.vm
      have hlen := colL_len T k z j
      have HH : Hid (Calls Tryz.prog 38 #[.slice pv j cv] wr fun e w' => e = .returned (V rk rn rs) ∧ Bw wr w') := by
        rw [hlen] at hvm
        exact HS.out pv j cv wr rfl hvm
      rw [hlen]
      have HB1 : Hid (Bw w wr ∧ wr.heap[w.heap.size]? = some (.cells #[.int .i64 0, .int .i64 0, .string nul] 36 (0, 0))) := ⟨HB0.out.tr HV.out.below, bk HQ0.out HV.out.below⟩
      clear hvm hlen HV HB0 HQ0 HS
      go_wp2_with fail
      refine HH.out.mono ?_
      rintro e w2 ⟨rfl, h5⟩
      have h6 := bk HB1.out.2 h5
      have HB2 : Hid (Bw w w2) := HB1.out.1.tr h5
      clear h5 HB1 HH
      obtain ⟨⟨o0, o1, o2⟩, p0, p1, p2⟩ := cells3 h6
      clear h6
      go_wp2_with fail
      exact bodyPost_ret (v := V rk rn rs) (by simp [results, Tryz.results23, go_sem, o0, o1, o2]) rfl ⟨rfl, HB2.out.trans (below3 (by omega))⟩
end Go.Proofs.YtbiikodnfaeceaaGreatDoor.so
