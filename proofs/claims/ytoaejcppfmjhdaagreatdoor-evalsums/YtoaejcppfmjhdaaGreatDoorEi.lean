/- A child, read out of its list. Nothing is walked here. -/
import Derived.Test.YtoaejcppfmjhdaaGreatDoorFx
import Derived.Test.YtoaejcppfmjhdaaGreatDoorFm3
import Derived.Deep.RegionHeld3
import Derived.Test.YtoaejcppfmjhdaaGreatDoorEg
namespace Go.Proofs.YtoaejcppfmjhdaaGreatDoor.fm
open Go.RowKit
theorem Nd.twelve {w : World} {P : Nat → Prop} {v : Value} {t : T} (h : Nd w P v t) : v.cells.toList.length = 12 := by
  cases h; rfl
theorem cellsL_at : ∀ (us : List Value), (∀ (i : Nat) u, us[i]? = some u → u.cells.toList.length = 12) → ∀ (i j : Nat) u, us[i]? = some u → j < 12 → (cellsL us)[i * 12 + j]? = u.cells.toList[j]?
  | [], _, i, j, u, h, _ => by simp at h
  | v :: us, h12, i, j, u, h, hj => by
    have h0 := h12 0 v rfl
    show (v.cells.toList ++ cellsL us)[i * 12 + j]? = _
    cases i with
    | zero =>
      simp at h
      subst h
      rw [List.getElem?_append_left (by omega)]
      congr 1
      omega
    | succ i =>
      rw [List.getElem?_append_right (by omega), h0, show (i + 1) * 12 + j - 12 = i * 12 + j from by omega]
      exact cellsL_at us (fun i u hu => h12 (i + 1) u hu) i j u h hj
/-- A child, read out of its list. -/
theorem kid_at {w : World} {P : Nat → Prop} {p : Option Addr} {n c : Nat} {us : List Value} {ts : List T} (hk : Kids w P p n c us) (hl : us.length = ts.length) (hs : ∀ (i : Nat) u t', us[i]? = some u → ts[i]? = some t' → Nd w P u t') (i : Nat) (hi : i < n) :
    ∃ g o u t', p = some ⟨g, o, none⟩ ∧ g < w.heap.size ∧ us[i]? = some u ∧ ts[i]? = some t' ∧ ∀ j x, u.cells.toList[j]? = some x → w.cell? ⟨g, o + i * 12 + j, none⟩ = some x := by
  obtain ⟨h1, h2⟩ := hk
  rcases h2 with ⟨_, h3, _⟩ | ⟨g, o, h3, h4, h5, h6⟩
  · omega
  have hi1 : i < us.length := by omega
  have hi2 : i < ts.length := by omega
  have h12 : ∀ (i : Nat) u, us[i]? = some u → u.cells.toList.length = 12 := fun i u hu => by
    have hj : i < us.length := (List.getElem?_eq_some_iff.1 hu).1
    exact (hs i u _ hu (List.getElem?_eq_getElem (by omega))).twelve
  have hc : ∀ j x, us[i].cells.toList[j]? = some x → w.cell? ⟨g, o + i * 12 + j, none⟩ = some x := fun j x hx => by
    have hj : j < 12 := by
      have := (List.getElem?_eq_some_iff.1 hx).1
      rw [h12 i _ (List.getElem?_eq_getElem hi1)] at this
      exact this
    have := h6 (i * 12 + j) x (by rw [cellsL_at us h12 i j _ (List.getElem?_eq_getElem hi1) hj]; exact hx)
    rw [Nat.add_assoc]; exact this
  refine ⟨g, o, us[i], ts[i], h3, ?_, List.getElem?_eq_getElem hi1, List.getElem?_eq_getElem hi2, hc⟩
  have hN := hs i _ _ (List.getElem?_eq_getElem hi1) (List.getElem?_eq_getElem hi2)
  have h0 : (0 : Nat) < us[i].cells.toList.length := by rw [hN.twelve]; omega
  have := hc 0 _ (List.getElem?_eq_getElem h0)
  unfold World.cell? at this
  rcases Nat.lt_or_ge g w.heap.size with h | h
  · exact h
  · rw [Array.getElem?_eq_none h] at this
    simp at this
end Go.Proofs.YtoaejcppfmjhdaaGreatDoor.fm
/- Package eval: an argument is worked out. Conditions: as each theorem says. -/
namespace Go.Proofs.YtoaejcppfmjhdaaGreatDoor.ev
open Go.RowKit
/-- Two blocks made one behind the other. -/
theorem two_new (w : World) (a b : Obj) : ((w.alloc a).alloc b).heap[w.heap.size]? = some a ∧ ((w.alloc a).alloc b).heap[w.heap.size + 1]? = some b := by
  refine ⟨?_, ?_⟩
  · exact (((Below.refl (w.heap.size + 1) _).alloc (by simp) _).block w.heap.size (by omega)).trans (heap_alloc_new w _)
  · rw [show w.heap.size + 1 = (w.alloc a).heap.size by simp]
    exact heap_alloc_new _ _
/-- The call's block, and a node in its list. -/
structure KV (w : World) (M : Value) (g o q c i : Nat) (u : Value) (wx : World) : Prop where
  call : wx.heap[w.heap.size]? = some (.cells #[M, .slice (some ⟨g, o, none⟩) q c] 123 (0, 0))
  kid : ∀ jj x, u.cells.toList[jj]? = some x → wx.cell? ⟨g, o + i * 12 + jj, none⟩ = some x
  below : Below w.heap.size w wx
section
variable {w : World} {M : Value} {g o q c i : Nat} {u : Value} {wx : World}
theorem KV.next (h : KV w M g o q c i u wx) (hg : g < w.heap.size) {wy : World} (hb : Below wx.heap.size wx wy) : KV w M g o q c i u wy :=
  ⟨(hb.block _ (fm.lt_blk h.call)).trans h.call, fun jj x hx => by rw [hb.cell (p := ⟨g, _, none⟩) (Nat.lt_of_lt_of_le hg h.below.size)]; exact h.kid jj x hx, bnext h.below hb h.below.size⟩
theorem KV.set3 (h : KV w M g o q c i u wx) (hg : g < w.heap.size) (u0 u1 u2 : Value) : KV w M g o q c i u (((wx.setCell ⟨w.heap.size + 1, 0, none⟩ u0).setCell ⟨w.heap.size + 1, 1, none⟩ u1).setCell ⟨w.heap.size + 1, 2, none⟩ u2) :=
  ⟨by rw [blk_else (by omega), blk_else (by omega), blk_else (by omega)]; exact h.call,
   fun jj x hx => by rw [World.cell?_of_block (a := ⟨g, _, none⟩) (w := wx) (show _ = wx.heap[g]? from by rw [blk_else (i := g) (by omega), blk_else (i := g) (by omega), blk_else (i := g) (by omega)])]; exact h.kid jj x hx,
   ((h.below.setCell (by simp) _).setCell (by simp) _).setCell (by simp) _⟩
/-- The same, opened. -/
abbrev KVO (w : World) (M : Value) (g o q c i : Nat) (k1 n1 : Int) (s1 : ByteArray) (ra rb : fm.Rf) (p1 : Option Addr) (m1 q1 : Nat) (wx : World) : Prop :=
  wx.cell? ⟨w.heap.size, 0, none⟩ = some M ∧ wx.cell? ⟨w.heap.size, 1, none⟩ = some (.slice (some ⟨g, o, none⟩) q c) ∧ wx.cell? ⟨g, o + i * 12, none⟩ = some (.int .i64 k1) ∧ wx.cell? ⟨g, o + i * 12 + 1, none⟩ = some (.int .i64 n1) ∧ wx.cell? ⟨g, o + i * 12 + 2, none⟩ = some (.string s1) ∧ wx.cell? ⟨g, o + i * 12 + 3, none⟩ = some (.int .i64 ra.c) ∧ wx.cell? ⟨g, o + i * 12 + 4, none⟩ = some (.int .i64 ra.r) ∧ wx.cell? ⟨g, o + i * 12 + 5, none⟩ = some (.bool ra.fc) ∧ wx.cell? ⟨g, o + i * 12 + 6, none⟩ = some (.bool ra.fr) ∧ wx.cell? ⟨g, o + i * 12 + 7, none⟩ = some (.int .i64 rb.c) ∧ wx.cell? ⟨g, o + i * 12 + 8, none⟩ = some (.int .i64 rb.r) ∧ wx.cell? ⟨g, o + i * 12 + 9, none⟩ = some (.bool rb.fc) ∧ wx.cell? ⟨g, o + i * 12 + 10, none⟩ = some (.bool rb.fr) ∧ wx.cell? ⟨g, o + i * 12 + 11, none⟩ = some (.slice p1 m1 q1) ∧ KV w M g o q c i (fm.NV k1 n1 s1 ra rb (.slice p1 m1 q1)) wx
theorem KV.opened {k1 n1 : Int} {s1 : ByteArray} {ra rb : fm.Rf} {p1 : Option Addr} {m1 q1 : Nat} (h : KV w M g o q c i (fm.NV k1 n1 s1 ra rb (.slice p1 m1 q1)) wx) : KVO w M g o q c i k1 n1 s1 ra rb p1 m1 q1 wx :=
  ⟨by simp [World.cell?, h.call], by simp [World.cell?, h.call], h.kid 0 _ rfl, h.kid 1 _ rfl, h.kid 2 _ rfl, h.kid 3 _ rfl, h.kid 4 _ rfl, h.kid 5 _ rfl, h.kid 6 _ rfl, h.kid 7 _ rfl, h.kid 8 _ rfl, h.kid 9 _ rfl, h.kid 10 _ rfl, h.kid 11 _ rfl, h⟩
theorem kvo {k1 n1 : Int} {s1 : ByteArray} {ra rb : fm.Rf} {p1 : Option Addr} {m1 q1 : Nat} (h : KVO w M g o q c i k1 n1 s1 ra rb p1 m1 q1 wx) : KV w M g o q c i (fm.NV k1 n1 s1 ra rb (.slice p1 m1 q1)) wx := h.2.2.2.2.2.2.2.2.2.2.2.2.2.2
end
set_option maxHeartbeats 1600000 in
theorem value_any {w0 : World} {P : Nat → Prop} {p : Option Addr} {q c : Nat} {us : List Value} {ts : List fm.T} (hk : fm.Kids w0 P p q c us) (hl : us.length = ts.length) (hs : ∀ (i : Nat) u t', us[i]? = some u → ts[i]? = some t' → fm.Nd w0 P u t') (M : Value) (i : Nat) (hi : i < q) (k m : Int) (z : ByteArray)
    (HC : Hid (∀ wx u, us[i]? = some u → Below w0.heap.size w0 wx → Calls Tryz.prog 29 #[M, u] wx fun e w' => e = .returned (VV k m z) ∧ Below wx.heap.size wx w')) (w : World) (hb : Below w0.heap.size w0 w) :
    Calls Tryz.prog 243 #[.agg #[M, .slice p q c], .int .i64 i] w fun e w' => e = .returned (VV k m z) ∧ Below w.heap.size w w' := by
  obtain ⟨g, o, u, t1, rfl, hg, hu, ht1, hcc⟩ := fm.kid_at hk hl hs i hi
  have hNd := hs i u t1 hu ht1
  have HCU : Hid (∀ wx, Below w0.heap.size w0 wx → Calls Tryz.prog 29 #[M, u] wx fun e w' => e = .returned (VV k m z) ∧ Below wx.heap.size wx w') := fun wx h => HC.out wx u hu h
  have hgw : g < w.heap.size := Nat.lt_of_lt_of_le hg hb.size
  have hbW : Below w.heap.size w ((w.alloc (.cells #[M, .slice (some ⟨g, o, none⟩) q c] 123)).alloc (.cells #[.int .i64 0, .int .i64 0, .string nul] 31)) := ((Below.refl _ _).alloc (Nat.le_refl _) _).alloc (by simp) _
  obtain ⟨hA, hR⟩ := two_new w (.cells #[M, .slice (some ⟨g, o, none⟩) q c] 123) (.cells #[.int .i64 0, .int .i64 0, .string nul] 31)
  have hKV : KV w M g o q c i u ((w.alloc (.cells #[M, .slice (some ⟨g, o, none⟩) q c] 123)).alloc (.cells #[.int .i64 0, .int .i64 0, .string nul] 31)) := ⟨hA, fun jj x hx => by rw [hbW.cell (p := ⟨g, _, none⟩) hgw, hb.cell (p := ⟨g, _, none⟩) hg]; exact hcc jj x hx, hbW⟩
  have HR : Hid (∀ wx, Below ((w.alloc (.cells #[M, .slice (some ⟨g, o, none⟩) q c] 123)).alloc (.cells #[.int .i64 0, .int .i64 0, .string nul] 31)).heap.size ((w.alloc (.cells #[M, .slice (some ⟨g, o, none⟩) q c] 123)).alloc (.cells #[.int .i64 0, .int .i64 0, .string nul] 31)) wx → wx.heap[w.heap.size + 1]? = some (.cells #[.int .i64 0, .int .i64 0, .string nul] 31 (0, 0))) := fun wx h => (h.block _ (fm.lt_blk hR)).trans hR
  have HB0 : Hid (Below w0.heap.size w0 w) := hb
  cases hNd with
  | @mk k1 n1 s1 ra rb p1 m1 q1 us1 ts1 _ _ _ =>
  have hlt' : (i : Int) < (q : Int) := by omega
  have hj' : (0 : Int) ≤ (i : Int) := by omega
  have h0d := (hKV.next hgw (Below.refl _ _).drew).opened
  have hb0 : Below ((w.alloc (.cells #[M, .slice (some ⟨g, o, none⟩) q c] 123)).alloc (.cells #[.int .i64 0, .int .i64 0, .string nul] 31)).heap.size ((w.alloc (.cells #[M, .slice (some ⟨g, o, none⟩) q c] 123)).alloc (.cells #[.int .i64 0, .int .i64 0, .string nul] 31)) ((w.alloc (.cells #[M, .slice (some ⟨g, o, none⟩) q c] 123)).alloc (.cells #[.int .i64 0, .int .i64 0, .string nul] 31)).drew := (Below.refl _ _).drew
  obtain ⟨y0, y1, x0, x1, x2, x3, x4, x5, x6, x7, x8, x9, x10, x11, -⟩ := hKV.opened
  clear hA hR hbW hcc HC hk hl hs hb hu ht1 hKV hg hi
  go_enter Tryz.func243, Tryz.ntmps243
  go_wp2_with fail
  go_region_held3 (fun wx => KVO w M g o q c i k1 n1 s1 ra rb p1 m1 q1 wx) (first | exact h0d | exact ((kvo (by assumption)).next hgw (by assumption)).opened | exact ((kvo (by assumption)).set3 hgw _ _ _).opened) (first | (go_at_call 29; refine (HCU.out _ (bnext HB0.out (kvo h0d).below HB0.out.size)).mono ?_; rintro e w1 ⟨rfl, hb1⟩; have hq1 := HR.out w1 (bnext hb0 hb1 hb0.size); have HB : Hid (Below w.heap.size w w1) := bnext (kvo h0d).below hb1 (kvo h0d).below.size; obtain ⟨c0, c1, c2⟩ := cells3v hq1; have f0 : ∀ o, w1.frozen? ⟨w.heap.size + 1, o, none⟩ = false := fun o => by simp [World.frozen?, hq1]))
  all_goals
    have HQ1 : Hid (w1.heap[w.heap.size + 1]? = some (.cells #[.int .i64 0, .int .i64 0, .string nul] 31 (0, 0))) := hq1
    clear hq1 hb1 h0d hb0 HCU HR HB0
    go_wp2_with fail
    refine fin3 HQ1.out (Q := bodyPost _ _ _ _ _) ?_
    clear c0 c1 c2 f0
    intro w2 hq2 hk2
    obtain ⟨d0, d1, d2⟩ := cells3v hq2
    exact bodyPost_ret (v := VV k m z) (by simp [results, Tryz.results243, go_sem, d0, d1, d2]) rfl ⟨rfl, HB.out.trans (hk2 _ (by omega))⟩
end Go.Proofs.YtoaejcppfmjhdaaGreatDoor.ev
